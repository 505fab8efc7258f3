/- RunsKeeps: who is put, or pushed, stands there, once, and all others still stand; and what may be stays so: the call answers true and changes nothing that was there; for every input. (Written by wip/gen/gen_jlaws.py: change that.) -/
import Derived.Test.YtgloibgmaiadfaaDoorJLow
import Derived.Test.YtgloibgmaiadfaaDoorJReal
import Derived.Test.YtgloibgmaiadfaaDoorM1
namespace Go.Proofs.YtgloibgmaiadfaaDoor.runsKeeps
open Go.ChangeShapes Go.WideShapes Go.ChangeAt Go.RowKit
set_option linter.unusedVariables false

theorem yes_of {P : Prop} (h : P) : true = true ↔ P := ⟨fun _ => h, fun _ => rfl⟩
theorem wpList_append_row_g {w : World} {ops : Array Oper} {rest : List Oper} {o : Oper} {a : Act} {Q : Exit → Act → World → Prop} (s x : Operand)
    (ho : o.op = .call { callee := .builtin .append, args := #[s, x], argTypes := #[41, 41] })
    (hw : Region.wanted o (yielded ops a.tmps) = true)
    (base : Nat) (v : Value) (n : Nat) (xs : List Int) (hs : a.eval s = v) (hown : w.ownsRow base 3 1 v n (xs.map (Value.int .i64)))
    (A : Option Addr) (m c : Nat) (zs : List Int) (hx : a.eval x = .slice A m c) (h : Row w A m c zs) (hb : n + m ≤ 1000000) (hbase : base ≤ w.heap.size)
    (hK : ∀ v' w', w'.ownsRow base 3 1 v' (n + m) ((xs ++ zs).map (Value.int .i64)) → w.grownBy w' v.ownBlock → wpList Tryd.prog ops Q rest (a.put o.dst v') w') : wpList Tryd.prog ops Q (o :: rest) a w := by
  obtain ⟨v', w', hr, h2, h3⟩ := run_append_row w o.type base v n xs hown A m c zs h hb hbase
  refine wpList_step fun K hK' => ?_
  rw [if_pos hw]
  unfold Oper.wp
  simp [execOp, ho, resolve, invoke, builtin, hs, hx, hr, Result.andThen]
  exact hK' _ _ (hK v' w' h2 h3)
theorem bag_row (A B : Option Addr) (n m c d : Nat) (a b : List Int) (w : World) (hp : a.Perm b) (h : Row w A n c a) (hB : Row w B m d b) (hm : m ≤ 1000000) :
    Calls Tryd.prog 20 #[.slice A n c, .slice B m d] w fun e w' => e = .returned (.bool true) ∧ Below w.heap.size w w' := by
  have h1 := h.len
  have h2 := hB.len
  have h3 := hp.length_eq
  obtain rfl : n = m := by omega
  exact bag_any A B n c d a b w (Lib.hid hp) h hB (by omega)
theorem ints_row (A B : Option Addr) (n m c d : Nat) (zs ys : List Int) (w : World) (he : zs = ys) (h : Row w A n c zs) (hb : Row w B m d ys) :
    Calls Tryd.prog 21 #[.slice A n c, .slice B m d] w fun e w' => e = .returned (.bool true) ∧ Below w.heap.size w w' := by
  subst he
  obtain rfl : n = m := h.len.symm.trans hb.len
  exact ints_same A B n c d zs w (Lib.hid h.len) (by have := h.cap; have := h.most; omega) h.row hb.row
theorem keeps_put {r : Jp.Rn} {p g : Int} {pa : Jp.Rn × Int} (hpa : pa = Jp.put r p g) (h : pa.2 = 0) : Jp.whr pa.1 g = (p, -1) ∧ Jp.May pa.1 ∧ (Jp.all pa.1).Perm (Jp.all r ++ [g]) := by
  subst hpa
  obtain ⟨k, rfl, hk, hg, hn, ho, hm, e⟩ := Jp.put_ok h
  rw [e]
  exact ⟨Jp.done_where hm hk hg hn, Jp.done_may hm hk hg hn ho, Jp.perm_done (by omega) hk (Jp.node_lt hm hk)⟩
theorem keeps_push {r : Jp.Rn} {p g : Int} {pa : Jp.Rn × Int} (hpa : pa = Jp.push r p g) (h : pa.2 = 0) : Jp.whr pa.1 g = (-1, p) ∧ Jp.May pa.1 ∧ (Jp.all pa.1).Perm (Jp.all r ++ [g]) := by
  subst hpa
  obtain ⟨k, rfl, hk, hg, hn, hm, e⟩ := Jp.push_ok h
  rw [e]
  exact ⟨Jp.pushed_where hk hn, Jp.pushed_may hm hk hg hn, Jp.perm_pushed hk g⟩
theorem loses_put {r : Jp.Rn} {p g : Int} {pa : Jp.Rn × Int} (hpa : pa = Jp.put r p g) (h : ¬ pa.2 = 0) : Jp.all pa.1 = Jp.all r := by
  subst hpa
  rw [Jp.put_no h]
theorem loses_push {r : Jp.Rn} {p g : Int} {pa : Jp.Rn × Int} (hpa : pa = Jp.push r p g) (h : ¬ pa.2 = 0) : Jp.all pa.1 = Jp.all r := by
  subst hpa
  rw [Jp.push_no h]
set_option maxRecDepth 100000 in
set_option maxHeartbeats 8000000 in
theorem walk (d : Ad) (r : Jp.Rn) (p g : Int) (w : World) (h : RMI (fun b => b < w.heap.size) w d r) (hp : In64 p) (hg : In64 g) (hT : Tab w) :
    Calls Tryd.prog 4 #[jv d r, .int .i64 p, .int .i64 g] w fun e w' => e = .returned (.bool true) ∧ Below w.heap.size w w' := by
  have HIN := Lib.hid h.2
  have HR := Lib.hid h.1
  have HTW := Lib.hid hT
  obtain ⟨A0, nt, ct, R, nr, cr, S, ns, cs⟩ := d
  obtain ⟨V, hV, hX, hB⟩ := B5.start w (.slice A0 nt ct) (.int .i64 r.size) (.slice R nr cr) (.slice S ns cs) (.int .u64 (r.on : Nat)) 35
  have E := Lib.hid hV
  have X0 := Lib.hid hX
  have B0 := Lib.hid hB
  have SH := Lib.hid (jshown_any V (hT.step hB))
  clear h hT hV hX hB
  unfold jv
  go_enter Tryd.func4, Tryd.ntmps4
  go_wp2_with (rw [← E.out])
  clear E
  refine SH.out.mono ?_
  rintro e w1 ⟨rfl, hb1⟩
  have X1 := Lib.hid (X0.out.step hb1)
  have B1 := Lib.hid (held_trans B0.out hb1)
  have p0 := X1.out.c0
  have p1 := X1.out.c1
  have p2 := X1.out.c2
  have p3 := X1.out.c3
  have p4 := X1.out.c4
  have hFW := fun T HT => few_any ⟨A0, nt, ct, R, nr, cr, S, ns, cs⟩ r T w1 HT (HR.out.below B1.out) HIN.out
  unfold jv at hFW
  simp only at hFW
  have FW := Lib.hid hFW
  clear hb1 SH X0 B0 hFW
  go_wp2_with fail
  by_cases hfew : ¬ FewP r
  · refine (FW.out false (Lib.hid (by simp [hfew]))).mono ?_
    rintro e w2 ⟨rfl, hb2⟩
    have BE := Lib.hid (held_trans B1.out hb2)
    go_wp2_with fail
    go_ret
    exact ⟨rfl, BE.out⟩
  have hfew := Classical.not_not.1 hfew
  have HFEW := Lib.hid hfew
  refine (FW.out true (Lib.hid (by simp [hfew]))).mono ?_
  rintro e w2 ⟨rfl, hb2⟩
  have X2 := Lib.hid (X1.out.step hb2)
  have B2 := Lib.hid (held_trans B1.out hb2)
  have p0 := X2.out.c0
  have p1 := X2.out.c1
  have p2 := X2.out.c2
  have p3 := X2.out.c3
  have p4 := X2.out.c4
  clear hb2 FW X1 B1 hfew
  have hMD := jmade_any ⟨A0, nt, ct, R, nr, cr, S, ns, cs⟩ r w2 (HR.out.below B2.out) (fun b hb => Nat.lt_of_lt_of_le hb B2.out.size) HFEW.out.low
  unfold jv at hMD
  simp only at hMD
  have MD := Lib.hid hMD
  clear hMD
  go_wp2_with fail
  refine MD.out.mono ?_
  rintro e w3 ⟨⟨A1, nt1, ct1, R1, nr1, cr1, S1, ns1, cs1⟩, rfl, hm3, hb3⟩
  unfold jv
  simp only
  have hbn := below_new w3 (.cells #[.slice A1 nt1 ct1, .int .i64 r.size, .slice R1 nr1 cr1, .slice S1 ns1 cs1, .int .u64 (r.on : Nat)] 29)
  have hY := B5.new w3 (.slice A1 nt1 ct1) (.int .i64 r.size) (.slice R1 nr1 cr1) (.slice S1 ns1 cs1) (.int .u64 (r.on : Nat)) 29
  obtain ⟨V4, hV4⟩ : ∃ V4, V4 = w3.alloc (.cells #[.slice A1 nt1 ct1, .int .i64 r.size, .slice R1 nr1 cr1, .slice S1 ns1 cs1, .int .u64 (r.on : Nat)] 29) := ⟨_, rfl⟩
  rw [← hV4] at hbn hY
  have E4 := Lib.hid hV4
  have B4 := Lib.hid (held_trans (held_trans B2.out hb3) hbn)
  have P4 := Lib.hid ((X2.out.step hb3).step hbn)
  have Y4 := Lib.hid hY
  have M4 := Lib.hid (show RM (fun b => b < w3.heap.size) V4 ⟨A1, nt1, ct1, R1, nr1, cr1, S1, ns1, cs1⟩ r from (hm3.bound.mono (fun b hb => hb.2)).below hbn)
  have HX4 := Lib.hid (show w3.heap.size < V4.heap.size from hY.lt)
  have HWX := Lib.hid (show w.heap.size ≤ w3.heap.size from (held_trans B2.out hb3).size)
  clear hm3 hb3 hbn hY hV4 MD X2 B2 p0 p1 p2 p3 p4
  obtain ⟨pa, hpa⟩ : ∃ pa, pa = Jp.put r p g := ⟨_, rfl⟩
  obtain ⟨pc, hpc⟩ : ∃ pc, pc = Jp.push r p g := ⟨_, rfl⟩
  have YX4 := Y4
  have MX4 := M4
  have BW4 := B4
  have LOWX := Lib.hid HFEW.out.low
  clear P4 Y4 M4 B4
  have HPA := Lib.hid hpa
  have HPC := Lib.hid hpc
  have LOWa := Lib.hid (show Low pa.1 from by rw [hpa]; exact low_put HFEW.out p g hg)
  have LOWc := Lib.hid (show Low pc.1 from by rw [hpc]; exact low_push HFEW.out p g hg)
  have KA := Lib.hid (keeps_put hpa)
  have KC := Lib.hid (keeps_push hpc)
  have KNA := Lib.hid (loses_put hpa)
  have KNC := Lib.hid (loses_push hpc)
  have hall := all_le HFEW.out.low
  clear hpa hpc
  have hcc := runsAll_any ⟨A1, nt1, ct1, R1, nr1, cr1, S1, ns1, cs1⟩ r V4 MX4.out LOWX.out
  unfold jv at hcc
  simp only at hcc
  have C5 := Lib.hid hcc
  clear hcc
  have t0 := YX4.out.c0
  have t1 := YX4.out.c1
  have t2 := YX4.out.c2
  have t3 := YX4.out.c3
  have t4 := YX4.out.c4
  go_wp2_with (rw [← E4.out])
  clear E4
  refine C5.out.mono ?_
  rintro e V5 ⟨AL, nL, cL, rfl, hra, _, hb⟩
  have YX5 := Lib.hid (YX4.out.step hb)
  have MX5 := Lib.hid (MX4.out.below hb)
  have BW5 := Lib.hid (held_trans BW4.out hb)
  clear BW4 YX4 MX4 
  have L5 := Lib.hid hra
  clear hra hb C5 t0 t1 t2 t3 t4
  have hnl := L5.out.len
  have hnL : nL ≤ 51264 := by omega
  clear hnl hall
  have hcc := runsPut_any ⟨A1, nt1, ct1, R1, nr1, cr1, S1, ns1, cs1⟩ r p g V5 MX5.out (fun b hb => Nat.lt_trans hb YX5.out.lt) LOWX.out hp hg (HTW.out.step BW5.out)
  rw [← HPA.out] at hcc
  unfold jv at hcc
  simp only at hcc
  have C6 := Lib.hid hcc
  clear hcc
  have t0 := YX5.out.c0
  have t1 := YX5.out.c1
  have t2 := YX5.out.c2
  have t3 := YX5.out.c3
  have t4 := YX5.out.c4
  go_wp2_with fail
  refine C6.out.mono ?_
  rintro e u6 ⟨⟨T6, nt6, ct6, R6, nr6, cr6, S6, ns6, cs6⟩, rfl, hm, hb⟩
  unfold jv
  simp only
  have hbn := below_new u6 (.cells #[.slice T6 nt6 ct6, .int .i64 pa.1.size, .slice R6 nr6 cr6, .slice S6 ns6 cs6, .int .u64 (pa.1.on : Nat)] 29)
  have hY := B5.new u6 (.slice T6 nt6 ct6) (.int .i64 pa.1.size) (.slice R6 nr6 cr6) (.slice S6 ns6 cs6) (.int .u64 (pa.1.on : Nat)) 29
  obtain ⟨V6, hV⟩ : ∃ V6, V6 = u6.alloc (.cells #[.slice T6 nt6 ct6, .int .i64 pa.1.size, .slice R6 nr6 cr6, .slice S6 ns6 cs6, .int .u64 (pa.1.on : Nat)] 29) := ⟨_, rfl⟩
  rw [← hV] at hbn hY
  have E6 := Lib.hid hV
  have hbj := hb.trans (hbn.mono hb.size)
  have YX6 := Lib.hid (YX5.out.step hbj)
  have MX6 := Lib.hid (MX5.out.below hbj)
  have L6 := Lib.hid (L5.out.below hbj)
  have BW6 := Lib.hid (held_trans BW5.out hbj)
  clear BW5 YX5 MX5 L5
  have Ya6 := Lib.hid hY
  have Ma6 := Lib.hid ((hm.bound.mono (G := fun b => b < u6.heap.size) (fun b hb => hb.2)).below hbn)
  clear hV hY hbn hm hb hbj C6 t0 t1 t2 t3 t4
  have hcc := runsPush_any ⟨A1, nt1, ct1, R1, nr1, cr1, S1, ns1, cs1⟩ r p g V6 MX6.out (fun b hb => Nat.lt_trans hb YX6.out.lt) LOWX.out hp hg (HTW.out.step BW6.out)
  rw [← HPC.out] at hcc
  unfold jv at hcc
  simp only at hcc
  have C7 := Lib.hid hcc
  clear hcc
  have t0 := YX6.out.c0
  have t1 := YX6.out.c1
  have t2 := YX6.out.c2
  have t3 := YX6.out.c3
  have t4 := YX6.out.c4
  go_wp2_with (rw [← E6.out])
  clear E6
  refine C7.out.mono ?_
  rintro e u7 ⟨⟨T7, nt7, ct7, R7, nr7, cr7, S7, ns7, cs7⟩, rfl, hm, hb⟩
  unfold jv
  simp only
  have hbn := below_new u7 (.cells #[.slice T7 nt7 ct7, .int .i64 pc.1.size, .slice R7 nr7 cr7, .slice S7 ns7 cs7, .int .u64 (pc.1.on : Nat)] 29)
  have hY := B5.new u7 (.slice T7 nt7 ct7) (.int .i64 pc.1.size) (.slice R7 nr7 cr7) (.slice S7 ns7 cs7) (.int .u64 (pc.1.on : Nat)) 29
  obtain ⟨V7, hV⟩ : ∃ V7, V7 = u7.alloc (.cells #[.slice T7 nt7 ct7, .int .i64 pc.1.size, .slice R7 nr7 cr7, .slice S7 ns7 cs7, .int .u64 (pc.1.on : Nat)] 29) := ⟨_, rfl⟩
  rw [← hV] at hbn hY
  have E7 := Lib.hid hV
  have hbj := hb.trans (hbn.mono hb.size)
  have YX7 := Lib.hid (YX6.out.step hbj)
  have MX7 := Lib.hid (MX6.out.below hbj)
  have Ya7 := Lib.hid (Ya6.out.step hbj)
  have Ma7 := Lib.hid (Ma6.out.below hbj)
  have L7 := Lib.hid (L6.out.below hbj)
  have BW7 := Lib.hid (held_trans BW6.out hbj)
  clear BW6 YX6 MX6 Ya6 Ma6 L6
  have Yc7 := Lib.hid hY
  have Mc7 := Lib.hid ((hm.bound.mono (G := fun b => b < u7.heap.size) (fun b hb => hb.2)).below hbn)
  clear hV hY hbn hm hb hbj C7 t0 t1 t2 t3 t4
  by_cases ha : pa.2 = 0
  · skip
    have hE := ha
    obtain ⟨hwh, hmy, hpm⟩ := KA.out hE
    have PMa := Lib.hid hpm
    have MYHa := Lib.hid hmy
    have WHa := Lib.hid hwh
    clear hwh hmy hpm
    have hcc := runsWhere_any ⟨T6, nt6, ct6, R6, nr6, cr6, S6, ns6, cs6⟩ pa.1 g V7 Ma7.out LOWa.out
    rw [WHa.out] at hcc
    unfold jv at hcc
    simp only at hcc
    have C8 := Lib.hid hcc
    clear hcc
    have t0 := Ya7.out.c0
    have t1 := Ya7.out.c1
    have t2 := Ya7.out.c2
    have t3 := Ya7.out.c3
    have t4 := Ya7.out.c4
    go_wp2_with (rw [← E7.out])
    clear E7
    refine C8.out.mono ?_
    rintro e V8 ⟨rfl, hb⟩
    have YX8 := Lib.hid (YX7.out.step hb)
    have MX8 := Lib.hid (MX7.out.below hb)
    have Ya8 := Lib.hid (Ya7.out.step hb)
    have Ma8 := Lib.hid (Ma7.out.below hb)
    have Yc8 := Lib.hid (Yc7.out.step hb)
    have Mc8 := Lib.hid (Mc7.out.below hb)
    have L8 := Lib.hid (L7.out.below hb)
    have BW8 := Lib.hid (held_trans BW7.out hb)
    clear BW7 YX7 MX7 Ya7 Ma7 Yc7 Mc7 L7
    clear hb C8 t0 t1 t2 t3 t4
    have hcc := runsMay_any ⟨T6, nt6, ct6, R6, nr6, cr6, S6, ns6, cs6⟩ pa.1 true V8 (Lib.hid (yes_of MYHa.out)) Ma8.out LOWa.out (HTW.out.step BW8.out)
    unfold jv at hcc
    simp only at hcc
    have C9 := Lib.hid hcc
    clear hcc
    have t0 := Ya8.out.c0
    have t1 := Ya8.out.c1
    have t2 := Ya8.out.c2
    have t3 := Ya8.out.c3
    have t4 := Ya8.out.c4
    go_wp2_with fail
    refine C9.out.mono ?_
    rintro e V9 ⟨rfl, hb⟩
    have YX9 := Lib.hid (YX8.out.step hb)
    have MX9 := Lib.hid (MX8.out.below hb)
    have Ya9 := Lib.hid (Ya8.out.step hb)
    have Ma9 := Lib.hid (Ma8.out.below hb)
    have Yc9 := Lib.hid (Yc8.out.step hb)
    have Mc9 := Lib.hid (Mc8.out.below hb)
    have L9 := Lib.hid (L8.out.below hb)
    have BW9 := Lib.hid (held_trans BW8.out hb)
    clear BW8 YX8 MX8 Ya8 Ma8 Yc8 Mc8 L8
    clear hb C9 t0 t1 t2 t3 t4
    have hcc := runsAll_any ⟨T6, nt6, ct6, R6, nr6, cr6, S6, ns6, cs6⟩ pa.1 V9 Ma9.out LOWa.out
    unfold jv at hcc
    simp only at hcc
    have C10 := Lib.hid hcc
    clear hcc
    have t0 := Ya9.out.c0
    have t1 := Ya9.out.c1
    have t2 := Ya9.out.c2
    have t3 := Ya9.out.c3
    have t4 := Ya9.out.c4
    go_wp2_with fail
    refine C10.out.mono ?_
    rintro e V10 ⟨AQa, nQa, cQa, rfl, hra, _, hb⟩
    have YX10 := Lib.hid (YX9.out.step hb)
    have MX10 := Lib.hid (MX9.out.below hb)
    have Ya10 := Lib.hid (Ya9.out.step hb)
    have Ma10 := Lib.hid (Ma9.out.below hb)
    have Yc10 := Lib.hid (Yc9.out.step hb)
    have Mc10 := Lib.hid (Mc9.out.below hb)
    have L10 := Lib.hid (L9.out.below hb)
    have BW10 := Lib.hid (held_trans BW9.out hb)
    clear BW9 YX9 MX9 Ya9 Ma9 Yc9 Mc9 L9
    have Qa10 := Lib.hid hra
    clear hra hb C10 t0 t1 t2 t3 t4
    have HB0 := Lib.hid (below_new V10 (.cells #[] 3))
    have OA := Lib.hid (World.ownsRow_made (w := V10) (base := V10.heap.size) (e := 3) (size := 1) #[] 0 (Nat.le_refl _) (by unfold maxLen; omega) rfl)
    have R7 := Lib.hid (L10.out.below HB0.out)
    go_wp2_with (at_builtin; refine wpList_append_row_g (.tmp 60) (.tmp 61) rfl (by simp [Region.wanted, yielded]) V10.heap.size (.slice (some ⟨V10.heap.size, 0, none⟩) 0 0) 0 [] rfl ?c1 AL nL cL (Jp.all r) rfl ?c2 (by omega) ?c3 ?_)
    case c1 => exact OA.out
    case c2 => exact R7.out
    case c3 => exact HB0.out.size
    intro va W7 hoa hga
    have OB := Lib.hid (show W7.ownsRow V10.heap.size 3 1 va nL ((Jp.all r).map (Value.int .i64)) from by simpa using hoa)
    have HB7 := Lib.hid (HB0.out.grown hga HB0.out.size (fun q e => by simp [Value.ownBlock] at e; omega))
    clear hoa hga OA R7 HB0
    have hb3 := below_new W7 (.cells #[.int .i64 g] 3)
    have HB8 := Lib.hid (HB7.out.trans (hb3.mono HB7.out.size))
    have OC := Lib.hid (own_below OB.out hb3)
    have HR3 := Lib.hid (row_at W7 g W7.heap.size rfl)
    clear hb3 OB HB7
    go_wp2_with (at_builtin; refine wpList_append_row_g (.tmp 62) (.tmp 64) rfl (by simp [Region.wanted, yielded]) V10.heap.size va nL (Jp.all r) rfl ?c1 (some ⟨W7.heap.size, 0, none⟩) 1 1 [g] rfl ?c2 (by omega) ?c3 ?_)
    case c1 => exact OC.out
    case c2 => exact HR3.out
    case c3 => exact HB8.out.size
    intro vb V11 hob hgb
    have hob2 : V11.ownsRow V10.heap.size 3 1 vb (nL + 1) ((Jp.all r ++ [g]).map (Value.int .i64)) := by simpa using hob
    obtain ⟨Ab, cb, rfl, hrb⟩ := Row.of_own hob2
    have hb := HB8.out.grown hgb HB8.out.size (fun q e => (OC.out.lt q e).1)
    have YX11 := Lib.hid (YX10.out.step hb)
    have MX11 := Lib.hid (MX10.out.below hb)
    have Ya11 := Lib.hid (Ya10.out.step hb)
    have Ma11 := Lib.hid (Ma10.out.below hb)
    have Yc11 := Lib.hid (Yc10.out.step hb)
    have Mc11 := Lib.hid (Mc10.out.below hb)
    have L11 := Lib.hid (L10.out.below hb)
    have Qa11 := Lib.hid (Qa10.out.below hb)
    have BW11 := Lib.hid (held_trans BW10.out hb)
    clear BW10 YX10 MX10 Ya10 Ma10 Yc10 Mc10 L10 Qa10
    have RBa11 := Lib.hid hrb
    clear hob hob2 hgb hrb hb OC HR3 HB8
    go_wp2_with fail
    refine (bag_row _ _ _ _ _ _ _ _ _ PMa.out Qa11.out RBa11.out (by omega)).mono ?_
    rintro e V12 ⟨rfl, hb⟩
    have YX12 := Lib.hid (YX11.out.step hb)
    have MX12 := Lib.hid (MX11.out.below hb)
    have Ya12 := Lib.hid (Ya11.out.step hb)
    have Ma12 := Lib.hid (Ma11.out.below hb)
    have Yc12 := Lib.hid (Yc11.out.step hb)
    have Mc12 := Lib.hid (Mc11.out.below hb)
    have L12 := Lib.hid (L11.out.below hb)
    have Qa12 := Lib.hid (Qa11.out.below hb)
    have RBa12 := Lib.hid (RBa11.out.below hb)
    have BW12 := Lib.hid (held_trans BW11.out hb)
    clear BW11 YX11 MX11 Ya11 Ma11 Yc11 Mc11 L11 Qa11 RBa11
    clear hb Qa12 RBa12
    clear hE
    by_cases hc : pc.2 = 0
    · skip
      have hE := hc
      obtain ⟨hwh, hmy, hpm⟩ := KC.out hE
      have PMc := Lib.hid hpm
      have MYHc := Lib.hid hmy
      have WHc := Lib.hid hwh
      clear hwh hmy hpm
      have hcc := runsWhere_any ⟨T7, nt7, ct7, R7, nr7, cr7, S7, ns7, cs7⟩ pc.1 g V12 Mc12.out LOWc.out
      rw [WHc.out] at hcc
      unfold jv at hcc
      simp only at hcc
      have C13 := Lib.hid hcc
      clear hcc
      have t0 := Yc12.out.c0
      have t1 := Yc12.out.c1
      have t2 := Yc12.out.c2
      have t3 := Yc12.out.c3
      have t4 := Yc12.out.c4
      go_wp2_with fail
      refine C13.out.mono ?_
      rintro e V13 ⟨rfl, hb⟩
      have YX13 := Lib.hid (YX12.out.step hb)
      have MX13 := Lib.hid (MX12.out.below hb)
      have Ya13 := Lib.hid (Ya12.out.step hb)
      have Ma13 := Lib.hid (Ma12.out.below hb)
      have Yc13 := Lib.hid (Yc12.out.step hb)
      have Mc13 := Lib.hid (Mc12.out.below hb)
      have L13 := Lib.hid (L12.out.below hb)
      have BW13 := Lib.hid (held_trans BW12.out hb)
      clear BW12 YX12 MX12 Ya12 Ma12 Yc12 Mc12 L12
      clear hb C13 t0 t1 t2 t3 t4
      have hcc := runsMay_any ⟨T7, nt7, ct7, R7, nr7, cr7, S7, ns7, cs7⟩ pc.1 true V13 (Lib.hid (yes_of MYHc.out)) Mc13.out LOWc.out (HTW.out.step BW13.out)
      unfold jv at hcc
      simp only at hcc
      have C14 := Lib.hid hcc
      clear hcc
      have t0 := Yc13.out.c0
      have t1 := Yc13.out.c1
      have t2 := Yc13.out.c2
      have t3 := Yc13.out.c3
      have t4 := Yc13.out.c4
      go_wp2_with fail
      refine C14.out.mono ?_
      rintro e V14 ⟨rfl, hb⟩
      have YX14 := Lib.hid (YX13.out.step hb)
      have MX14 := Lib.hid (MX13.out.below hb)
      have Ya14 := Lib.hid (Ya13.out.step hb)
      have Ma14 := Lib.hid (Ma13.out.below hb)
      have Yc14 := Lib.hid (Yc13.out.step hb)
      have Mc14 := Lib.hid (Mc13.out.below hb)
      have L14 := Lib.hid (L13.out.below hb)
      have BW14 := Lib.hid (held_trans BW13.out hb)
      clear BW13 YX13 MX13 Ya13 Ma13 Yc13 Mc13 L13
      clear hb C14 t0 t1 t2 t3 t4
      have hcc := runsAll_any ⟨T7, nt7, ct7, R7, nr7, cr7, S7, ns7, cs7⟩ pc.1 V14 Mc14.out LOWc.out
      unfold jv at hcc
      simp only at hcc
      have C15 := Lib.hid hcc
      clear hcc
      have t0 := Yc14.out.c0
      have t1 := Yc14.out.c1
      have t2 := Yc14.out.c2
      have t3 := Yc14.out.c3
      have t4 := Yc14.out.c4
      go_wp2_with fail
      refine C15.out.mono ?_
      rintro e V15 ⟨AQc, nQc, cQc, rfl, hra, _, hb⟩
      have YX15 := Lib.hid (YX14.out.step hb)
      have MX15 := Lib.hid (MX14.out.below hb)
      have Ya15 := Lib.hid (Ya14.out.step hb)
      have Ma15 := Lib.hid (Ma14.out.below hb)
      have Yc15 := Lib.hid (Yc14.out.step hb)
      have Mc15 := Lib.hid (Mc14.out.below hb)
      have L15 := Lib.hid (L14.out.below hb)
      have BW15 := Lib.hid (held_trans BW14.out hb)
      clear BW14 YX14 MX14 Ya14 Ma14 Yc14 Mc14 L14
      have Qc15 := Lib.hid hra
      clear hra hb C15 t0 t1 t2 t3 t4
      have HB0 := Lib.hid (below_new V15 (.cells #[] 3))
      have OA := Lib.hid (World.ownsRow_made (w := V15) (base := V15.heap.size) (e := 3) (size := 1) #[] 0 (Nat.le_refl _) (by unfold maxLen; omega) rfl)
      have R7 := Lib.hid (L15.out.below HB0.out)
      go_wp2_with (at_builtin; refine wpList_append_row_g (.tmp 88) (.tmp 89) rfl (by simp [Region.wanted, yielded]) V15.heap.size (.slice (some ⟨V15.heap.size, 0, none⟩) 0 0) 0 [] rfl ?c1 AL nL cL (Jp.all r) rfl ?c2 (by omega) ?c3 ?_)
      case c1 => exact OA.out
      case c2 => exact R7.out
      case c3 => exact HB0.out.size
      intro va W7 hoa hga
      have OB := Lib.hid (show W7.ownsRow V15.heap.size 3 1 va nL ((Jp.all r).map (Value.int .i64)) from by simpa using hoa)
      have HB7 := Lib.hid (HB0.out.grown hga HB0.out.size (fun q e => by simp [Value.ownBlock] at e; omega))
      clear hoa hga OA R7 HB0
      have hb3 := below_new W7 (.cells #[.int .i64 g] 3)
      have HB8 := Lib.hid (HB7.out.trans (hb3.mono HB7.out.size))
      have OC := Lib.hid (own_below OB.out hb3)
      have HR3 := Lib.hid (row_at W7 g W7.heap.size rfl)
      clear hb3 OB HB7
      go_wp2_with (at_builtin; refine wpList_append_row_g (.tmp 90) (.tmp 92) rfl (by simp [Region.wanted, yielded]) V15.heap.size va nL (Jp.all r) rfl ?c1 (some ⟨W7.heap.size, 0, none⟩) 1 1 [g] rfl ?c2 (by omega) ?c3 ?_)
      case c1 => exact OC.out
      case c2 => exact HR3.out
      case c3 => exact HB8.out.size
      intro vb V16 hob hgb
      have hob2 : V16.ownsRow V15.heap.size 3 1 vb (nL + 1) ((Jp.all r ++ [g]).map (Value.int .i64)) := by simpa using hob
      obtain ⟨Ab, cb, rfl, hrb⟩ := Row.of_own hob2
      have hb := HB8.out.grown hgb HB8.out.size (fun q e => (OC.out.lt q e).1)
      have YX16 := Lib.hid (YX15.out.step hb)
      have MX16 := Lib.hid (MX15.out.below hb)
      have Ya16 := Lib.hid (Ya15.out.step hb)
      have Ma16 := Lib.hid (Ma15.out.below hb)
      have Yc16 := Lib.hid (Yc15.out.step hb)
      have Mc16 := Lib.hid (Mc15.out.below hb)
      have L16 := Lib.hid (L15.out.below hb)
      have Qc16 := Lib.hid (Qc15.out.below hb)
      have BW16 := Lib.hid (held_trans BW15.out hb)
      clear BW15 YX15 MX15 Ya15 Ma15 Yc15 Mc15 L15 Qc15
      have RBc16 := Lib.hid hrb
      clear hob hob2 hgb hrb hb OC HR3 HB8
      go_wp2_with fail
      refine (bag_row _ _ _ _ _ _ _ _ _ PMc.out Qc16.out RBc16.out (by omega)).mono ?_
      rintro e V17 ⟨rfl, hb⟩
      have YX17 := Lib.hid (YX16.out.step hb)
      have MX17 := Lib.hid (MX16.out.below hb)
      have Ya17 := Lib.hid (Ya16.out.step hb)
      have Ma17 := Lib.hid (Ma16.out.below hb)
      have Yc17 := Lib.hid (Yc16.out.step hb)
      have Mc17 := Lib.hid (Mc16.out.below hb)
      have L17 := Lib.hid (L16.out.below hb)
      have Qc17 := Lib.hid (Qc16.out.below hb)
      have RBc17 := Lib.hid (RBc16.out.below hb)
      have BW17 := Lib.hid (held_trans BW16.out hb)
      clear BW16 YX16 MX16 Ya16 Ma16 Yc16 Mc16 L16 Qc16 RBc16
      clear hb Qc17 RBc17
      go_wp2_with fail
      go_ret
      exact ⟨rfl, BW17.out⟩
    · skip
      have KN := Lib.hid (KNC.out hc)
      have hcc := runsAll_any ⟨T7, nt7, ct7, R7, nr7, cr7, S7, ns7, cs7⟩ pc.1 V12 Mc12.out LOWc.out
      unfold jv at hcc
      simp only at hcc
      have C13 := Lib.hid hcc
      clear hcc
      have t0 := Yc12.out.c0
      have t1 := Yc12.out.c1
      have t2 := Yc12.out.c2
      have t3 := Yc12.out.c3
      have t4 := Yc12.out.c4
      go_wp2_with fail
      refine C13.out.mono ?_
      rintro e V13 ⟨AZc, nZc, cZc, rfl, hra, _, hb⟩
      have YX13 := Lib.hid (YX12.out.step hb)
      have MX13 := Lib.hid (MX12.out.below hb)
      have Ya13 := Lib.hid (Ya12.out.step hb)
      have Ma13 := Lib.hid (Ma12.out.below hb)
      have Yc13 := Lib.hid (Yc12.out.step hb)
      have Mc13 := Lib.hid (Mc12.out.below hb)
      have L13 := Lib.hid (L12.out.below hb)
      have BW13 := Lib.hid (held_trans BW12.out hb)
      clear BW12 YX12 MX12 Ya12 Ma12 Yc12 Mc12 L12
      have Zc13 := Lib.hid hra
      clear hra hb C13 t0 t1 t2 t3 t4
      go_wp2_with fail
      refine (ints_row _ _ _ _ _ _ _ _ _ KN.out Zc13.out L13.out).mono ?_
      rintro e V14 ⟨rfl, hb⟩
      have YX14 := Lib.hid (YX13.out.step hb)
      have MX14 := Lib.hid (MX13.out.below hb)
      have Ya14 := Lib.hid (Ya13.out.step hb)
      have Ma14 := Lib.hid (Ma13.out.below hb)
      have Yc14 := Lib.hid (Yc13.out.step hb)
      have Mc14 := Lib.hid (Mc13.out.below hb)
      have L14 := Lib.hid (L13.out.below hb)
      have Zc14 := Lib.hid (Zc13.out.below hb)
      have BW14 := Lib.hid (held_trans BW13.out hb)
      clear BW13 YX13 MX13 Ya13 Ma13 Yc13 Mc13 L13 Zc13
      clear hb KN Zc14
      go_wp2_with fail
      go_ret
      exact ⟨rfl, BW14.out⟩
  · skip
    by_cases hc : pc.2 = 0
    · skip
      have hE := hc
      obtain ⟨hwh, hmy, hpm⟩ := KC.out hE
      have PMc := Lib.hid hpm
      have MYHc := Lib.hid hmy
      have WHc := Lib.hid hwh
      clear hwh hmy hpm
      have hcc := runsWhere_any ⟨T7, nt7, ct7, R7, nr7, cr7, S7, ns7, cs7⟩ pc.1 g V7 Mc7.out LOWc.out
      rw [WHc.out] at hcc
      unfold jv at hcc
      simp only at hcc
      have C8 := Lib.hid hcc
      clear hcc
      have t0 := Yc7.out.c0
      have t1 := Yc7.out.c1
      have t2 := Yc7.out.c2
      have t3 := Yc7.out.c3
      have t4 := Yc7.out.c4
      go_wp2_with (rw [← E7.out])
      clear E7
      refine C8.out.mono ?_
      rintro e V8 ⟨rfl, hb⟩
      have YX8 := Lib.hid (YX7.out.step hb)
      have MX8 := Lib.hid (MX7.out.below hb)
      have Ya8 := Lib.hid (Ya7.out.step hb)
      have Ma8 := Lib.hid (Ma7.out.below hb)
      have Yc8 := Lib.hid (Yc7.out.step hb)
      have Mc8 := Lib.hid (Mc7.out.below hb)
      have L8 := Lib.hid (L7.out.below hb)
      have BW8 := Lib.hid (held_trans BW7.out hb)
      clear BW7 YX7 MX7 Ya7 Ma7 Yc7 Mc7 L7
      clear hb C8 t0 t1 t2 t3 t4
      have hcc := runsMay_any ⟨T7, nt7, ct7, R7, nr7, cr7, S7, ns7, cs7⟩ pc.1 true V8 (Lib.hid (yes_of MYHc.out)) Mc8.out LOWc.out (HTW.out.step BW8.out)
      unfold jv at hcc
      simp only at hcc
      have C9 := Lib.hid hcc
      clear hcc
      have t0 := Yc8.out.c0
      have t1 := Yc8.out.c1
      have t2 := Yc8.out.c2
      have t3 := Yc8.out.c3
      have t4 := Yc8.out.c4
      go_wp2_with fail
      refine C9.out.mono ?_
      rintro e V9 ⟨rfl, hb⟩
      have YX9 := Lib.hid (YX8.out.step hb)
      have MX9 := Lib.hid (MX8.out.below hb)
      have Ya9 := Lib.hid (Ya8.out.step hb)
      have Ma9 := Lib.hid (Ma8.out.below hb)
      have Yc9 := Lib.hid (Yc8.out.step hb)
      have Mc9 := Lib.hid (Mc8.out.below hb)
      have L9 := Lib.hid (L8.out.below hb)
      have BW9 := Lib.hid (held_trans BW8.out hb)
      clear BW8 YX8 MX8 Ya8 Ma8 Yc8 Mc8 L8
      clear hb C9 t0 t1 t2 t3 t4
      have hcc := runsAll_any ⟨T7, nt7, ct7, R7, nr7, cr7, S7, ns7, cs7⟩ pc.1 V9 Mc9.out LOWc.out
      unfold jv at hcc
      simp only at hcc
      have C10 := Lib.hid hcc
      clear hcc
      have t0 := Yc9.out.c0
      have t1 := Yc9.out.c1
      have t2 := Yc9.out.c2
      have t3 := Yc9.out.c3
      have t4 := Yc9.out.c4
      go_wp2_with fail
      refine C10.out.mono ?_
      rintro e V10 ⟨AQc, nQc, cQc, rfl, hra, _, hb⟩
      have YX10 := Lib.hid (YX9.out.step hb)
      have MX10 := Lib.hid (MX9.out.below hb)
      have Ya10 := Lib.hid (Ya9.out.step hb)
      have Ma10 := Lib.hid (Ma9.out.below hb)
      have Yc10 := Lib.hid (Yc9.out.step hb)
      have Mc10 := Lib.hid (Mc9.out.below hb)
      have L10 := Lib.hid (L9.out.below hb)
      have BW10 := Lib.hid (held_trans BW9.out hb)
      clear BW9 YX9 MX9 Ya9 Ma9 Yc9 Mc9 L9
      have Qc10 := Lib.hid hra
      clear hra hb C10 t0 t1 t2 t3 t4
      have HB0 := Lib.hid (below_new V10 (.cells #[] 3))
      have OA := Lib.hid (World.ownsRow_made (w := V10) (base := V10.heap.size) (e := 3) (size := 1) #[] 0 (Nat.le_refl _) (by unfold maxLen; omega) rfl)
      have R7 := Lib.hid (L10.out.below HB0.out)
      go_wp2_with (at_builtin; refine wpList_append_row_g (.tmp 88) (.tmp 89) rfl (by simp [Region.wanted, yielded]) V10.heap.size (.slice (some ⟨V10.heap.size, 0, none⟩) 0 0) 0 [] rfl ?c1 AL nL cL (Jp.all r) rfl ?c2 (by omega) ?c3 ?_)
      case c1 => exact OA.out
      case c2 => exact R7.out
      case c3 => exact HB0.out.size
      intro va W7 hoa hga
      have OB := Lib.hid (show W7.ownsRow V10.heap.size 3 1 va nL ((Jp.all r).map (Value.int .i64)) from by simpa using hoa)
      have HB7 := Lib.hid (HB0.out.grown hga HB0.out.size (fun q e => by simp [Value.ownBlock] at e; omega))
      clear hoa hga OA R7 HB0
      have hb3 := below_new W7 (.cells #[.int .i64 g] 3)
      have HB8 := Lib.hid (HB7.out.trans (hb3.mono HB7.out.size))
      have OC := Lib.hid (own_below OB.out hb3)
      have HR3 := Lib.hid (row_at W7 g W7.heap.size rfl)
      clear hb3 OB HB7
      go_wp2_with (at_builtin; refine wpList_append_row_g (.tmp 90) (.tmp 92) rfl (by simp [Region.wanted, yielded]) V10.heap.size va nL (Jp.all r) rfl ?c1 (some ⟨W7.heap.size, 0, none⟩) 1 1 [g] rfl ?c2 (by omega) ?c3 ?_)
      case c1 => exact OC.out
      case c2 => exact HR3.out
      case c3 => exact HB8.out.size
      intro vb V11 hob hgb
      have hob2 : V11.ownsRow V10.heap.size 3 1 vb (nL + 1) ((Jp.all r ++ [g]).map (Value.int .i64)) := by simpa using hob
      obtain ⟨Ab, cb, rfl, hrb⟩ := Row.of_own hob2
      have hb := HB8.out.grown hgb HB8.out.size (fun q e => (OC.out.lt q e).1)
      have YX11 := Lib.hid (YX10.out.step hb)
      have MX11 := Lib.hid (MX10.out.below hb)
      have Ya11 := Lib.hid (Ya10.out.step hb)
      have Ma11 := Lib.hid (Ma10.out.below hb)
      have Yc11 := Lib.hid (Yc10.out.step hb)
      have Mc11 := Lib.hid (Mc10.out.below hb)
      have L11 := Lib.hid (L10.out.below hb)
      have Qc11 := Lib.hid (Qc10.out.below hb)
      have BW11 := Lib.hid (held_trans BW10.out hb)
      clear BW10 YX10 MX10 Ya10 Ma10 Yc10 Mc10 L10 Qc10
      have RBc11 := Lib.hid hrb
      clear hob hob2 hgb hrb hb OC HR3 HB8
      go_wp2_with fail
      refine (bag_row _ _ _ _ _ _ _ _ _ PMc.out Qc11.out RBc11.out (by omega)).mono ?_
      rintro e V12 ⟨rfl, hb⟩
      have YX12 := Lib.hid (YX11.out.step hb)
      have MX12 := Lib.hid (MX11.out.below hb)
      have Ya12 := Lib.hid (Ya11.out.step hb)
      have Ma12 := Lib.hid (Ma11.out.below hb)
      have Yc12 := Lib.hid (Yc11.out.step hb)
      have Mc12 := Lib.hid (Mc11.out.below hb)
      have L12 := Lib.hid (L11.out.below hb)
      have Qc12 := Lib.hid (Qc11.out.below hb)
      have RBc12 := Lib.hid (RBc11.out.below hb)
      have BW12 := Lib.hid (held_trans BW11.out hb)
      clear BW11 YX11 MX11 Ya11 Ma11 Yc11 Mc11 L11 Qc11 RBc11
      clear hb Qc12 RBc12
      have KN := Lib.hid (KNA.out ha)
      have hcc := runsAll_any ⟨T6, nt6, ct6, R6, nr6, cr6, S6, ns6, cs6⟩ pa.1 V12 Ma12.out LOWa.out
      unfold jv at hcc
      simp only at hcc
      have C13 := Lib.hid hcc
      clear hcc
      have t0 := Ya12.out.c0
      have t1 := Ya12.out.c1
      have t2 := Ya12.out.c2
      have t3 := Ya12.out.c3
      have t4 := Ya12.out.c4
      go_wp2_with fail
      refine C13.out.mono ?_
      rintro e V13 ⟨AZa, nZa, cZa, rfl, hra, _, hb⟩
      have YX13 := Lib.hid (YX12.out.step hb)
      have MX13 := Lib.hid (MX12.out.below hb)
      have Ya13 := Lib.hid (Ya12.out.step hb)
      have Ma13 := Lib.hid (Ma12.out.below hb)
      have Yc13 := Lib.hid (Yc12.out.step hb)
      have Mc13 := Lib.hid (Mc12.out.below hb)
      have L13 := Lib.hid (L12.out.below hb)
      have BW13 := Lib.hid (held_trans BW12.out hb)
      clear BW12 YX12 MX12 Ya12 Ma12 Yc12 Mc12 L12
      have Za13 := Lib.hid hra
      clear hra hb C13 t0 t1 t2 t3 t4
      go_wp2_with fail
      refine (ints_row _ _ _ _ _ _ _ _ _ KN.out Za13.out L13.out).mono ?_
      rintro e V14 ⟨rfl, hb⟩
      have YX14 := Lib.hid (YX13.out.step hb)
      have MX14 := Lib.hid (MX13.out.below hb)
      have Ya14 := Lib.hid (Ya13.out.step hb)
      have Ma14 := Lib.hid (Ma13.out.below hb)
      have Yc14 := Lib.hid (Yc13.out.step hb)
      have Mc14 := Lib.hid (Mc13.out.below hb)
      have L14 := Lib.hid (L13.out.below hb)
      have Za14 := Lib.hid (Za13.out.below hb)
      have BW14 := Lib.hid (held_trans BW13.out hb)
      clear BW13 YX13 MX13 Ya13 Ma13 Yc13 Mc13 L13 Za13
      clear hb KN Za14
      go_wp2_with fail
      go_ret
      exact ⟨rfl, BW14.out⟩
    · skip
      have KN := Lib.hid (KNA.out ha)
      have hcc := runsAll_any ⟨T6, nt6, ct6, R6, nr6, cr6, S6, ns6, cs6⟩ pa.1 V7 Ma7.out LOWa.out
      unfold jv at hcc
      simp only at hcc
      have C8 := Lib.hid hcc
      clear hcc
      have t0 := Ya7.out.c0
      have t1 := Ya7.out.c1
      have t2 := Ya7.out.c2
      have t3 := Ya7.out.c3
      have t4 := Ya7.out.c4
      go_wp2_with (rw [← E7.out])
      clear E7
      refine C8.out.mono ?_
      rintro e V8 ⟨AZa, nZa, cZa, rfl, hra, _, hb⟩
      have YX8 := Lib.hid (YX7.out.step hb)
      have MX8 := Lib.hid (MX7.out.below hb)
      have Ya8 := Lib.hid (Ya7.out.step hb)
      have Ma8 := Lib.hid (Ma7.out.below hb)
      have Yc8 := Lib.hid (Yc7.out.step hb)
      have Mc8 := Lib.hid (Mc7.out.below hb)
      have L8 := Lib.hid (L7.out.below hb)
      have BW8 := Lib.hid (held_trans BW7.out hb)
      clear BW7 YX7 MX7 Ya7 Ma7 Yc7 Mc7 L7
      have Za8 := Lib.hid hra
      clear hra hb C8 t0 t1 t2 t3 t4
      go_wp2_with fail
      refine (ints_row _ _ _ _ _ _ _ _ _ KN.out Za8.out L8.out).mono ?_
      rintro e V9 ⟨rfl, hb⟩
      have YX9 := Lib.hid (YX8.out.step hb)
      have MX9 := Lib.hid (MX8.out.below hb)
      have Ya9 := Lib.hid (Ya8.out.step hb)
      have Ma9 := Lib.hid (Ma8.out.below hb)
      have Yc9 := Lib.hid (Yc8.out.step hb)
      have Mc9 := Lib.hid (Mc8.out.below hb)
      have L9 := Lib.hid (L8.out.below hb)
      have Za9 := Lib.hid (Za8.out.below hb)
      have BW9 := Lib.hid (held_trans BW8.out hb)
      clear BW8 YX8 MX8 Ya8 Ma8 Yc8 Mc8 L8 Za8
      clear hb KN Za9
      have KN := Lib.hid (KNC.out hc)
      have hcc := runsAll_any ⟨T7, nt7, ct7, R7, nr7, cr7, S7, ns7, cs7⟩ pc.1 V9 Mc9.out LOWc.out
      unfold jv at hcc
      simp only at hcc
      have C10 := Lib.hid hcc
      clear hcc
      have t0 := Yc9.out.c0
      have t1 := Yc9.out.c1
      have t2 := Yc9.out.c2
      have t3 := Yc9.out.c3
      have t4 := Yc9.out.c4
      go_wp2_with fail
      refine C10.out.mono ?_
      rintro e V10 ⟨AZc, nZc, cZc, rfl, hra, _, hb⟩
      have YX10 := Lib.hid (YX9.out.step hb)
      have MX10 := Lib.hid (MX9.out.below hb)
      have Ya10 := Lib.hid (Ya9.out.step hb)
      have Ma10 := Lib.hid (Ma9.out.below hb)
      have Yc10 := Lib.hid (Yc9.out.step hb)
      have Mc10 := Lib.hid (Mc9.out.below hb)
      have L10 := Lib.hid (L9.out.below hb)
      have BW10 := Lib.hid (held_trans BW9.out hb)
      clear BW9 YX9 MX9 Ya9 Ma9 Yc9 Mc9 L9
      have Zc10 := Lib.hid hra
      clear hra hb C10 t0 t1 t2 t3 t4
      go_wp2_with fail
      refine (ints_row _ _ _ _ _ _ _ _ _ KN.out Zc10.out L10.out).mono ?_
      rintro e V11 ⟨rfl, hb⟩
      have YX11 := Lib.hid (YX10.out.step hb)
      have MX11 := Lib.hid (MX10.out.below hb)
      have Ya11 := Lib.hid (Ya10.out.step hb)
      have Ma11 := Lib.hid (Ma10.out.below hb)
      have Yc11 := Lib.hid (Yc10.out.step hb)
      have Mc11 := Lib.hid (Mc10.out.below hb)
      have L11 := Lib.hid (L10.out.below hb)
      have Zc11 := Lib.hid (Zc10.out.below hb)
      have BW11 := Lib.hid (held_trans BW10.out hb)
      clear BW10 YX10 MX10 Ya10 Ma10 Yc10 Mc10 L10 Zc10
      clear hb KN Zc11
      go_wp2_with fail
      go_ret
      exact ⟨rfl, BW11.out⟩
set_option maxRecDepth 100000 in
theorem lifted (os : Os) (started : os.Started) (H : Type) (enc : TypeId × Value → H) :
    ReturnsInHanded {} Tryd.checked os 4 .any (fun w args => (Rows.runsKeepsSpec.pre enc Tryd.prog Tryd.f4 [] false w args ∧ laidMetH Tryd.prog laidList w) ∧ sizedMet enc Tryd.prog Tryd.f4 (OpenSpec.ofChange Rows.runsKeepsSpec) false w args)
      (Rows.runsKeepsSpec.post enc Tryd.prog Tryd.f4 false true false false) := by
  refine returnsInHanded_of_change_and (C := Tryd.checked) (X := fun w _ => laidMetH Tryd.prog laidList w) (fun _ _ _ hh h => h.of_heap hh) own started (by kernel_rfl) Tryd.func4
    (ChangeSpec.witness_shaped (enc := enc) (C := Tryd.checked) (os := os) (X := fun w _ => laidMetH Tryd.prog laidList w) false (World.doorLaid Tryd.prog 14 os) #[.agg #[.slice none 0 0, .int .i64 0, .slice none 0 0, .slice none 0 0, .int .u64 0], .int .i64 0, .int .i64 0] 8 rfl (World.shaped_of_RefB (by kernel_rfl) (by kernel_rfl)) (by kernel_rfl) (by kernel_rfl) (by kernel_rfl) (door_met os _)) ?_
  intro W base args ds gs before hval0 hW _ _ hL _
  have hval : ∀ (j : Nat) t v, Tryd.f4.params[j]? = some t → args[j]? = some v → Value.okWide Tryd.prog W .any base t v := hval0
  have hW' := hW
  obtain ⟨p, q, hA0, hV, rfl, hfz, hnd⟩ := hW
  have hA : DataW.TrodAll enc Tryd.prog W 0 (fun _ => true) true Tryd.f4.params.toList args.toList ds p := hA0
  rw [Tryd.params4] at hA hval
  obtain ⟨v0, vs0, d0, ds0, p0, q0, hargs, rfl, rfl, h0, r0⟩ := trodAll_cons hA
  obtain ⟨v1, vs1, d1, ds1, p1, q1, rfl, rfl, rfl, h1, r1⟩ := trodAll_cons r0
  obtain ⟨v2, vs2, d2, ds2, p2, q2, rfl, rfl, rfl, h2, r2⟩ := trodAll_cons r1
  obtain ⟨rfl, rfl, rfl⟩ := trodAll_nil r2
  obtain rfl : args = #[v0, v1, v2] := by cases args; simp_all
  obtain ⟨rfl, rfl⟩ := trodVars_none hV
  have k0 := h0
  have lt0 : ∀ x ∈ p0, x.block < W.heap.size := by obtain ⟨m, hm⟩ := k0; exact DataW.trod_lt m _ _ _ hm
  obtain ⟨x0, y0, rfl, hr0⟩ := open_runs (hval 0 35 v0 rfl rfl) h0
  obtain ⟨a1, rfl, rfl, rfl, w1⟩ := open_int Tryd.underlying3 (hval 1 3 v1 rfl rfl) h1
  obtain ⟨a2, rfl, rfl, rfl, w2⟩ := open_int Tryd.underlying3 (hval 2 3 v2 rfl rfl) h2
  clear hA0 hval0
  refine (walk x0 y0 a1 a2 W hr0 (in64_of_wf w1) (in64_of_wf w2) (tab_of_laid hL)).mono fun e W' ⟨he, bel⟩ => ?_
  subst he
  exact ⟨_, rfl, _, _, _, [], _, [], hW', trodAll_mk1 (shut_bool Tryd.underlying4 _), (trodAll_cons_mk (Below.trod laidOut (by kernel_rfl) (of_decide_eq_true (by kernel_rfl)) k0 bel lt0) (trodAll_cons_mk (shut_int Tryd.underlying3 w1) (trodAll_cons_mk (shut_int Tryd.underlying3 w2) trodAll_mk0))), rfl, bel.frame _, fun h => by cases h⟩
theorem over : Rows.RunsKeepsSaid :=
  OpenClaim.holds_of_wide 4 Tryd.f4 rfl rfl rfl rfl rfl rfl rfl ⟨rfl, rfl, rfl, rfl, rfl⟩ rfl rfl rfl rfl rfl (by kernel_rfl) Tryd.func4 (by kernel_rfl)
    (of_decide_eq_true (by kernel_rfl)) (by unfold Func.isWrapper; first | (rw [if_pos (by decide +kernel)]; kernel_rfl) | (rw [if_neg (by decide +kernel)]; exact ⟨rfl, rfl⟩))
    (fun os started H enc _ => lifted os started H enc)
theorem proved : Rows.RunsKeepsCardSaid :=
  Claim7.holds_tied_plain_at .later [] [.data] true Rows.runsKeepsCard.stood.harness false
    over (fun _ h => by cases h) (by kernel_rfl) (fun _ h => by cases h) runsKeeps_row_tie rfl ⟨rfl, rfl⟩ (by kernel_rfl) rfl
    (fun f fn hf hfn => by
      obtain rfl : f = 4 := Option.some.inj ((show Tryd.prog.funcNamed "catafalque/catafalquelaw15.RunsKeeps" = some 4 by kernel_rfl).symm.trans hf) |>.symm
      obtain rfl : fn = Tryd.f4 := (Option.some.inj (Tryd.func4.symm.trans hfn)).symm
      exact ⟨by kernel_rfl, fun j t ht => by
        rw [Tryd.params4] at ht
        have hm : t ∈ [35, 3, 3] := by simpa using Array.mem_of_getElem? ht
        have hall : ([35, 3, 3].all fun u => !Tryd.prog.wantsStandIn u) = true := by kernel_rfl
        exact (show Tryd.prog.wantsStandIn t = false by simpa using List.all_eq_true.1 hall t hm)⟩)
    (by kernel_rfl)
end Go.Proofs.YtgloibgmaiadfaaDoor.runsKeeps

