/- FindSome: somebody is told, just if somebody stands in the ring, or the row; who that is stands there no more, and all others still stand; what may be stays so: the call answers true and changes nothing that was there; for every input. (Written by wip/gen/gen_ylaws.py: change that.) -/
import Derived.Test.YtinmmcikhjacoaaDoorYShown
import Derived.Test.YtinmmcikhjacoaaDoorM6
import Derived.Test.YtinmmcikhjacoaaDoorJReal
import Derived.Test.YtinmmcikhjacoaaDoorJMade
import Derived.Test.YtinmmcikhjacoaaDoorJFew
import Derived.Test.YtinmmcikhjacoaaDoorM7
import Derived.Test.YtinmmcikhjacoaaDoorJWhr
import Derived.Test.YtinmmcikhjacoaaDoorJMayL
import Derived.Test.YtinmmcikhjacoaaDoorM4
import Derived.Test.YtinmmcikhjacoaaDoorM3
import Derived.Test.YtinmmcikhjacoaaDoorM1
namespace Go.Proofs.YtinmmcikhjacoaaDoor.findSome
open Go.ChangeShapes Go.WideShapes Go.ChangeAt Go.RowKit
set_option linter.unusedVariables false

theorem yes_of {P : Prop} (h : P) : true = true ↔ P := ⟨fun _ => h, fun _ => rfl⟩
theorem bag_row (A B : Option Addr) (n m c d : Nat) (a b : List Int) (w : World) (hp : a.Perm b) (h : Row w A n c a) (hB : Row w B m d b) (hm : m ≤ 1000000) :
    Calls Tryd.prog 22 #[.slice A n c, .slice B m d] w fun e w' => e = .returned (.bool true) ∧ Below w.heap.size w w' := by
  have h1 := h.len
  have h2 := hB.len
  have h3 := hp.length_eq
  obtain rfl : n = m := by omega
  exact bag_any A B n c d a b w (Lib.hid hp) h hB (by omega)
theorem step_append_row_g {w : World} {ops : Array Oper} {o : Oper} {a : Act} {K : Act → World → Prop} {Q : Exit → Act → World → Prop} {E : Prop} (s x : Operand)
    (ho : o.op = .call { callee := .builtin .append, args := #[s, x], argTypes := #[45, 45] })
    (hw : Region.wanted o (yielded ops a.tmps) = true)
    (base : Nat) (v : Value) (n : Nat) (xs : List Int) (hs : a.eval s = v) (hown : w.ownsRow base 3 1 v n (xs.map (Value.int .i64)))
    (A : Option Addr) (m c : Nat) (zs : List Int) (hx : a.eval x = .slice A m c) (h : Row w A m c zs) (hb : n + m ≤ 1000000) (hbase : base ≤ w.heap.size)
    (hK : ∀ v' w', w'.ownsRow base 3 1 v' (n + m) ((xs ++ zs).map (Value.int .i64)) → w.grownBy w' v.ownBlock → K (a.put o.dst v') w') :
    if Region.wanted o (yielded ops a.tmps) = true then Oper.wp Tryd.prog o a w K Q else E := by
  obtain ⟨v', w', hr, h2, h3⟩ := run_append_row w o.type base v n xs hown A m c zs h hb hbase
  rw [if_pos hw]
  unfold Oper.wp
  simp [execOp, ho, resolve, invoke, builtin, hs, hx, hr, Result.andThen]
  exact hK v' w' h2 h3
set_option maxRecDepth 100000 in
set_option maxHeartbeats 8000000 in
theorem walk (d : Ad) (r : Jp.Rn) (p tick : Int) (w : World) (h : RMI (fun b => b < w.heap.size) w d r) (hp : In64 p) (ht : In64 tick) (hT : Tab w) :
    Calls Tryd.prog 4 #[jv d r, .int .i64 p, .int .i64 tick] w fun e w' => e = .returned (.bool true) ∧ Below w.heap.size w w' := by
  have HIN := Lib.hid h.2
  have HR := Lib.hid h.1
  have HTW := Lib.hid hT
  obtain ⟨A0, nt, ct, R, nr, cr, S, ns, cs⟩ := d
  obtain ⟨V, hV, hX, hB⟩ := B5.start w (.slice A0 nt ct) (.int .i64 r.size) (.slice R nr cr) (.slice S ns cs) (.int .u64 (r.on : Nat)) 27
  have E := Lib.hid hV
  have X0 := Lib.hid hX
  have B0 := Lib.hid hB
  have SH := Lib.hid (yshown_any V (hT.step hB))
  clear h hT hV hX hB
  unfold jv
  go_enter Tryd.func4, Tryd.ntmps4
  go_wp2_with (rw [← E.out])
  clear E
  refine SH.out.mono ?_
  rintro e w1 ⟨rfl, hb1⟩
  have X1 := Lib.hid (X0.out.step hb1)
  have B1 := Lib.hid (held_trans B0.out hb1)
  have p0 := X1.out.c0
  have p1 := X1.out.c1
  have p2 := X1.out.c2
  have p3 := X1.out.c3
  have p4 := X1.out.c4
  have hFW := fun T HT => few_any ⟨A0, nt, ct, R, nr, cr, S, ns, cs⟩ r T w1 HT (HR.out.below B1.out) HIN.out
  unfold jv at hFW
  simp only at hFW
  have FW := Lib.hid hFW
  clear hb1 SH X0 B0 hFW
  go_wp2_with fail
  by_cases hfew : ¬ FewP r
  · refine (FW.out false (Lib.hid (by simp [hfew]))).mono ?_
    rintro e w2 ⟨rfl, hb2⟩
    have BE := Lib.hid (held_trans B1.out hb2)
    go_wp2_with fail
    go_ret
    exact ⟨rfl, BE.out⟩
  have hfew := Classical.not_not.1 hfew
  have HFEW := Lib.hid hfew
  refine (FW.out true (Lib.hid (by simp [hfew]))).mono ?_
  rintro e w2a ⟨rfl, hb2⟩
  have X2a := Lib.hid (X1.out.step hb2)
  have B2a := Lib.hid (held_trans B1.out hb2)
  have p0 := X2a.out.c0
  have p1 := X2a.out.c1
  have p2 := X2a.out.c2
  have p3 := X2a.out.c3
  have p4 := X2a.out.c4
  obtain ⟨Tb, hTb⟩ : ∃ Tb : Bool, (Tb = true ↔ Jp.May r) := by
    by_cases h : Jp.May r
    · exact ⟨true, by simp [h]⟩
    · exact ⟨false, by simp [h]⟩
  have HTB := Lib.hid hTb
  have hMY := jrefMay_any ⟨A0, nt, ct, R, nr, cr, S, ns, cs⟩ r Tb w2a HTB (HR.out.below B2a.out) HFEW.out.low
  unfold jv at hMY
  simp only at hMY
  have MY := Lib.hid hMY
  clear hb2 FW X1 B1 hfew hMY hTb
  go_wp2_with fail
  refine MY.out.mono ?_
  rintro e w2b ⟨rfl, hb2⟩
  have X2b := Lib.hid (X2a.out.step hb2)
  have B2b := Lib.hid (held_trans B2a.out hb2)
  have p0 := X2b.out.c0
  have p1 := X2b.out.c1
  have p2 := X2b.out.c2
  have p3 := X2b.out.c3
  have p4 := X2b.out.c4
  clear hb2 MY X2a B2a
  cases Tb
  · have BE := B2b
    go_wp2_with fail
    go_ret
    exact ⟨rfl, BE.out⟩
  have HMAY := Lib.hid (HTB.out.1 rfl)
  have hMY := jrefOn_any ⟨A0, nt, ct, R, nr, cr, S, ns, cs⟩ r p w2b HR.out.on
  unfold jv at hMY
  simp only at hMY
  have MY := Lib.hid hMY
  clear hMY HTB
  go_wp2_with fail
  refine MY.out.mono ?_
  rintro e w2 ⟨rfl, hb2⟩
  have X2 := Lib.hid (X2b.out.step hb2)
  have B2 := Lib.hid (held_trans B2b.out hb2)
  have p0 := X2.out.c0
  have p1 := X2.out.c1
  have p2 := X2.out.c2
  have p3 := X2.out.c3
  have p4 := X2.out.c4
  clear hb2 MY X2b B2b
  obtain ⟨Ob, hOb⟩ : ∃ Ob, Ob = Jp.onP r p := ⟨_, rfl⟩
  rw [← hOb]
  have HON := Lib.hid hOb
  clear hOb
  cases Ob
  · have BE := B2
    go_wp2_with fail
    go_ret
    exact ⟨rfl, BE.out⟩
  have hMD := jmade_any ⟨A0, nt, ct, R, nr, cr, S, ns, cs⟩ r w2 (HR.out.below B2.out) (fun b hb => Nat.lt_of_lt_of_le hb B2.out.size) HFEW.out.low
  unfold jv at hMD
  simp only at hMD
  have MD := Lib.hid hMD
  clear hMD
  go_wp2_with fail
  refine MD.out.mono ?_
  rintro e w3 ⟨⟨A1, nt1, ct1, R1, nr1, cr1, S1, ns1, cs1⟩, rfl, hm3, hb3⟩
  unfold jv
  simp only
  have hbn := below_new w3 (.cells #[.slice A1 nt1 ct1, .int .i64 r.size, .slice R1 nr1 cr1, .slice S1 ns1 cs1, .int .u64 (r.on : Nat)] 33)
  have hY := B5.new w3 (.slice A1 nt1 ct1) (.int .i64 r.size) (.slice R1 nr1 cr1) (.slice S1 ns1 cs1) (.int .u64 (r.on : Nat)) 33
  obtain ⟨V4, hV4⟩ : ∃ V4, V4 = w3.alloc (.cells #[.slice A1 nt1 ct1, .int .i64 r.size, .slice R1 nr1 cr1, .slice S1 ns1 cs1, .int .u64 (r.on : Nat)] 33) := ⟨_, rfl⟩
  rw [← hV4] at hbn hY
  have E4 := Lib.hid hV4
  have B4 := Lib.hid (held_trans (held_trans B2.out hb3) hbn)
  have P4 := Lib.hid ((X2.out.step hb3).step hbn)
  have Y4 := Lib.hid hY
  have M4 := Lib.hid (show RM (fun b => b < w3.heap.size) V4 ⟨A1, nt1, ct1, R1, nr1, cr1, S1, ns1, cs1⟩ r from (hm3.bound.mono (fun b hb => hb.2)).below hbn)
  have HX4 := Lib.hid (show w3.heap.size < V4.heap.size from hY.lt)
  have HWX := Lib.hid (show w.heap.size ≤ w3.heap.size from (held_trans B2.out hb3).size)
  clear hm3 hb3 hbn hY hV4 MD X2 B2 p0 p1 p2 p3 p4
  have YP4 := P4
  have YX4 := Y4
  have MX4 := M4
  have MP4 := Lib.hid (HR.out.below B4.out)
  have BW4 := B4
  have HLW := Lib.hid HFEW.out.low
  clear P4 Y4 M4 B4
  obtain ⟨k, hpk, hk⟩ := Jp.onP_lt HMAY.out HON.out.symm
  subst hpk
  have HK := Lib.hid hk
  obtain ⟨m, hnd, hmn⟩ := Jp.node_at HMAY.out.tree (show k < (Dp.procs r.tree).length from by rw [← HMAY.out.rings]; exact hk)
  rw [← HMAY.out.rows] at hmn
  have HMN := Lib.hid hmn
  have HND := Lib.hid hnd
  have HNO := Lib.hid (show Jp.nodeOf r k = m by unfold Jp.nodeOf; rw [hnd]; rfl)
  clear hk hmn hnd
  have HFO := Lib.hid (Jp.found HMAY.out HON.out.symm HK.out HNO.out tick)
  obtain ⟨lo, hlo⟩ : ∃ lo, lo = Jp.loc r k tick := ⟨_, rfl⟩
  rw [← hlo] at HFO
  have HLO := Lib.hid hlo
  have HLA := Lib.hid (show Low lo.1 from by rw [hlo]; exact low_loc HLW.out k tick)
  clear hlo HON
  have hcc := node_any A1 nt1 ct1 r.tree k V4 (Lib.hid MX4.out.tlen) MX4.out.tmax (Lib.hid MX4.out.fit) MX4.out.tree
  rw [HND.out] at hcc
  have C5 := Lib.hid hcc
  clear hcc
  have t0 := YX4.out.c0
  have t1 := YX4.out.c1
  have t2 := YX4.out.c2
  have t3 := YX4.out.c3
  have t4 := YX4.out.c4
  go_wp2_with (rw [← E4.out])
  clear E4
  refine C5.out.mono ?_
  rintro e V5 ⟨rfl, hb⟩
  have YP5 := Lib.hid (YP4.out.step hb)
  have MP5 := Lib.hid (MP4.out.below hb)
  have YX5 := Lib.hid (YX4.out.step hb)
  have MX5 := Lib.hid (MX4.out.below hb)
  have BW5 := Lib.hid (held_trans BW4.out hb)
  clear BW4 YP4 MP4 YX4 MX4 
  clear hb C5 t0 t1 t2 t3 t4
  have hns := MX5.out.ns
  simp only at hns
  have hm1 : ¬ (m : Int) < 0 := by omega
  have hm2 : ¬ (ns1 : Int) ≤ (m : Int) := by have := HMN.out; omega
  clear hns
  obtain ⟨row, hrow⟩ : ∃ l, r.rows[m]? = some l := ⟨_, List.getElem?_eq_getElem HMN.out⟩
  obtain ⟨⟨x, t⟩, hrg⟩ : ∃ y, r.rings[k]? = some y := ⟨_, List.getElem?_eq_getElem HK.out⟩
  obtain ⟨sb, so, As, na, ca, eS, hsb, hsc, hsr⟩ := MX5.out.rowAt hrow
  obtain ⟨rb, ro, Aw, nw, cw, eR, hrb, hr0, hr1, hrr⟩ := MX5.out.ringAt hrg
  have hns := MX5.out.ns
  have hnr := MX5.out.nr
  simp only at eS eR hns hnr hrr
  have hl3 : (m : Int) < (ns1 : Int) := by have := HMN.out; omega
  have hl4 : (k : Int) < (nr1 : Int) := by have := HK.out; omega
  have hl5 : (0 : Int) ≤ (m : Int) := by omega
  have hl6 : (0 : Int) ≤ (k : Int) := by omega
  have HRW := Lib.hid (show Jp.rowAt r m = row from Jp.rowAt_some hrow)
  have HRG := Lib.hid (show Jp.ringAt r k = (x, t) from Jp.ringAt_some hrg)
  have hnw : nw ≤ 400 := by rw [← hrr.len]; exact HLW.out.ring (x, t) (List.mem_of_getElem? hrg)
  have hlr := hsr.len
  have AL := Lib.hid (all_any x Aw nw cw t V5 hrr (by omega))
  subst eS eR
  clear hrow hrg hsb hrb hns hnr hsr hrr
  have t0 := YX5.out.c0
  have t1 := YX5.out.c1
  have t2 := YX5.out.c2
  have t3 := YX5.out.c3
  have t4 := YX5.out.c4
  go_wp2_with fail
  refine AL.out.mono ?_
  rintro e V6 ⟨Ao, no, co, rfl, hro, _, hb⟩
  have hlo := hro.len
  have hsc2 := keepcell hb hsc
  have YP6 := Lib.hid (YP5.out.step hb)
  have MP6 := Lib.hid (MP5.out.below hb)
  have YX6 := Lib.hid (YX5.out.step hb)
  have MX6 := Lib.hid (MX5.out.below hb)
  have BW6 := Lib.hid (held_trans BW5.out hb)
  clear BW5 YP5 MP5 YX5 MX5 
  clear hb AL hro t0 t1 t2 t3 t4 hsc hr0 hr1
  by_cases hg : lo.2.1 = 0
  · skip
    have t3 := YX6.out.c3
    obtain ⟨f1, f2, f3, f4⟩ := HFO.out.none hg
    rw [HRG.out] at f3
    rw [HRW.out] at f4
    rw [f3] at hlo
    rw [f4] at hlr
    obtain rfl : no = 0 := hlo.symm
    obtain rfl : na = 0 := hlr.symm
    have EQA := Lib.hid f2
    have q0 : (lo.2.1 == 0) = true := by rw [hg]; rfl
    have q1 : (lo.2.2 == 0) = true := by rw [f1]; rfl
    clear f1 f2 f3 f4 hg hlo hlr
    have hcc := findLocal_any ⟨A1, nt1, ct1, (some ⟨rb, ro, none⟩), nr1, cr1, (some ⟨sb, so, none⟩), ns1, cs1⟩ r k (tick) V6 MX6.out (fun b hb => Nat.lt_trans hb YX6.out.lt) HLW.out hp ht (HTW.out.step BW6.out)
    rw [← HLO.out] at hcc
    unfold jv at hcc
    simp only at hcc
    have C7 := Lib.hid hcc
    clear hcc
    have t0 := YX6.out.c0
    have t1 := YX6.out.c1
    have t2 := YX6.out.c2
    have t3 := YX6.out.c3
    have t4 := YX6.out.c4
    go_wp2_with fail
    refine C7.out.mono ?_
    rintro e u7 ⟨⟨T7, nt7, ct7, R7, nr7, cr7, S7, ns7, cs7⟩, rfl, hm, hb⟩
    unfold jv
    simp only
    have hbn := below_new u7 (.cells #[.slice T7 nt7 ct7, .int .i64 lo.1.size, .slice R7 nr7 cr7, .slice S7 ns7 cs7, .int .u64 (lo.1.on : Nat)] 33)
    have hY := B5.new u7 (.slice T7 nt7 ct7) (.int .i64 lo.1.size) (.slice R7 nr7 cr7) (.slice S7 ns7 cs7) (.int .u64 (lo.1.on : Nat)) 33
    obtain ⟨V7, hV⟩ : ∃ V7, V7 = u7.alloc (.cells #[.slice T7 nt7 ct7, .int .i64 lo.1.size, .slice R7 nr7 cr7, .slice S7 ns7 cs7, .int .u64 (lo.1.on : Nat)] 33) := ⟨_, rfl⟩
    rw [← hV] at hbn hY
    have E7 := Lib.hid hV
    have hbj := hb.trans (hbn.mono hb.size)
    have YP7 := Lib.hid (YP6.out.step hbj)
    have MP7 := Lib.hid (MP6.out.below hbj)
    have YX7 := Lib.hid (YX6.out.step hbj)
    have MX7 := Lib.hid (MX6.out.below hbj)
    have BW7 := Lib.hid (held_trans BW6.out hbj)
    clear BW6 YP6 MP6 YX6 MX6 
    have Ya7 := Lib.hid hY
    have Ma7 := Lib.hid ((hm.bound.mono (G := fun b => b < u7.heap.size) (fun b hb => hb.2)).below hbn)
    clear hV hY hbn hm hb hbj C7 t0 t1 t2 t3 t4
    have hcc := fun W (hb : Below V7.heap.size V7 W) => jreal_any ⟨T7, nt7, ct7, R7, nr7, cr7, S7, ns7, cs7⟩ lo.1 W (Ma7.out.below hb) (fun b hb' => Nat.lt_of_lt_of_le (Nat.lt_trans hb' Ya7.out.lt) hb.size) HLA.out
    unfold jv at hcc
    simp only at hcc
    have RA := Lib.hid hcc
    clear hcc
    go_wp2_with (rw [← E7.out])
    clear E7
    clear q0
    refine wp_region_held_drew (S := fun w' => B5 w' w.heap.size (.slice A0 nt ct) (.int .i64 r.size) (.slice R nr cr) (.slice S ns cs) (.int .u64 (r.on : Nat)) ∧ B5 w' w3.heap.size (.slice A1 nt1 ct1) (.int .i64 r.size) (.slice (some ⟨rb, ro, none⟩) nr1 cr1) (.slice (some ⟨sb, so, none⟩) ns1 cs1) (.int .u64 (r.on : Nat)) ∧ B5 w' u7.heap.size (.slice T7 nt7 ct7) (.int .i64 lo.1.size) (.slice R7 nr7 cr7) (.slice S7 ns7 cs7) (.int .u64 (lo.1.on : Nat))) (by kernel_rfl) ⟨YP7.out.drew, YX7.out.drew, Ya7.out.drew⟩ (fun hHeld => ?_)
    refine wpAnyH_takesJ (i := 0) (v := (.bool true)) (some 74) rfl rfl (by kernel_rfl) (by kernel_rfl) (by kernel_rfl) (fun _ _ _ h => h) (Or.inl ⟨by rfl, (by intro W9 hSw; clear hSw; go_simp; first | done | with_reducible rfl)⟩) (by assumption) ?_
    simp only [Act.put, List.setIfInBounds_toArray]; try simp only [List.set_cons_zero, List.set_cons_succ]
    refine wpAnyH_takesJ (i := 1) (v := (.bool true)) (some 75) rfl rfl (by kernel_rfl) (by kernel_rfl) (by kernel_rfl) (fun _ _ _ h => h) (Or.inl ⟨by rfl, (by intro W9 hSw; clear hSw; go_simp; first | done | with_reducible rfl)⟩) (by assumption) ?_
    simp only [Act.put, List.setIfInBounds_toArray]; try simp only [List.set_cons_zero, List.set_cons_succ]
    refine wpAnyH_takesJ (i := 2) (v := (.bool false)) (some 76) rfl rfl (by kernel_rfl) (by kernel_rfl) (by kernel_rfl) (fun _ _ _ h => h) (Or.inl ⟨by rfl, (by intro W9 hSw; clear hSw; go_simp; first | done | with_reducible rfl)⟩) (by assumption) ?_
    simp only [Act.put, List.setIfInBounds_toArray]; try simp only [List.set_cons_zero, List.set_cons_succ]
    refine wpAnyH_takesJ (i := 3) (v := (.bool true)) (some 77) rfl rfl (by kernel_rfl) (by kernel_rfl) (by kernel_rfl) (fun _ _ _ h => h) (Or.inl ⟨by rfl, (by intro W9 hSw; clear hSw; go_simp; first | done | with_reducible rfl)⟩) (by assumption) ?_
    simp only [Act.put, List.setIfInBounds_toArray]; try simp only [List.set_cons_zero, List.set_cons_succ]
    refine wpAnyH_takesJ (i := 4) (v := (.bool true)) (some 78) rfl rfl (by kernel_rfl) (by kernel_rfl) (by kernel_rfl) (fun _ _ _ h => h) (Or.inl ⟨by rfl, (by intro W9 hSw; clear hSw; go_simp; first | done | with_reducible rfl)⟩) (by assumption) ?_
    simp only [Act.put, List.setIfInBounds_toArray]; try simp only [List.set_cons_zero, List.set_cons_succ]
    refine wpAnyH_takesJ (i := 5) (v := (.bool true)) (some 79) rfl rfl (by kernel_rfl) (by kernel_rfl) (by kernel_rfl) (fun _ _ _ h => h) (Or.inl ⟨by rfl, (by intro W9 hSw; clear hSw; go_simp; first | done | with_reducible rfl)⟩) (by assumption) ?_
    simp only [Act.put, List.setIfInBounds_toArray]; try simp only [List.set_cons_zero, List.set_cons_succ]
    refine wpAnyH_takesJ (i := 6) (v := (.int .i64 lo.2.2)) (some 80) rfl rfl (by kernel_rfl) (by kernel_rfl) (by kernel_rfl) (fun _ _ _ h => h) (Or.inl ⟨by rfl, (by intro W9 hSw; clear hSw; go_simp; first | done | with_reducible rfl)⟩) (by assumption) ?_
    simp only [Act.put, List.setIfInBounds_toArray]; try simp only [List.set_cons_zero, List.set_cons_succ]
    refine wpAnyH_takesJ (i := 7) (v := (.bool true)) (some 81) rfl rfl (by kernel_rfl) (by kernel_rfl) (by kernel_rfl) (fun _ _ _ h => h) (Or.inl ⟨by rfl, (by intro W9 hSw; clear hSw; go_simp; first | done | with_reducible rfl)⟩) (by assumption) ?_
    simp only [Act.put, List.setIfInBounds_toArray]; try simp only [List.set_cons_zero, List.set_cons_succ]
    refine wpAnyH_takesJ (i := 8) (v := (.bool true)) (some 82) rfl rfl (by kernel_rfl) (by kernel_rfl) (by kernel_rfl) (fun _ _ _ h => h) (Or.inl ⟨by rfl, (by intro W9 hSw; clear hSw; go_simp; first | done | with_reducible rfl)⟩) (by assumption) ?_
    simp only [Act.put, List.setIfInBounds_toArray]; try simp only [List.set_cons_zero, List.set_cons_succ]
    refine wpAnyH_takesJ (i := 9) (v := (.bool true)) (some 83) rfl rfl (by kernel_rfl) (by kernel_rfl) (by kernel_rfl) (fun _ _ _ h => h) (Or.inl ⟨by rfl, (by intro W9 hSw; clear hSw; go_simp; first | done | with_reducible rfl)⟩) (by assumption) ?_
    simp only [Act.put, List.setIfInBounds_toArray]; try simp only [List.set_cons_zero, List.set_cons_succ]
    refine wpAnyH_takesJ (i := 10) (v := (.agg #[.slice T7 nt7 ct7, .int .i64 lo.1.size, .slice R7 nr7 cr7, .slice S7 ns7 cs7, .int .u64 (lo.1.on : Nat)])) (some 84) rfl rfl (by kernel_rfl) (by kernel_rfl) (by kernel_rfl) (fun _ _ _ h => h) (Or.inl ⟨by rfl, (by intro W9 hSw; have s0 := (hSw.2.2).c0; have s1 := (hSw.2.2).c1; have s2 := (hSw.2.2).c2; have s3 := (hSw.2.2).c3; have s4 := (hSw.2.2).c4; clear hSw; go_simp; first | done | with_reducible rfl)⟩) (by assumption) ?_
    simp only [Act.put, List.setIfInBounds_toArray]; try simp only [List.set_cons_zero, List.set_cons_succ]
    refine wpAnyH_takesJ (i := 12) (v := (.agg #[.slice A0 nt ct, .int .i64 r.size, .slice R nr cr, .slice S ns cs, .int .u64 (r.on : Nat)])) (some 86) rfl rfl (by kernel_rfl) (by kernel_rfl) (by kernel_rfl) (fun _ _ _ h => h) (Or.inl ⟨by rfl, (by intro W9 hSw; have s0 := (hSw.1).c0; have s1 := (hSw.1).c1; have s2 := (hSw.1).c2; have s3 := (hSw.1).c3; have s4 := (hSw.1).c4; clear hSw; go_simp; first | done | with_reducible rfl)⟩) (by assumption) ?_
    simp only [Act.put, List.setIfInBounds_toArray]; try simp only [List.set_cons_zero, List.set_cons_succ]
    refine wpAnyH_ready (rs := [11]) (by kernel_rfl) (by simp) ?_
    refine AllReadyH.cons rfl (fun K hK => ?_) AllReadyH.nil
    go_simp
    go_at_call 14
    refine (RA.out _ (by exact (Below.refl _ _).drew)).mono ?_
    rintro e x1 ⟨⟨Ar, ntr, ctr, Rr, nrr, crr, Sr, nsr, csr⟩, rfl, hmr, hbx⟩
    have hb1 := (Below.refl V7.heap.size V7).drew.trans (hbx.mono (by simp))
    have hsm := jsame_any ⟨Ar, ntr, ctr, Rr, nrr, crr, Sr, nsr, csr⟩ ⟨A0, nt, ct, R, nr, cr, S, ns, cs⟩ lo.1 r x1 hmr (MP7.out.below hb1) HLA.out (congrArg Jp.Rn.rings EQA.out) (congrArg Jp.Rn.rows EQA.out) (congrArg Jp.Rn.on EQA.out)
    unfold jv at hsm
    simp only at hsm
    have SM := Lib.hid hsm
    clear hsm hmr
    unfold jv
    simp only
    refine hK.out _ _ (by exact ⟨YP7.out.step hb1, YX7.out.step hb1, Ya7.out.step hb1⟩) (fun hHeld => ?_)
    clear hK K hbx
    try dsimp only
    refine wpAnyH_ready (rs := [13]) (by kernel_rfl) (by simp) ?_
    refine AllReadyH.cons rfl (fun K hK => ?_) AllReadyH.nil
    go_simp
    go_at_call 13
    refine (SM.out).mono ?_
    rintro e x2 ⟨rfl, hbx⟩
    have hb2 := hb1.trans (hbx.mono hb1.size)
    refine hK.out _ _ (by exact ⟨YP7.out.step hb2, YX7.out.step hb2, Ya7.out.step hb2⟩) (fun hHeld => ?_)
    clear hK K hbx
    try dsimp only
    refine wpAnyH_takesJ (i := 14) (v := (.bool true)) (some 88) rfl rfl (by kernel_rfl) (by kernel_rfl) (by kernel_rfl) (fun _ _ _ h => h) (Or.inl ⟨by rfl, (by intro W9 hSw; clear hSw; go_simp; first | done | with_reducible rfl)⟩) (by assumption) ?_
    simp only [Act.put, List.setIfInBounds_toArray]; try simp only [List.set_cons_zero, List.set_cons_succ]
    refine wpAnyH_takesJ (i := 15) (v := (.bool true)) (some 6) rfl rfl (by kernel_rfl) (by kernel_rfl) (by kernel_rfl) (fun _ _ _ h => h) (Or.inl ⟨by rfl, (by intro W9 hSw; clear hSw; go_simp; first | done | with_reducible rfl)⟩) (by assumption) ?_
    simp only [Act.put, List.setIfInBounds_toArray]; try simp only [List.set_cons_zero, List.set_cons_succ]
    refine wpAnyH_done (by kernel_rfl) ?_ _
    have BE := Lib.hid (held_trans BW7.out hb2)
    clear hb1 hb2
    go_wp2_with fail
    go_ret
    exact ⟨rfl, BE.out⟩
  · skip
    by_cases hown : Rp.all (x, t) = []
    · skip
      obtain ⟨f1, f2, f3, f4⟩ := HFO.out.some hg
      obtain rfl : no = 0 := by rw [← hlo, hown]; rfl
      have na1 : (0 : Int) < (na : Int) := by rcases f1 with f1 | f1; exact absurd (by rw [HRG.out]; exact hown) f1; rw [HRW.out] at f1; have := List.length_pos_iff.2 f1; omega
      have na3 : 0 < na := by omega
      clear hown hlr
      have q0 : (lo.2.1 == 0) = false := by rw [beq_eq_false_iff_ne]; exact hg
      have FST := Lib.hid f2
      have FMAY := Lib.hid f3
      have FPM := Lib.hid f4
      have HG := Lib.hid hg
      clear f1 f2 f3 f4 hg hlo
      have t3 := YX6.out.c3
      have hcc := findLocal_any ⟨A1, nt1, ct1, (some ⟨rb, ro, none⟩), nr1, cr1, (some ⟨sb, so, none⟩), ns1, cs1⟩ r k (tick) V6 MX6.out (fun b hb => Nat.lt_trans hb YX6.out.lt) HLW.out hp ht (HTW.out.step BW6.out)
      rw [← HLO.out] at hcc
      unfold jv at hcc
      simp only at hcc
      have C7 := Lib.hid hcc
      clear hcc
      have t0 := YX6.out.c0
      have t1 := YX6.out.c1
      have t2 := YX6.out.c2
      have t3 := YX6.out.c3
      have t4 := YX6.out.c4
      go_wp2_with fail
      refine C7.out.mono ?_
      rintro e u7 ⟨⟨T7, nt7, ct7, R7, nr7, cr7, S7, ns7, cs7⟩, rfl, hm, hb⟩
      unfold jv
      simp only
      have hbn := below_new u7 (.cells #[.slice T7 nt7 ct7, .int .i64 lo.1.size, .slice R7 nr7 cr7, .slice S7 ns7 cs7, .int .u64 (lo.1.on : Nat)] 33)
      have hY := B5.new u7 (.slice T7 nt7 ct7) (.int .i64 lo.1.size) (.slice R7 nr7 cr7) (.slice S7 ns7 cs7) (.int .u64 (lo.1.on : Nat)) 33
      obtain ⟨V7, hV⟩ : ∃ V7, V7 = u7.alloc (.cells #[.slice T7 nt7 ct7, .int .i64 lo.1.size, .slice R7 nr7 cr7, .slice S7 ns7 cs7, .int .u64 (lo.1.on : Nat)] 33) := ⟨_, rfl⟩
      rw [← hV] at hbn hY
      have E7 := Lib.hid hV
      have hbj := hb.trans (hbn.mono hb.size)
      have YX7 := Lib.hid (YX6.out.step hbj)
      have MX7 := Lib.hid (MX6.out.below hbj)
      have BW7 := Lib.hid (held_trans BW6.out hbj)
      clear BW6 YX6 MX6 
      have Ya7 := Lib.hid hY
      have Ma7 := Lib.hid ((hm.bound.mono (G := fun b => b < u7.heap.size) (fun b hb => hb.2)).below hbn)
      clear hV hY hbn hm hb hbj C7 t0 t1 t2 t3 t4
      rcases FST.out with h | h
      · skip
        obtain ⟨fk, fwh⟩ := h
        have z1 : ((-1 : Int) == (k : Int)) = false := by rw [beq_eq_false_iff_ne]; omega
        have z2 : (lo.2.2 == 3) = true := by rw [fk]; rfl
        clear fk
        have hcc := runsWhere_any ⟨A1, nt1, ct1, (some ⟨rb, ro, none⟩), nr1, cr1, (some ⟨sb, so, none⟩), ns1, cs1⟩ r lo.2.1 V7 MX7.out HLW.out
        rw [fwh] at hcc
        unfold jv at hcc
        simp only at hcc
        have C8 := Lib.hid hcc
        clear hcc
        have t0 := YX7.out.c0
        have t1 := YX7.out.c1
        have t2 := YX7.out.c2
        have t3 := YX7.out.c3
        have t4 := YX7.out.c4
        go_wp2_with (rw [← E7.out])
        clear E7
        refine C8.out.mono ?_
        rintro e V8 ⟨rfl, hb⟩
        have YX8 := Lib.hid (YX7.out.step hb)
        have MX8 := Lib.hid (MX7.out.below hb)
        have Ya8 := Lib.hid (Ya7.out.step hb)
        have Ma8 := Lib.hid (Ma7.out.below hb)
        have BW8 := Lib.hid (held_trans BW7.out hb)
        clear BW7 YX7 MX7 Ya7 Ma7 
        clear hb C8 t0 t1 t2 t3 t4
        have hcc := fun W (hb : Below V8.heap.size V8 W) => runsMay_any ⟨T7, nt7, ct7, R7, nr7, cr7, S7, ns7, cs7⟩ lo.1 true W (Lib.hid (yes_of FMAY.out)) (Ma8.out.below hb) HLA.out (HTW.out.step (held_trans BW8.out hb))
        unfold jv at hcc
        simp only at hcc
        have MYA := Lib.hid hcc
        clear hcc
        have hcc := fun W (hb : Below V8.heap.size V8 W) => runsAll_any ⟨T7, nt7, ct7, R7, nr7, cr7, S7, ns7, cs7⟩ lo.1 W (Ma8.out.below hb) HLA.out
        unfold jv at hcc
        simp only at hcc
        have AA := Lib.hid hcc
        clear hcc
        have hcc := fun W (hb : Below V8.heap.size V8 W) => runsAll_any ⟨A1, nt1, ct1, (some ⟨rb, ro, none⟩), nr1, cr1, (some ⟨sb, so, none⟩), ns1, cs1⟩ r W (MX8.out.below hb) HLW.out
        unfold jv at hcc
        simp only at hcc
        have AX := Lib.hid hcc
        clear hcc
        go_wp2_with fail
        clear q0
        refine wp_region_held_drew (S := fun w' => B5 w' w3.heap.size (.slice A1 nt1 ct1) (.int .i64 r.size) (.slice (some ⟨rb, ro, none⟩) nr1 cr1) (.slice (some ⟨sb, so, none⟩) ns1 cs1) (.int .u64 (r.on : Nat)) ∧ B5 w' u7.heap.size (.slice T7 nt7 ct7) (.int .i64 lo.1.size) (.slice R7 nr7 cr7) (.slice S7 ns7 cs7) (.int .u64 (lo.1.on : Nat))) (by kernel_rfl) ⟨YX8.out.drew, Ya8.out.drew⟩ (fun hHeld => ?_)
        refine wpAnyH_takesJ (i := 0) (v := (.bool true)) (some 95) rfl rfl (by kernel_rfl) (by kernel_rfl) (by kernel_rfl) (fun _ _ _ h => h) (Or.inl ⟨by rfl, (by intro W9 hSw; clear hSw; go_simp; first | done | with_reducible rfl)⟩) (by assumption) ?_
        simp only [Act.put, List.setIfInBounds_toArray]; try simp only [List.set_cons_zero, List.set_cons_succ]
        refine wpAnyH_takesJ (i := 1) (v := (.bool true)) (some 96) rfl rfl (by kernel_rfl) (by kernel_rfl) (by kernel_rfl) (fun _ _ _ h => h) (Or.inl ⟨by rfl, (by intro W9 hSw; clear hSw; go_simp; first | done | with_reducible rfl)⟩) (by assumption) ?_
        simp only [Act.put, List.setIfInBounds_toArray]; try simp only [List.set_cons_zero, List.set_cons_succ]
        refine wpAnyH_takesJ (i := 2) (v := (.bool true)) (some 97) rfl rfl (by kernel_rfl) (by kernel_rfl) (by kernel_rfl) (fun _ _ _ h => h) (Or.inl ⟨by rfl, (by intro W9 hSw; clear hSw; go_simp; first | done | with_reducible rfl)⟩) (by assumption) ?_
        simp only [Act.put, List.setIfInBounds_toArray]; try simp only [List.set_cons_zero, List.set_cons_succ]
        refine wpAnyH_takesJ (i := 3) (v := (.bool true)) (some 98) rfl rfl (by kernel_rfl) (by kernel_rfl) (by kernel_rfl) (fun _ _ _ h => h) (Or.inl ⟨by rfl, (by intro W9 hSw; clear hSw; go_simp; first | done | with_reducible rfl)⟩) (by assumption) ?_
        simp only [Act.put, List.setIfInBounds_toArray]; try simp only [List.set_cons_zero, List.set_cons_succ]
        refine wpAnyH_takesJ (i := 4) (v := (.bool true)) (some 99) rfl rfl (by kernel_rfl) (by kernel_rfl) (by kernel_rfl) (fun _ _ _ h => h) (Or.inl ⟨by rfl, (by intro W9 hSw; clear hSw; go_simp; first | done | with_reducible rfl)⟩) (by assumption) ?_
        simp only [Act.put, List.setIfInBounds_toArray]; try simp only [List.set_cons_zero, List.set_cons_succ]
        refine wpAnyH_takesJ (i := 5) (v := (.int .i64 (-1))) (some 100) rfl rfl (by kernel_rfl) (by kernel_rfl) (by kernel_rfl) (fun _ _ _ h => h) (Or.inl ⟨by rfl, (by intro W9 hSw; clear hSw; go_simp; first | done | with_reducible rfl)⟩) (by assumption) ?_
        simp only [Act.put, List.setIfInBounds_toArray]; try simp only [List.set_cons_zero, List.set_cons_succ]
        refine wpAnyH_takesJ (i := 6) (v := (.int .i64 (k : Nat))) (some 101) rfl rfl (by kernel_rfl) (by kernel_rfl) (by kernel_rfl) (fun _ _ _ h => h) (Or.inl ⟨by rfl, (by intro W9 hSw; clear hSw; go_simp; first | done | with_reducible rfl)⟩) (by assumption) ?_
        simp only [Act.put, List.setIfInBounds_toArray]; try simp only [List.set_cons_zero, List.set_cons_succ]
        refine wpAnyH_takesJ (i := 7) (v := (.bool false)) (some 102) rfl rfl (by kernel_rfl) (by kernel_rfl) (by kernel_rfl) (fun _ _ _ h => h) (Or.inl ⟨by rfl, (by intro W9 hSw; clear hSw; go_simp; first | done | with_reducible rfl)⟩) (by assumption) ?_
        simp only [Act.put, List.setIfInBounds_toArray]; try simp only [List.set_cons_zero, List.set_cons_succ]
        refine wpAnyH_takesJ (i := 8) (v := (.bool false)) (some 103) rfl rfl (by kernel_rfl) (by kernel_rfl) (by kernel_rfl) (fun _ _ _ h => h) (Or.inl ⟨by rfl, (by intro W9 hSw; clear hSw; go_simp; first | done | with_reducible rfl)⟩) (by assumption) ?_
        simp only [Act.put, List.setIfInBounds_toArray]; try simp only [List.set_cons_zero, List.set_cons_succ]
        refine wpAnyH_takesJ (i := 9) (v := (.int .i64 (m : Nat))) (some 104) rfl rfl (by kernel_rfl) (by kernel_rfl) (by kernel_rfl) (fun _ _ _ h => h) (Or.inl ⟨by rfl, (by intro W9 hSw; clear hSw; go_simp; first | done | with_reducible rfl)⟩) (by assumption) ?_
        simp only [Act.put, List.setIfInBounds_toArray]; try simp only [List.set_cons_zero, List.set_cons_succ]
        refine wpAnyH_takesJ (i := 10) (v := (.int .i64 (m : Nat))) (some 105) rfl rfl (by kernel_rfl) (by kernel_rfl) (by kernel_rfl) (fun _ _ _ h => h) (Or.inl ⟨by rfl, (by intro W9 hSw; clear hSw; go_simp; first | done | with_reducible rfl)⟩) (by assumption) ?_
        simp only [Act.put, List.setIfInBounds_toArray]; try simp only [List.set_cons_zero, List.set_cons_succ]
        refine wpAnyH_takesJ (i := 11) (v := (.bool true)) (some 106) rfl rfl (by kernel_rfl) (by kernel_rfl) (by kernel_rfl) (fun _ _ _ h => h) (Or.inl ⟨by rfl, (by intro W9 hSw; clear hSw; go_simp; first | done | with_reducible rfl)⟩) (by assumption) ?_
        simp only [Act.put, List.setIfInBounds_toArray]; try simp only [List.set_cons_zero, List.set_cons_succ]
        refine wpAnyH_takesJ (i := 12) (v := (.bool true)) (some 107) rfl rfl (by kernel_rfl) (by kernel_rfl) (by kernel_rfl) (fun _ _ _ h => h) (Or.inl ⟨by rfl, (by intro W9 hSw; clear hSw; go_simp; first | done | with_reducible rfl)⟩) (by assumption) ?_
        simp only [Act.put, List.setIfInBounds_toArray]; try simp only [List.set_cons_zero, List.set_cons_succ]
        refine wpAnyH_takesJ (i := 13) (v := (.bool true)) (some 108) rfl rfl (by kernel_rfl) (by kernel_rfl) (by kernel_rfl) (fun _ _ _ h => h) (Or.inl ⟨by rfl, (by intro W9 hSw; clear hSw; go_simp; first | done | with_reducible rfl)⟩) (by assumption) ?_
        simp only [Act.put, List.setIfInBounds_toArray]; try simp only [List.set_cons_zero, List.set_cons_succ]
        refine wpAnyH_takesJ (i := 14) (v := (.bool true)) (some 109) rfl rfl (by kernel_rfl) (by kernel_rfl) (by kernel_rfl) (fun _ _ _ h => h) (Or.inl ⟨by rfl, (by intro W9 hSw; clear hSw; go_simp; first | done | with_reducible rfl)⟩) (by assumption) ?_
        simp only [Act.put, List.setIfInBounds_toArray]; try simp only [List.set_cons_zero, List.set_cons_succ]
        refine wpAnyH_takesJ (i := 15) (v := (.int .i64 lo.2.2)) (some 110) rfl rfl (by kernel_rfl) (by kernel_rfl) (by kernel_rfl) (fun _ _ _ h => h) (Or.inl ⟨by rfl, (by intro W9 hSw; clear hSw; go_simp; first | done | with_reducible rfl)⟩) (by assumption) ?_
        simp only [Act.put, List.setIfInBounds_toArray]; try simp only [List.set_cons_zero, List.set_cons_succ]
        refine wpAnyH_takesJ (i := 16) (v := (.bool true)) (some 111) rfl rfl (by kernel_rfl) (by kernel_rfl) (by kernel_rfl) (fun _ _ _ h => h) (Or.inl ⟨by rfl, (by intro W9 hSw; clear hSw; go_simp; first | done | with_reducible rfl)⟩) (by assumption) ?_
        simp only [Act.put, List.setIfInBounds_toArray]; try simp only [List.set_cons_zero, List.set_cons_succ]
        refine wpAnyH_takesJ (i := 17) (v := (.int .i64 (m : Nat))) (some 112) rfl rfl (by kernel_rfl) (by kernel_rfl) (by kernel_rfl) (fun _ _ _ h => h) (Or.inl ⟨by rfl, (by intro W9 hSw; clear hSw; go_simp; first | done | with_reducible rfl)⟩) (by assumption) ?_
        simp only [Act.put, List.setIfInBounds_toArray]; try simp only [List.set_cons_zero, List.set_cons_succ]
        refine wpAnyH_takesJ (i := 18) (v := (.int .i64 (m : Nat))) (some 113) rfl rfl (by kernel_rfl) (by kernel_rfl) (by kernel_rfl) (fun _ _ _ h => h) (Or.inl ⟨by rfl, (by intro W9 hSw; clear hSw; go_simp; first | done | with_reducible rfl)⟩) (by assumption) ?_
        simp only [Act.put, List.setIfInBounds_toArray]; try simp only [List.set_cons_zero, List.set_cons_succ]
        refine wpAnyH_takesJ (i := 19) (v := (.bool true)) (some 114) rfl rfl (by kernel_rfl) (by kernel_rfl) (by kernel_rfl) (fun _ _ _ h => h) (Or.inl ⟨by rfl, (by intro W9 hSw; clear hSw; go_simp; first | done | with_reducible rfl)⟩) (by assumption) ?_
        simp only [Act.put, List.setIfInBounds_toArray]; try simp only [List.set_cons_zero, List.set_cons_succ]
        refine wpAnyH_takesJ (i := 20) (v := (.bool true)) (some 115) rfl rfl (by kernel_rfl) (by kernel_rfl) (by kernel_rfl) (fun _ _ _ h => h) (Or.inl ⟨by rfl, (by intro W9 hSw; clear hSw; go_simp; first | done | with_reducible rfl)⟩) (by assumption) ?_
        simp only [Act.put, List.setIfInBounds_toArray]; try simp only [List.set_cons_zero, List.set_cons_succ]
        refine wpAnyH_takesJ (i := 21) (v := (.bool true)) (some 116) rfl rfl (by kernel_rfl) (by kernel_rfl) (by kernel_rfl) (fun _ _ _ h => h) (Or.inl ⟨by rfl, (by intro W9 hSw; clear hSw; go_simp; first | done | with_reducible rfl)⟩) (by assumption) ?_
        simp only [Act.put, List.setIfInBounds_toArray]; try simp only [List.set_cons_zero, List.set_cons_succ]
        refine wpAnyH_takesJ (i := 22) (v := (.bool true)) (some 117) rfl rfl (by kernel_rfl) (by kernel_rfl) (by kernel_rfl) (fun _ _ _ h => h) (Or.inl ⟨by rfl, (by intro W9 hSw; clear hSw; go_simp; first | done | with_reducible rfl)⟩) (by assumption) ?_
        simp only [Act.put, List.setIfInBounds_toArray]; try simp only [List.set_cons_zero, List.set_cons_succ]
        refine wpAnyH_takesJ (i := 23) (v := (.agg #[.slice T7 nt7 ct7, .int .i64 lo.1.size, .slice R7 nr7 cr7, .slice S7 ns7 cs7, .int .u64 (lo.1.on : Nat)])) (some 118) rfl rfl (by kernel_rfl) (by kernel_rfl) (by kernel_rfl) (fun _ _ _ h => h) (Or.inl ⟨by rfl, (by intro W9 hSw; have s0 := (hSw.2).c0; have s1 := (hSw.2).c1; have s2 := (hSw.2).c2; have s3 := (hSw.2).c3; have s4 := (hSw.2).c4; clear hSw; go_simp; first | done | with_reducible rfl)⟩) (by assumption) ?_
        simp only [Act.put, List.setIfInBounds_toArray]; try simp only [List.set_cons_zero, List.set_cons_succ]
        refine wpAnyH_ready (rs := [24]) (by kernel_rfl) (by simp) ?_
        refine AllReadyH.cons rfl (fun K hK => ?_) AllReadyH.nil
        go_simp
        go_at_call 21
        refine (MYA.out _ (by exact (Below.refl _ _).drew)).mono ?_
        rintro e x1 ⟨rfl, hbx⟩
        have hb1 := (Below.refl V8.heap.size V8).drew.trans (hbx.mono (by simp))
        refine hK.out _ _ (by exact ⟨YX8.out.step hb1, Ya8.out.step hb1⟩) (fun hHeld => ?_)
        clear hK K hbx
        try dsimp only
        refine wpAnyH_takesJ (i := 25) (v := (.bool true)) (some 120) rfl rfl (by kernel_rfl) (by kernel_rfl) (by kernel_rfl) (fun _ _ _ h => h) (Or.inl ⟨by rfl, (by intro W9 hSw; clear hSw; go_simp; first | done | with_reducible rfl)⟩) (by assumption) ?_
        simp only [Act.put, List.setIfInBounds_toArray]; try simp only [List.set_cons_zero, List.set_cons_succ]
        refine wpAnyH_takesJ (i := 26) (v := (.bool true)) (some 121) rfl rfl (by kernel_rfl) (by kernel_rfl) (by kernel_rfl) (fun _ _ _ h => h) (Or.inl ⟨by rfl, (by intro W9 hSw; clear hSw; go_simp; first | done | with_reducible rfl)⟩) (by assumption) ?_
        simp only [Act.put, List.setIfInBounds_toArray]; try simp only [List.set_cons_zero, List.set_cons_succ]
        refine wpAnyH_takesJ (i := 27) (v := (.int .i64 lo.2.1)) (some 122) rfl rfl (by kernel_rfl) (by kernel_rfl) (by kernel_rfl) (fun _ _ _ h => h) (Or.inl ⟨by rfl, (by intro W9 hSw; clear hSw; go_simp; first | done | with_reducible rfl)⟩) (by assumption) ?_
        simp only [Act.put, List.setIfInBounds_toArray]; try simp only [List.set_cons_zero, List.set_cons_succ]
        refine wpAnyH_takesJ (i := 29) (v := (.agg #[.slice T7 nt7 ct7, .int .i64 lo.1.size, .slice R7 nr7 cr7, .slice S7 ns7 cs7, .int .u64 (lo.1.on : Nat)])) (some 124) rfl rfl (by kernel_rfl) (by kernel_rfl) (by kernel_rfl) (fun _ _ _ h => h) (Or.inl ⟨by rfl, (by intro W9 hSw; have s0 := (hSw.2).c0; have s1 := (hSw.2).c1; have s2 := (hSw.2).c2; have s3 := (hSw.2).c3; have s4 := (hSw.2).c4; clear hSw; go_simp; first | done | with_reducible rfl)⟩) (by assumption) ?_
        simp only [Act.put, List.setIfInBounds_toArray]; try simp only [List.set_cons_zero, List.set_cons_succ]
        refine wpAnyH_takesJ (i := 32) (v := (.agg #[.slice A1 nt1 ct1, .int .i64 r.size, .slice (some ⟨rb, ro, none⟩) nr1 cr1, .slice (some ⟨sb, so, none⟩) ns1 cs1, .int .u64 (r.on : Nat)])) (some 127) rfl rfl (by kernel_rfl) (by kernel_rfl) (by kernel_rfl) (fun _ _ _ h => h) (Or.inl ⟨by rfl, (by intro W9 hSw; have s0 := (hSw.1).c0; have s1 := (hSw.1).c1; have s2 := (hSw.1).c2; have s3 := (hSw.1).c3; have s4 := (hSw.1).c4; clear hSw; go_simp; first | done | with_reducible rfl)⟩) (by assumption) ?_
        simp only [Act.put, List.setIfInBounds_toArray]; try simp only [List.set_cons_zero, List.set_cons_succ]
        refine wpAnyH_ready (rs := [28, 30]) (by kernel_rfl) (by simp) ?_
        refine AllReadyH.cons rfl (fun K hK => ?_) (AllReadyH.cons rfl (fun K hK => ?_) AllReadyH.nil)
        · skip
          go_simp
          have hbl := below_new x1 (.cells #[.int .i64 lo.2.1] 3)
          have OL := Lib.hid (own_lit x1 [lo.2.1] V8.heap.size hb1.size (by simp))
          have hb2 := hb1.trans (hbl.mono hb1.size)
          obtain ⟨LB, hLB⟩ : ∃ LB, LB = x1.heap.size := ⟨_, rfl⟩
          obtain ⟨x2, hx⟩ : ∃ x2, x2 = x1.alloc (.cells #[.int .i64 lo.2.1] 3) := ⟨_, rfl⟩
          simp only [List.map_cons, List.map_nil, List.length_cons, List.length_nil] at OL
          rw [← hx] at hb2 hbl ⊢
          rw [show (#[Value.int .i64 lo.2.1] : Array Value) = [Value.int .i64 lo.2.1].toArray from rfl] at hx
          rw [← hx, ← hLB] at OL
          try rw [← hLB]
          clear hx hLB hbl
          refine hK.out _ _ (by exact ⟨YX8.out.step hb2, Ya8.out.step hb2⟩) (fun hHeld => ?_)
          clear hK K
          try dsimp only
          refine wpAnyH_ready (rs := [30]) (by kernel_rfl) (by simp) ?_
          refine AllReadyH.cons rfl (fun K hK => ?_) AllReadyH.nil
          go_simp
          go_at_call 23
          refine (AA.out _ (by exact hb2)).mono ?_
          rintro e x3 ⟨Aq, nq, cq, rfl, hrq, _, hbx⟩
          have hb3 := hb2.trans (hbx.mono hb2.size)
          have OL2 := Lib.hid (own_below OL.out hbx)
          have RQ := Lib.hid hrq
          clear hrq OL
          refine hK.out _ _ (by exact ⟨YX8.out.step hb3, Ya8.out.step hb3⟩) (fun hHeld => ?_)
          clear hK K hbx
          try dsimp only
          refine wpAnyH_ready (rs := [31]) (by kernel_rfl) (by simp) ?_
          refine AllReadyH.cons rfl (fun K hK => ?_) AllReadyH.nil
          refine step_append_row_g (.tmp 123) (.tmp 125) rfl (by simp [Region.wanted, yielded]) V8.heap.size _ 1 [lo.2.1] rfl OL2.out Aq nq cq (Jp.all lo.1) rfl RQ.out (by have h7 := RQ.out.len; have h8 := all_le HLA.out; omega) hb3.size ?_
          intro vb x4 hob hgb
          have hb4 := hb3.grown hgb hb3.size (fun q e => (OL2.out.lt q e).1)
          obtain ⟨Ab, cb, rfl, hrb⟩ := Row.of_own hob
          have RB := Lib.hid hrb
          clear hob hgb hrb
          refine hK.out _ _ (by exact ⟨YX8.out.step hb4, Ya8.out.step hb4⟩) (fun hHeld => ?_)
          clear hK K
          try dsimp only
          refine wpAnyH_ready (rs := [33]) (by kernel_rfl) (by simp) ?_
          refine AllReadyH.cons rfl (fun K hK => ?_) AllReadyH.nil
          go_simp
          go_at_call 23
          refine (AX.out _ (by exact hb4)).mono ?_
          rintro e x5 ⟨Az, nz, cz, rfl, hrz, _, hbx⟩
          have hb5 := hb4.trans (hbx.mono hb4.size)
          have BG := Lib.hid (bag_row Ab Az _ nz cb cz _ _ x5 FPM.out (RB.out.below hbx) hrz (by have h7 := hrz.len; have h8 := all_le HLW.out; omega))
          clear hrz
          refine hK.out _ _ (by exact ⟨YX8.out.step hb5, Ya8.out.step hb5⟩) (fun hHeld => ?_)
          clear hK K hbx
          try dsimp only
          refine wpAnyH_ready (rs := [34]) (by kernel_rfl) (by simp) ?_
          refine AllReadyH.cons rfl (fun K hK => ?_) AllReadyH.nil
          go_simp
          go_at_call 22
          refine (BG.out).mono ?_
          rintro e x6 ⟨rfl, hbx⟩
          have hb6 := hb5.trans (hbx.mono hb5.size)
          refine hK.out _ _ (by exact ⟨YX8.out.step hb6, Ya8.out.step hb6⟩) (fun hHeld => ?_)
          clear hK K hbx
          try dsimp only
          refine wpAnyH_takesJ (i := 35) (v := (.bool true)) (some 130) rfl rfl (by kernel_rfl) (by kernel_rfl) (by kernel_rfl) (fun _ _ _ h => h) (Or.inl ⟨by rfl, (by intro W9 hSw; clear hSw; go_simp; first | done | with_reducible rfl)⟩) (by assumption) ?_
          simp only [Act.put, List.setIfInBounds_toArray]; try simp only [List.set_cons_zero, List.set_cons_succ]
          refine wpAnyH_takesJ (i := 36) (v := (.bool true)) (some 6) rfl rfl (by kernel_rfl) (by kernel_rfl) (by kernel_rfl) (fun _ _ _ h => h) (Or.inl ⟨by rfl, (by intro W9 hSw; clear hSw; go_simp; first | done | with_reducible rfl)⟩) (by assumption) ?_
          simp only [Act.put, List.setIfInBounds_toArray]; try simp only [List.set_cons_zero, List.set_cons_succ]
          refine wpAnyH_done (by kernel_rfl) ?_ _
          have BE := Lib.hid (held_trans BW8.out hb6)
          clear hb1 hb2 hb3 hb4 hb5 hb6
          go_wp2_with fail
          go_ret
          exact ⟨rfl, BE.out⟩
        · skip
          go_simp
          go_at_call 23
          refine (AA.out _ (by exact hb1)).mono ?_
          rintro e x2 ⟨Aq, nq, cq, rfl, hrq, _, hbx⟩
          have hb2 := hb1.trans (hbx.mono hb1.size)
          have RQ := Lib.hid hrq
          clear hrq
          refine hK.out _ _ (by exact ⟨YX8.out.step hb2, Ya8.out.step hb2⟩) (fun hHeld => ?_)
          clear hK K hbx
          try dsimp only
          refine wpAnyH_ready (rs := [28]) (by kernel_rfl) (by simp) ?_
          refine AllReadyH.cons rfl (fun K hK => ?_) AllReadyH.nil
          go_simp
          have hbl := below_new x2 (.cells #[.int .i64 lo.2.1] 3)
          have OL := Lib.hid (own_lit x2 [lo.2.1] V8.heap.size hb2.size (by simp))
          have hb3 := hb2.trans (hbl.mono hb2.size)
          obtain ⟨LB, hLB⟩ : ∃ LB, LB = x2.heap.size := ⟨_, rfl⟩
          obtain ⟨x3, hx⟩ : ∃ x3, x3 = x2.alloc (.cells #[.int .i64 lo.2.1] 3) := ⟨_, rfl⟩
          simp only [List.map_cons, List.map_nil, List.length_cons, List.length_nil] at OL
          rw [← hx] at hb3 hbl ⊢
          rw [show (#[Value.int .i64 lo.2.1] : Array Value) = [Value.int .i64 lo.2.1].toArray from rfl] at hx
          rw [← hx, ← hLB] at OL
          try rw [← hLB]
          have RQ2 := Lib.hid (RQ.out.below hbl)
          clear hx hLB hbl
          refine hK.out _ _ (by exact ⟨YX8.out.step hb3, Ya8.out.step hb3⟩) (fun hHeld => ?_)
          clear hK K
          try dsimp only
          refine wpAnyH_ready (rs := [31]) (by kernel_rfl) (by simp) ?_
          refine AllReadyH.cons rfl (fun K hK => ?_) AllReadyH.nil
          refine step_append_row_g (.tmp 123) (.tmp 125) rfl (by simp [Region.wanted, yielded]) V8.heap.size _ 1 [lo.2.1] rfl OL.out Aq nq cq (Jp.all lo.1) rfl RQ2.out (by have h7 := RQ2.out.len; have h8 := all_le HLA.out; omega) hb3.size ?_
          intro vb x4 hob hgb
          have hb4 := hb3.grown hgb hb3.size (fun q e => (OL.out.lt q e).1)
          obtain ⟨Ab, cb, rfl, hrb⟩ := Row.of_own hob
          have RB := Lib.hid hrb
          clear hob hgb hrb
          refine hK.out _ _ (by exact ⟨YX8.out.step hb4, Ya8.out.step hb4⟩) (fun hHeld => ?_)
          clear hK K
          try dsimp only
          refine wpAnyH_ready (rs := [33]) (by kernel_rfl) (by simp) ?_
          refine AllReadyH.cons rfl (fun K hK => ?_) AllReadyH.nil
          go_simp
          go_at_call 23
          refine (AX.out _ (by exact hb4)).mono ?_
          rintro e x5 ⟨Az, nz, cz, rfl, hrz, _, hbx⟩
          have hb5 := hb4.trans (hbx.mono hb4.size)
          have BG := Lib.hid (bag_row Ab Az _ nz cb cz _ _ x5 FPM.out (RB.out.below hbx) hrz (by have h7 := hrz.len; have h8 := all_le HLW.out; omega))
          clear hrz
          refine hK.out _ _ (by exact ⟨YX8.out.step hb5, Ya8.out.step hb5⟩) (fun hHeld => ?_)
          clear hK K hbx
          try dsimp only
          refine wpAnyH_ready (rs := [34]) (by kernel_rfl) (by simp) ?_
          refine AllReadyH.cons rfl (fun K hK => ?_) AllReadyH.nil
          go_simp
          go_at_call 22
          refine (BG.out).mono ?_
          rintro e x6 ⟨rfl, hbx⟩
          have hb6 := hb5.trans (hbx.mono hb5.size)
          refine hK.out _ _ (by exact ⟨YX8.out.step hb6, Ya8.out.step hb6⟩) (fun hHeld => ?_)
          clear hK K hbx
          try dsimp only
          refine wpAnyH_takesJ (i := 35) (v := (.bool true)) (some 130) rfl rfl (by kernel_rfl) (by kernel_rfl) (by kernel_rfl) (fun _ _ _ h => h) (Or.inl ⟨by rfl, (by intro W9 hSw; clear hSw; go_simp; first | done | with_reducible rfl)⟩) (by assumption) ?_
          simp only [Act.put, List.setIfInBounds_toArray]; try simp only [List.set_cons_zero, List.set_cons_succ]
          refine wpAnyH_takesJ (i := 36) (v := (.bool true)) (some 6) rfl rfl (by kernel_rfl) (by kernel_rfl) (by kernel_rfl) (fun _ _ _ h => h) (Or.inl ⟨by rfl, (by intro W9 hSw; clear hSw; go_simp; first | done | with_reducible rfl)⟩) (by assumption) ?_
          simp only [Act.put, List.setIfInBounds_toArray]; try simp only [List.set_cons_zero, List.set_cons_succ]
          refine wpAnyH_done (by kernel_rfl) ?_ _
          have BE := Lib.hid (held_trans BW8.out hb6)
          clear hb1 hb2 hb3 hb4 hb5 hb6
          go_wp2_with fail
          go_ret
          exact ⟨rfl, BE.out⟩
      · skip
        obtain ⟨fk, fwh⟩ := h
        have z1 : ((-1 : Int) == (m : Int)) = false := by rw [beq_eq_false_iff_ne]; omega
        have z2 : (lo.2.2 == 3) = false := by rw [beq_eq_false_iff_ne]; exact fk
        clear fk
        have hcc := runsWhere_any ⟨A1, nt1, ct1, (some ⟨rb, ro, none⟩), nr1, cr1, (some ⟨sb, so, none⟩), ns1, cs1⟩ r lo.2.1 V7 MX7.out HLW.out
        rw [fwh] at hcc
        unfold jv at hcc
        simp only at hcc
        have C8 := Lib.hid hcc
        clear hcc
        have t0 := YX7.out.c0
        have t1 := YX7.out.c1
        have t2 := YX7.out.c2
        have t3 := YX7.out.c3
        have t4 := YX7.out.c4
        go_wp2_with (rw [← E7.out])
        clear E7
        refine C8.out.mono ?_
        rintro e V8 ⟨rfl, hb⟩
        have YX8 := Lib.hid (YX7.out.step hb)
        have MX8 := Lib.hid (MX7.out.below hb)
        have Ya8 := Lib.hid (Ya7.out.step hb)
        have Ma8 := Lib.hid (Ma7.out.below hb)
        have BW8 := Lib.hid (held_trans BW7.out hb)
        clear BW7 YX7 MX7 Ya7 Ma7 
        clear hb C8 t0 t1 t2 t3 t4
        have hcc := fun W (hb : Below V8.heap.size V8 W) => runsMay_any ⟨T7, nt7, ct7, R7, nr7, cr7, S7, ns7, cs7⟩ lo.1 true W (Lib.hid (yes_of FMAY.out)) (Ma8.out.below hb) HLA.out (HTW.out.step (held_trans BW8.out hb))
        unfold jv at hcc
        simp only at hcc
        have MYA := Lib.hid hcc
        clear hcc
        have hcc := fun W (hb : Below V8.heap.size V8 W) => runsAll_any ⟨T7, nt7, ct7, R7, nr7, cr7, S7, ns7, cs7⟩ lo.1 W (Ma8.out.below hb) HLA.out
        unfold jv at hcc
        simp only at hcc
        have AA := Lib.hid hcc
        clear hcc
        have hcc := fun W (hb : Below V8.heap.size V8 W) => runsAll_any ⟨A1, nt1, ct1, (some ⟨rb, ro, none⟩), nr1, cr1, (some ⟨sb, so, none⟩), ns1, cs1⟩ r W (MX8.out.below hb) HLW.out
        unfold jv at hcc
        simp only at hcc
        have AX := Lib.hid hcc
        clear hcc
        go_wp2_with fail
        clear q0
        refine wp_region_held_drew (S := fun w' => B5 w' w3.heap.size (.slice A1 nt1 ct1) (.int .i64 r.size) (.slice (some ⟨rb, ro, none⟩) nr1 cr1) (.slice (some ⟨sb, so, none⟩) ns1 cs1) (.int .u64 (r.on : Nat)) ∧ B5 w' u7.heap.size (.slice T7 nt7 ct7) (.int .i64 lo.1.size) (.slice R7 nr7 cr7) (.slice S7 ns7 cs7) (.int .u64 (lo.1.on : Nat))) (by kernel_rfl) ⟨YX8.out.drew, Ya8.out.drew⟩ (fun hHeld => ?_)
        refine wpAnyH_takesJ (i := 0) (v := (.bool true)) (some 95) rfl rfl (by kernel_rfl) (by kernel_rfl) (by kernel_rfl) (fun _ _ _ h => h) (Or.inl ⟨by rfl, (by intro W9 hSw; clear hSw; go_simp; first | done | with_reducible rfl)⟩) (by assumption) ?_
        simp only [Act.put, List.setIfInBounds_toArray]; try simp only [List.set_cons_zero, List.set_cons_succ]
        refine wpAnyH_takesJ (i := 1) (v := (.bool true)) (some 96) rfl rfl (by kernel_rfl) (by kernel_rfl) (by kernel_rfl) (fun _ _ _ h => h) (Or.inl ⟨by rfl, (by intro W9 hSw; clear hSw; go_simp; first | done | with_reducible rfl)⟩) (by assumption) ?_
        simp only [Act.put, List.setIfInBounds_toArray]; try simp only [List.set_cons_zero, List.set_cons_succ]
        refine wpAnyH_takesJ (i := 2) (v := (.bool true)) (some 97) rfl rfl (by kernel_rfl) (by kernel_rfl) (by kernel_rfl) (fun _ _ _ h => h) (Or.inl ⟨by rfl, (by intro W9 hSw; clear hSw; go_simp; first | done | with_reducible rfl)⟩) (by assumption) ?_
        simp only [Act.put, List.setIfInBounds_toArray]; try simp only [List.set_cons_zero, List.set_cons_succ]
        refine wpAnyH_takesJ (i := 3) (v := (.bool true)) (some 98) rfl rfl (by kernel_rfl) (by kernel_rfl) (by kernel_rfl) (fun _ _ _ h => h) (Or.inl ⟨by rfl, (by intro W9 hSw; clear hSw; go_simp; first | done | with_reducible rfl)⟩) (by assumption) ?_
        simp only [Act.put, List.setIfInBounds_toArray]; try simp only [List.set_cons_zero, List.set_cons_succ]
        refine wpAnyH_takesJ (i := 4) (v := (.bool true)) (some 99) rfl rfl (by kernel_rfl) (by kernel_rfl) (by kernel_rfl) (fun _ _ _ h => h) (Or.inl ⟨by rfl, (by intro W9 hSw; clear hSw; go_simp; first | done | with_reducible rfl)⟩) (by assumption) ?_
        simp only [Act.put, List.setIfInBounds_toArray]; try simp only [List.set_cons_zero, List.set_cons_succ]
        refine wpAnyH_takesJ (i := 5) (v := (.int .i64 (k : Nat))) (some 100) rfl rfl (by kernel_rfl) (by kernel_rfl) (by kernel_rfl) (fun _ _ _ h => h) (Or.inl ⟨by rfl, (by intro W9 hSw; clear hSw; go_simp; first | done | with_reducible rfl)⟩) (by assumption) ?_
        simp only [Act.put, List.setIfInBounds_toArray]; try simp only [List.set_cons_zero, List.set_cons_succ]
        refine wpAnyH_takesJ (i := 6) (v := (.int .i64 (k : Nat))) (some 101) rfl rfl (by kernel_rfl) (by kernel_rfl) (by kernel_rfl) (fun _ _ _ h => h) (Or.inl ⟨by rfl, (by intro W9 hSw; clear hSw; go_simp; first | done | with_reducible rfl)⟩) (by assumption) ?_
        simp only [Act.put, List.setIfInBounds_toArray]; try simp only [List.set_cons_zero, List.set_cons_succ]
        refine wpAnyH_takesJ (i := 7) (v := (.bool true)) (some 102) rfl rfl (by kernel_rfl) (by kernel_rfl) (by kernel_rfl) (fun _ _ _ h => h) (Or.inl ⟨by rfl, (by intro W9 hSw; clear hSw; go_simp; first | done | with_reducible rfl)⟩) (by assumption) ?_
        simp only [Act.put, List.setIfInBounds_toArray]; try simp only [List.set_cons_zero, List.set_cons_succ]
        refine wpAnyH_takesJ (i := 8) (v := (.bool true)) (some 103) rfl rfl (by kernel_rfl) (by kernel_rfl) (by kernel_rfl) (fun _ _ _ h => h) (Or.inl ⟨by rfl, (by intro W9 hSw; clear hSw; go_simp; first | done | with_reducible rfl)⟩) (by assumption) ?_
        simp only [Act.put, List.setIfInBounds_toArray]; try simp only [List.set_cons_zero, List.set_cons_succ]
        refine wpAnyH_takesJ (i := 9) (v := undef) (some 104) rfl rfl (by kernel_rfl) (by kernel_rfl) (by kernel_rfl) (fun _ _ _ h => h) (Or.inr ⟨by rfl, rfl⟩) (by assumption) ?_
        simp only [Act.put, List.setIfInBounds_toArray]; try simp only [List.set_cons_zero, List.set_cons_succ]
        refine wpAnyH_takesJ (i := 10) (v := undef) (some 105) rfl rfl (by kernel_rfl) (by kernel_rfl) (by kernel_rfl) (fun _ _ _ h => h) (Or.inr ⟨by rfl, rfl⟩) (by assumption) ?_
        simp only [Act.put, List.setIfInBounds_toArray]; try simp only [List.set_cons_zero, List.set_cons_succ]
        refine wpAnyH_takesJ (i := 11) (v := undef) (some 106) rfl rfl (by kernel_rfl) (by kernel_rfl) (by kernel_rfl) (fun _ _ _ h => h) (Or.inr ⟨by rfl, rfl⟩) (by assumption) ?_
        simp only [Act.put, List.setIfInBounds_toArray]; try simp only [List.set_cons_zero, List.set_cons_succ]
        refine wpAnyH_takesJ (i := 12) (v := (.bool true)) (some 107) rfl rfl (by kernel_rfl) (by kernel_rfl) (by kernel_rfl) (fun _ _ _ h => h) (Or.inl ⟨by rfl, (by intro W9 hSw; clear hSw; go_simp; first | done | with_reducible rfl)⟩) (by assumption) ?_
        simp only [Act.put, List.setIfInBounds_toArray]; try simp only [List.set_cons_zero, List.set_cons_succ]
        refine wpAnyH_takesJ (i := 13) (v := (.bool true)) (some 108) rfl rfl (by kernel_rfl) (by kernel_rfl) (by kernel_rfl) (fun _ _ _ h => h) (Or.inl ⟨by rfl, (by intro W9 hSw; clear hSw; go_simp; first | done | with_reducible rfl)⟩) (by assumption) ?_
        simp only [Act.put, List.setIfInBounds_toArray]; try simp only [List.set_cons_zero, List.set_cons_succ]
        refine wpAnyH_takesJ (i := 14) (v := (.bool true)) (some 109) rfl rfl (by kernel_rfl) (by kernel_rfl) (by kernel_rfl) (fun _ _ _ h => h) (Or.inl ⟨by rfl, (by intro W9 hSw; clear hSw; go_simp; first | done | with_reducible rfl)⟩) (by assumption) ?_
        simp only [Act.put, List.setIfInBounds_toArray]; try simp only [List.set_cons_zero, List.set_cons_succ]
        refine wpAnyH_takesJ (i := 15) (v := (.int .i64 lo.2.2)) (some 110) rfl rfl (by kernel_rfl) (by kernel_rfl) (by kernel_rfl) (fun _ _ _ h => h) (Or.inl ⟨by rfl, (by intro W9 hSw; clear hSw; go_simp; first | done | with_reducible rfl)⟩) (by assumption) ?_
        simp only [Act.put, List.setIfInBounds_toArray]; try simp only [List.set_cons_zero, List.set_cons_succ]
        refine wpAnyH_takesJ (i := 16) (v := (.bool false)) (some 111) rfl rfl (by kernel_rfl) (by kernel_rfl) (by kernel_rfl) (fun _ _ _ h => h) (Or.inl ⟨by rfl, (by intro W9 hSw; clear hSw; go_simp; first | done | with_reducible rfl)⟩) (by assumption) ?_
        simp only [Act.put, List.setIfInBounds_toArray]; try simp only [List.set_cons_zero, List.set_cons_succ]
        refine wpAnyH_takesJ (i := 17) (v := (.int .i64 (-1))) (some 112) rfl rfl (by kernel_rfl) (by kernel_rfl) (by kernel_rfl) (fun _ _ _ h => h) (Or.inl ⟨by rfl, (by intro W9 hSw; clear hSw; go_simp; first | done | with_reducible rfl)⟩) (by assumption) ?_
        simp only [Act.put, List.setIfInBounds_toArray]; try simp only [List.set_cons_zero, List.set_cons_succ]
        refine wpAnyH_takesJ (i := 18) (v := (.int .i64 (m : Nat))) (some 113) rfl rfl (by kernel_rfl) (by kernel_rfl) (by kernel_rfl) (fun _ _ _ h => h) (Or.inl ⟨by rfl, (by intro W9 hSw; clear hSw; go_simp; first | done | with_reducible rfl)⟩) (by assumption) ?_
        simp only [Act.put, List.setIfInBounds_toArray]; try simp only [List.set_cons_zero, List.set_cons_succ]
        refine wpAnyH_takesJ (i := 19) (v := (.bool false)) (some 114) rfl rfl (by kernel_rfl) (by kernel_rfl) (by kernel_rfl) (fun _ _ _ h => h) (Or.inl ⟨by rfl, (by intro W9 hSw; clear hSw; go_simp; first | done | with_reducible rfl)⟩) (by assumption) ?_
        simp only [Act.put, List.setIfInBounds_toArray]; try simp only [List.set_cons_zero, List.set_cons_succ]
        refine wpAnyH_takesJ (i := 20) (v := (.bool true)) (some 115) rfl rfl (by kernel_rfl) (by kernel_rfl) (by kernel_rfl) (fun _ _ _ h => h) (Or.inl ⟨by rfl, (by intro W9 hSw; clear hSw; go_simp; first | done | with_reducible rfl)⟩) (by assumption) ?_
        simp only [Act.put, List.setIfInBounds_toArray]; try simp only [List.set_cons_zero, List.set_cons_succ]
        refine wpAnyH_takesJ (i := 21) (v := (.bool true)) (some 116) rfl rfl (by kernel_rfl) (by kernel_rfl) (by kernel_rfl) (fun _ _ _ h => h) (Or.inl ⟨by rfl, (by intro W9 hSw; clear hSw; go_simp; first | done | with_reducible rfl)⟩) (by assumption) ?_
        simp only [Act.put, List.setIfInBounds_toArray]; try simp only [List.set_cons_zero, List.set_cons_succ]
        refine wpAnyH_takesJ (i := 22) (v := (.bool true)) (some 117) rfl rfl (by kernel_rfl) (by kernel_rfl) (by kernel_rfl) (fun _ _ _ h => h) (Or.inl ⟨by rfl, (by intro W9 hSw; clear hSw; go_simp; first | done | with_reducible rfl)⟩) (by assumption) ?_
        simp only [Act.put, List.setIfInBounds_toArray]; try simp only [List.set_cons_zero, List.set_cons_succ]
        refine wpAnyH_takesJ (i := 23) (v := (.agg #[.slice T7 nt7 ct7, .int .i64 lo.1.size, .slice R7 nr7 cr7, .slice S7 ns7 cs7, .int .u64 (lo.1.on : Nat)])) (some 118) rfl rfl (by kernel_rfl) (by kernel_rfl) (by kernel_rfl) (fun _ _ _ h => h) (Or.inl ⟨by rfl, (by intro W9 hSw; have s0 := (hSw.2).c0; have s1 := (hSw.2).c1; have s2 := (hSw.2).c2; have s3 := (hSw.2).c3; have s4 := (hSw.2).c4; clear hSw; go_simp; first | done | with_reducible rfl)⟩) (by assumption) ?_
        simp only [Act.put, List.setIfInBounds_toArray]; try simp only [List.set_cons_zero, List.set_cons_succ]
        refine wpAnyH_ready (rs := [24]) (by kernel_rfl) (by simp) ?_
        refine AllReadyH.cons rfl (fun K hK => ?_) AllReadyH.nil
        go_simp
        go_at_call 21
        refine (MYA.out _ (by exact (Below.refl _ _).drew)).mono ?_
        rintro e x1 ⟨rfl, hbx⟩
        have hb1 := (Below.refl V8.heap.size V8).drew.trans (hbx.mono (by simp))
        refine hK.out _ _ (by exact ⟨YX8.out.step hb1, Ya8.out.step hb1⟩) (fun hHeld => ?_)
        clear hK K hbx
        try dsimp only
        refine wpAnyH_takesJ (i := 25) (v := (.bool true)) (some 120) rfl rfl (by kernel_rfl) (by kernel_rfl) (by kernel_rfl) (fun _ _ _ h => h) (Or.inl ⟨by rfl, (by intro W9 hSw; clear hSw; go_simp; first | done | with_reducible rfl)⟩) (by assumption) ?_
        simp only [Act.put, List.setIfInBounds_toArray]; try simp only [List.set_cons_zero, List.set_cons_succ]
        refine wpAnyH_takesJ (i := 26) (v := (.bool true)) (some 121) rfl rfl (by kernel_rfl) (by kernel_rfl) (by kernel_rfl) (fun _ _ _ h => h) (Or.inl ⟨by rfl, (by intro W9 hSw; clear hSw; go_simp; first | done | with_reducible rfl)⟩) (by assumption) ?_
        simp only [Act.put, List.setIfInBounds_toArray]; try simp only [List.set_cons_zero, List.set_cons_succ]
        refine wpAnyH_takesJ (i := 27) (v := (.int .i64 lo.2.1)) (some 122) rfl rfl (by kernel_rfl) (by kernel_rfl) (by kernel_rfl) (fun _ _ _ h => h) (Or.inl ⟨by rfl, (by intro W9 hSw; clear hSw; go_simp; first | done | with_reducible rfl)⟩) (by assumption) ?_
        simp only [Act.put, List.setIfInBounds_toArray]; try simp only [List.set_cons_zero, List.set_cons_succ]
        refine wpAnyH_takesJ (i := 29) (v := (.agg #[.slice T7 nt7 ct7, .int .i64 lo.1.size, .slice R7 nr7 cr7, .slice S7 ns7 cs7, .int .u64 (lo.1.on : Nat)])) (some 124) rfl rfl (by kernel_rfl) (by kernel_rfl) (by kernel_rfl) (fun _ _ _ h => h) (Or.inl ⟨by rfl, (by intro W9 hSw; have s0 := (hSw.2).c0; have s1 := (hSw.2).c1; have s2 := (hSw.2).c2; have s3 := (hSw.2).c3; have s4 := (hSw.2).c4; clear hSw; go_simp; first | done | with_reducible rfl)⟩) (by assumption) ?_
        simp only [Act.put, List.setIfInBounds_toArray]; try simp only [List.set_cons_zero, List.set_cons_succ]
        refine wpAnyH_takesJ (i := 32) (v := (.agg #[.slice A1 nt1 ct1, .int .i64 r.size, .slice (some ⟨rb, ro, none⟩) nr1 cr1, .slice (some ⟨sb, so, none⟩) ns1 cs1, .int .u64 (r.on : Nat)])) (some 127) rfl rfl (by kernel_rfl) (by kernel_rfl) (by kernel_rfl) (fun _ _ _ h => h) (Or.inl ⟨by rfl, (by intro W9 hSw; have s0 := (hSw.1).c0; have s1 := (hSw.1).c1; have s2 := (hSw.1).c2; have s3 := (hSw.1).c3; have s4 := (hSw.1).c4; clear hSw; go_simp; first | done | with_reducible rfl)⟩) (by assumption) ?_
        simp only [Act.put, List.setIfInBounds_toArray]; try simp only [List.set_cons_zero, List.set_cons_succ]
        refine wpAnyH_ready (rs := [28, 30]) (by kernel_rfl) (by simp) ?_
        refine AllReadyH.cons rfl (fun K hK => ?_) (AllReadyH.cons rfl (fun K hK => ?_) AllReadyH.nil)
        · skip
          go_simp
          have hbl := below_new x1 (.cells #[.int .i64 lo.2.1] 3)
          have OL := Lib.hid (own_lit x1 [lo.2.1] V8.heap.size hb1.size (by simp))
          have hb2 := hb1.trans (hbl.mono hb1.size)
          obtain ⟨LB, hLB⟩ : ∃ LB, LB = x1.heap.size := ⟨_, rfl⟩
          obtain ⟨x2, hx⟩ : ∃ x2, x2 = x1.alloc (.cells #[.int .i64 lo.2.1] 3) := ⟨_, rfl⟩
          simp only [List.map_cons, List.map_nil, List.length_cons, List.length_nil] at OL
          rw [← hx] at hb2 hbl ⊢
          rw [show (#[Value.int .i64 lo.2.1] : Array Value) = [Value.int .i64 lo.2.1].toArray from rfl] at hx
          rw [← hx, ← hLB] at OL
          try rw [← hLB]
          clear hx hLB hbl
          refine hK.out _ _ (by exact ⟨YX8.out.step hb2, Ya8.out.step hb2⟩) (fun hHeld => ?_)
          clear hK K
          try dsimp only
          refine wpAnyH_ready (rs := [30]) (by kernel_rfl) (by simp) ?_
          refine AllReadyH.cons rfl (fun K hK => ?_) AllReadyH.nil
          go_simp
          go_at_call 23
          refine (AA.out _ (by exact hb2)).mono ?_
          rintro e x3 ⟨Aq, nq, cq, rfl, hrq, _, hbx⟩
          have hb3 := hb2.trans (hbx.mono hb2.size)
          have OL2 := Lib.hid (own_below OL.out hbx)
          have RQ := Lib.hid hrq
          clear hrq OL
          refine hK.out _ _ (by exact ⟨YX8.out.step hb3, Ya8.out.step hb3⟩) (fun hHeld => ?_)
          clear hK K hbx
          try dsimp only
          refine wpAnyH_ready (rs := [31]) (by kernel_rfl) (by simp) ?_
          refine AllReadyH.cons rfl (fun K hK => ?_) AllReadyH.nil
          refine step_append_row_g (.tmp 123) (.tmp 125) rfl (by simp [Region.wanted, yielded]) V8.heap.size _ 1 [lo.2.1] rfl OL2.out Aq nq cq (Jp.all lo.1) rfl RQ.out (by have h7 := RQ.out.len; have h8 := all_le HLA.out; omega) hb3.size ?_
          intro vb x4 hob hgb
          have hb4 := hb3.grown hgb hb3.size (fun q e => (OL2.out.lt q e).1)
          obtain ⟨Ab, cb, rfl, hrb⟩ := Row.of_own hob
          have RB := Lib.hid hrb
          clear hob hgb hrb
          refine hK.out _ _ (by exact ⟨YX8.out.step hb4, Ya8.out.step hb4⟩) (fun hHeld => ?_)
          clear hK K
          try dsimp only
          refine wpAnyH_ready (rs := [33]) (by kernel_rfl) (by simp) ?_
          refine AllReadyH.cons rfl (fun K hK => ?_) AllReadyH.nil
          go_simp
          go_at_call 23
          refine (AX.out _ (by exact hb4)).mono ?_
          rintro e x5 ⟨Az, nz, cz, rfl, hrz, _, hbx⟩
          have hb5 := hb4.trans (hbx.mono hb4.size)
          have BG := Lib.hid (bag_row Ab Az _ nz cb cz _ _ x5 FPM.out (RB.out.below hbx) hrz (by have h7 := hrz.len; have h8 := all_le HLW.out; omega))
          clear hrz
          refine hK.out _ _ (by exact ⟨YX8.out.step hb5, Ya8.out.step hb5⟩) (fun hHeld => ?_)
          clear hK K hbx
          try dsimp only
          refine wpAnyH_ready (rs := [34]) (by kernel_rfl) (by simp) ?_
          refine AllReadyH.cons rfl (fun K hK => ?_) AllReadyH.nil
          go_simp
          go_at_call 22
          refine (BG.out).mono ?_
          rintro e x6 ⟨rfl, hbx⟩
          have hb6 := hb5.trans (hbx.mono hb5.size)
          refine hK.out _ _ (by exact ⟨YX8.out.step hb6, Ya8.out.step hb6⟩) (fun hHeld => ?_)
          clear hK K hbx
          try dsimp only
          refine wpAnyH_takesJ (i := 35) (v := (.bool true)) (some 130) rfl rfl (by kernel_rfl) (by kernel_rfl) (by kernel_rfl) (fun _ _ _ h => h) (Or.inl ⟨by rfl, (by intro W9 hSw; clear hSw; go_simp; first | done | with_reducible rfl)⟩) (by assumption) ?_
          simp only [Act.put, List.setIfInBounds_toArray]; try simp only [List.set_cons_zero, List.set_cons_succ]
          refine wpAnyH_takesJ (i := 36) (v := (.bool true)) (some 6) rfl rfl (by kernel_rfl) (by kernel_rfl) (by kernel_rfl) (fun _ _ _ h => h) (Or.inl ⟨by rfl, (by intro W9 hSw; clear hSw; go_simp; first | done | with_reducible rfl)⟩) (by assumption) ?_
          simp only [Act.put, List.setIfInBounds_toArray]; try simp only [List.set_cons_zero, List.set_cons_succ]
          refine wpAnyH_done (by kernel_rfl) ?_ _
          have BE := Lib.hid (held_trans BW8.out hb6)
          clear hb1 hb2 hb3 hb4 hb5 hb6
          go_wp2_with fail
          go_ret
          exact ⟨rfl, BE.out⟩
        · skip
          go_simp
          go_at_call 23
          refine (AA.out _ (by exact hb1)).mono ?_
          rintro e x2 ⟨Aq, nq, cq, rfl, hrq, _, hbx⟩
          have hb2 := hb1.trans (hbx.mono hb1.size)
          have RQ := Lib.hid hrq
          clear hrq
          refine hK.out _ _ (by exact ⟨YX8.out.step hb2, Ya8.out.step hb2⟩) (fun hHeld => ?_)
          clear hK K hbx
          try dsimp only
          refine wpAnyH_ready (rs := [28]) (by kernel_rfl) (by simp) ?_
          refine AllReadyH.cons rfl (fun K hK => ?_) AllReadyH.nil
          go_simp
          have hbl := below_new x2 (.cells #[.int .i64 lo.2.1] 3)
          have OL := Lib.hid (own_lit x2 [lo.2.1] V8.heap.size hb2.size (by simp))
          have hb3 := hb2.trans (hbl.mono hb2.size)
          obtain ⟨LB, hLB⟩ : ∃ LB, LB = x2.heap.size := ⟨_, rfl⟩
          obtain ⟨x3, hx⟩ : ∃ x3, x3 = x2.alloc (.cells #[.int .i64 lo.2.1] 3) := ⟨_, rfl⟩
          simp only [List.map_cons, List.map_nil, List.length_cons, List.length_nil] at OL
          rw [← hx] at hb3 hbl ⊢
          rw [show (#[Value.int .i64 lo.2.1] : Array Value) = [Value.int .i64 lo.2.1].toArray from rfl] at hx
          rw [← hx, ← hLB] at OL
          try rw [← hLB]
          have RQ2 := Lib.hid (RQ.out.below hbl)
          clear hx hLB hbl
          refine hK.out _ _ (by exact ⟨YX8.out.step hb3, Ya8.out.step hb3⟩) (fun hHeld => ?_)
          clear hK K
          try dsimp only
          refine wpAnyH_ready (rs := [31]) (by kernel_rfl) (by simp) ?_
          refine AllReadyH.cons rfl (fun K hK => ?_) AllReadyH.nil
          refine step_append_row_g (.tmp 123) (.tmp 125) rfl (by simp [Region.wanted, yielded]) V8.heap.size _ 1 [lo.2.1] rfl OL.out Aq nq cq (Jp.all lo.1) rfl RQ2.out (by have h7 := RQ2.out.len; have h8 := all_le HLA.out; omega) hb3.size ?_
          intro vb x4 hob hgb
          have hb4 := hb3.grown hgb hb3.size (fun q e => (OL.out.lt q e).1)
          obtain ⟨Ab, cb, rfl, hrb⟩ := Row.of_own hob
          have RB := Lib.hid hrb
          clear hob hgb hrb
          refine hK.out _ _ (by exact ⟨YX8.out.step hb4, Ya8.out.step hb4⟩) (fun hHeld => ?_)
          clear hK K
          try dsimp only
          refine wpAnyH_ready (rs := [33]) (by kernel_rfl) (by simp) ?_
          refine AllReadyH.cons rfl (fun K hK => ?_) AllReadyH.nil
          go_simp
          go_at_call 23
          refine (AX.out _ (by exact hb4)).mono ?_
          rintro e x5 ⟨Az, nz, cz, rfl, hrz, _, hbx⟩
          have hb5 := hb4.trans (hbx.mono hb4.size)
          have BG := Lib.hid (bag_row Ab Az _ nz cb cz _ _ x5 FPM.out (RB.out.below hbx) hrz (by have h7 := hrz.len; have h8 := all_le HLW.out; omega))
          clear hrz
          refine hK.out _ _ (by exact ⟨YX8.out.step hb5, Ya8.out.step hb5⟩) (fun hHeld => ?_)
          clear hK K hbx
          try dsimp only
          refine wpAnyH_ready (rs := [34]) (by kernel_rfl) (by simp) ?_
          refine AllReadyH.cons rfl (fun K hK => ?_) AllReadyH.nil
          go_simp
          go_at_call 22
          refine (BG.out).mono ?_
          rintro e x6 ⟨rfl, hbx⟩
          have hb6 := hb5.trans (hbx.mono hb5.size)
          refine hK.out _ _ (by exact ⟨YX8.out.step hb6, Ya8.out.step hb6⟩) (fun hHeld => ?_)
          clear hK K hbx
          try dsimp only
          refine wpAnyH_takesJ (i := 35) (v := (.bool true)) (some 130) rfl rfl (by kernel_rfl) (by kernel_rfl) (by kernel_rfl) (fun _ _ _ h => h) (Or.inl ⟨by rfl, (by intro W9 hSw; clear hSw; go_simp; first | done | with_reducible rfl)⟩) (by assumption) ?_
          simp only [Act.put, List.setIfInBounds_toArray]; try simp only [List.set_cons_zero, List.set_cons_succ]
          refine wpAnyH_takesJ (i := 36) (v := (.bool true)) (some 6) rfl rfl (by kernel_rfl) (by kernel_rfl) (by kernel_rfl) (fun _ _ _ h => h) (Or.inl ⟨by rfl, (by intro W9 hSw; clear hSw; go_simp; first | done | with_reducible rfl)⟩) (by assumption) ?_
          simp only [Act.put, List.setIfInBounds_toArray]; try simp only [List.set_cons_zero, List.set_cons_succ]
          refine wpAnyH_done (by kernel_rfl) ?_ _
          have BE := Lib.hid (held_trans BW8.out hb6)
          clear hb1 hb2 hb3 hb4 hb5 hb6
          go_wp2_with fail
          go_ret
          exact ⟨rfl, BE.out⟩
    · skip
      obtain ⟨f1, f2, f3, f4⟩ := HFO.out.some hg
      have no1 : (0 : Int) < (no : Int) := by have := List.length_pos_iff.2 hown; omega
      have no3 : 0 < no := by omega
      clear hown hlr hsc2
      have q0 : (lo.2.1 == 0) = false := by rw [beq_eq_false_iff_ne]; exact hg
      have FST := Lib.hid f2
      have FMAY := Lib.hid f3
      have FPM := Lib.hid f4
      have HG := Lib.hid hg
      clear f1 f2 f3 f4 hg hlo
      have hcc := findLocal_any ⟨A1, nt1, ct1, (some ⟨rb, ro, none⟩), nr1, cr1, (some ⟨sb, so, none⟩), ns1, cs1⟩ r k (tick) V6 MX6.out (fun b hb => Nat.lt_trans hb YX6.out.lt) HLW.out hp ht (HTW.out.step BW6.out)
      rw [← HLO.out] at hcc
      unfold jv at hcc
      simp only at hcc
      have C7 := Lib.hid hcc
      clear hcc
      have t0 := YX6.out.c0
      have t1 := YX6.out.c1
      have t2 := YX6.out.c2
      have t3 := YX6.out.c3
      have t4 := YX6.out.c4
      go_wp2_with fail
      refine C7.out.mono ?_
      rintro e u7 ⟨⟨T7, nt7, ct7, R7, nr7, cr7, S7, ns7, cs7⟩, rfl, hm, hb⟩
      unfold jv
      simp only
      have hbn := below_new u7 (.cells #[.slice T7 nt7 ct7, .int .i64 lo.1.size, .slice R7 nr7 cr7, .slice S7 ns7 cs7, .int .u64 (lo.1.on : Nat)] 33)
      have hY := B5.new u7 (.slice T7 nt7 ct7) (.int .i64 lo.1.size) (.slice R7 nr7 cr7) (.slice S7 ns7 cs7) (.int .u64 (lo.1.on : Nat)) 33
      obtain ⟨V7, hV⟩ : ∃ V7, V7 = u7.alloc (.cells #[.slice T7 nt7 ct7, .int .i64 lo.1.size, .slice R7 nr7 cr7, .slice S7 ns7 cs7, .int .u64 (lo.1.on : Nat)] 33) := ⟨_, rfl⟩
      rw [← hV] at hbn hY
      have E7 := Lib.hid hV
      have hbj := hb.trans (hbn.mono hb.size)
      have YX7 := Lib.hid (YX6.out.step hbj)
      have MX7 := Lib.hid (MX6.out.below hbj)
      have BW7 := Lib.hid (held_trans BW6.out hbj)
      clear BW6 YX6 MX6 
      have Ya7 := Lib.hid hY
      have Ma7 := Lib.hid ((hm.bound.mono (G := fun b => b < u7.heap.size) (fun b hb => hb.2)).below hbn)
      clear hV hY hbn hm hb hbj C7 t0 t1 t2 t3 t4
      rcases FST.out with h | h
      · skip
        obtain ⟨fk, fwh⟩ := h
        have z1 : ((-1 : Int) == (k : Int)) = false := by rw [beq_eq_false_iff_ne]; omega
        have z2 : (lo.2.2 == 3) = true := by rw [fk]; rfl
        clear fk
        have hcc := runsWhere_any ⟨A1, nt1, ct1, (some ⟨rb, ro, none⟩), nr1, cr1, (some ⟨sb, so, none⟩), ns1, cs1⟩ r lo.2.1 V7 MX7.out HLW.out
        rw [fwh] at hcc
        unfold jv at hcc
        simp only at hcc
        have C8 := Lib.hid hcc
        clear hcc
        have t0 := YX7.out.c0
        have t1 := YX7.out.c1
        have t2 := YX7.out.c2
        have t3 := YX7.out.c3
        have t4 := YX7.out.c4
        go_wp2_with (rw [← E7.out])
        clear E7
        refine C8.out.mono ?_
        rintro e V8 ⟨rfl, hb⟩
        have YX8 := Lib.hid (YX7.out.step hb)
        have MX8 := Lib.hid (MX7.out.below hb)
        have Ya8 := Lib.hid (Ya7.out.step hb)
        have Ma8 := Lib.hid (Ma7.out.below hb)
        have BW8 := Lib.hid (held_trans BW7.out hb)
        clear BW7 YX7 MX7 Ya7 Ma7 
        clear hb C8 t0 t1 t2 t3 t4
        have hcc := fun W (hb : Below V8.heap.size V8 W) => runsMay_any ⟨T7, nt7, ct7, R7, nr7, cr7, S7, ns7, cs7⟩ lo.1 true W (Lib.hid (yes_of FMAY.out)) (Ma8.out.below hb) HLA.out (HTW.out.step (held_trans BW8.out hb))
        unfold jv at hcc
        simp only at hcc
        have MYA := Lib.hid hcc
        clear hcc
        have hcc := fun W (hb : Below V8.heap.size V8 W) => runsAll_any ⟨T7, nt7, ct7, R7, nr7, cr7, S7, ns7, cs7⟩ lo.1 W (Ma8.out.below hb) HLA.out
        unfold jv at hcc
        simp only at hcc
        have AA := Lib.hid hcc
        clear hcc
        have hcc := fun W (hb : Below V8.heap.size V8 W) => runsAll_any ⟨A1, nt1, ct1, (some ⟨rb, ro, none⟩), nr1, cr1, (some ⟨sb, so, none⟩), ns1, cs1⟩ r W (MX8.out.below hb) HLW.out
        unfold jv at hcc
        simp only at hcc
        have AX := Lib.hid hcc
        clear hcc
        go_wp2_with fail
        clear q0
        refine wp_region_held_drew (S := fun w' => B5 w' w3.heap.size (.slice A1 nt1 ct1) (.int .i64 r.size) (.slice (some ⟨rb, ro, none⟩) nr1 cr1) (.slice (some ⟨sb, so, none⟩) ns1 cs1) (.int .u64 (r.on : Nat)) ∧ B5 w' u7.heap.size (.slice T7 nt7 ct7) (.int .i64 lo.1.size) (.slice R7 nr7 cr7) (.slice S7 ns7 cs7) (.int .u64 (lo.1.on : Nat))) (by kernel_rfl) ⟨YX8.out.drew, Ya8.out.drew⟩ (fun hHeld => ?_)
        refine wpAnyH_takesJ (i := 0) (v := (.bool true)) (some 95) rfl rfl (by kernel_rfl) (by kernel_rfl) (by kernel_rfl) (fun _ _ _ h => h) (Or.inl ⟨by rfl, (by intro W9 hSw; clear hSw; go_simp; first | done | with_reducible rfl)⟩) (by assumption) ?_
        simp only [Act.put, List.setIfInBounds_toArray]; try simp only [List.set_cons_zero, List.set_cons_succ]
        refine wpAnyH_takesJ (i := 1) (v := (.bool true)) (some 96) rfl rfl (by kernel_rfl) (by kernel_rfl) (by kernel_rfl) (fun _ _ _ h => h) (Or.inl ⟨by rfl, (by intro W9 hSw; clear hSw; go_simp; first | done | with_reducible rfl)⟩) (by assumption) ?_
        simp only [Act.put, List.setIfInBounds_toArray]; try simp only [List.set_cons_zero, List.set_cons_succ]
        refine wpAnyH_takesJ (i := 2) (v := (.bool true)) (some 97) rfl rfl (by kernel_rfl) (by kernel_rfl) (by kernel_rfl) (fun _ _ _ h => h) (Or.inl ⟨by rfl, (by intro W9 hSw; clear hSw; go_simp; first | done | with_reducible rfl)⟩) (by assumption) ?_
        simp only [Act.put, List.setIfInBounds_toArray]; try simp only [List.set_cons_zero, List.set_cons_succ]
        refine wpAnyH_takesJ (i := 3) (v := (.bool true)) (some 98) rfl rfl (by kernel_rfl) (by kernel_rfl) (by kernel_rfl) (fun _ _ _ h => h) (Or.inl ⟨by rfl, (by intro W9 hSw; clear hSw; go_simp; first | done | with_reducible rfl)⟩) (by assumption) ?_
        simp only [Act.put, List.setIfInBounds_toArray]; try simp only [List.set_cons_zero, List.set_cons_succ]
        refine wpAnyH_takesJ (i := 4) (v := (.bool true)) (some 99) rfl rfl (by kernel_rfl) (by kernel_rfl) (by kernel_rfl) (fun _ _ _ h => h) (Or.inl ⟨by rfl, (by intro W9 hSw; clear hSw; go_simp; first | done | with_reducible rfl)⟩) (by assumption) ?_
        simp only [Act.put, List.setIfInBounds_toArray]; try simp only [List.set_cons_zero, List.set_cons_succ]
        refine wpAnyH_takesJ (i := 5) (v := (.int .i64 (-1))) (some 100) rfl rfl (by kernel_rfl) (by kernel_rfl) (by kernel_rfl) (fun _ _ _ h => h) (Or.inl ⟨by rfl, (by intro W9 hSw; clear hSw; go_simp; first | done | with_reducible rfl)⟩) (by assumption) ?_
        simp only [Act.put, List.setIfInBounds_toArray]; try simp only [List.set_cons_zero, List.set_cons_succ]
        refine wpAnyH_takesJ (i := 6) (v := (.int .i64 (k : Nat))) (some 101) rfl rfl (by kernel_rfl) (by kernel_rfl) (by kernel_rfl) (fun _ _ _ h => h) (Or.inl ⟨by rfl, (by intro W9 hSw; clear hSw; go_simp; first | done | with_reducible rfl)⟩) (by assumption) ?_
        simp only [Act.put, List.setIfInBounds_toArray]; try simp only [List.set_cons_zero, List.set_cons_succ]
        refine wpAnyH_takesJ (i := 7) (v := (.bool false)) (some 102) rfl rfl (by kernel_rfl) (by kernel_rfl) (by kernel_rfl) (fun _ _ _ h => h) (Or.inl ⟨by rfl, (by intro W9 hSw; clear hSw; go_simp; first | done | with_reducible rfl)⟩) (by assumption) ?_
        simp only [Act.put, List.setIfInBounds_toArray]; try simp only [List.set_cons_zero, List.set_cons_succ]
        refine wpAnyH_takesJ (i := 8) (v := (.bool false)) (some 103) rfl rfl (by kernel_rfl) (by kernel_rfl) (by kernel_rfl) (fun _ _ _ h => h) (Or.inl ⟨by rfl, (by intro W9 hSw; clear hSw; go_simp; first | done | with_reducible rfl)⟩) (by assumption) ?_
        simp only [Act.put, List.setIfInBounds_toArray]; try simp only [List.set_cons_zero, List.set_cons_succ]
        refine wpAnyH_takesJ (i := 9) (v := (.int .i64 (m : Nat))) (some 104) rfl rfl (by kernel_rfl) (by kernel_rfl) (by kernel_rfl) (fun _ _ _ h => h) (Or.inl ⟨by rfl, (by intro W9 hSw; clear hSw; go_simp; first | done | with_reducible rfl)⟩) (by assumption) ?_
        simp only [Act.put, List.setIfInBounds_toArray]; try simp only [List.set_cons_zero, List.set_cons_succ]
        refine wpAnyH_takesJ (i := 10) (v := (.int .i64 (m : Nat))) (some 105) rfl rfl (by kernel_rfl) (by kernel_rfl) (by kernel_rfl) (fun _ _ _ h => h) (Or.inl ⟨by rfl, (by intro W9 hSw; clear hSw; go_simp; first | done | with_reducible rfl)⟩) (by assumption) ?_
        simp only [Act.put, List.setIfInBounds_toArray]; try simp only [List.set_cons_zero, List.set_cons_succ]
        refine wpAnyH_takesJ (i := 11) (v := (.bool true)) (some 106) rfl rfl (by kernel_rfl) (by kernel_rfl) (by kernel_rfl) (fun _ _ _ h => h) (Or.inl ⟨by rfl, (by intro W9 hSw; clear hSw; go_simp; first | done | with_reducible rfl)⟩) (by assumption) ?_
        simp only [Act.put, List.setIfInBounds_toArray]; try simp only [List.set_cons_zero, List.set_cons_succ]
        refine wpAnyH_takesJ (i := 12) (v := (.bool true)) (some 107) rfl rfl (by kernel_rfl) (by kernel_rfl) (by kernel_rfl) (fun _ _ _ h => h) (Or.inl ⟨by rfl, (by intro W9 hSw; clear hSw; go_simp; first | done | with_reducible rfl)⟩) (by assumption) ?_
        simp only [Act.put, List.setIfInBounds_toArray]; try simp only [List.set_cons_zero, List.set_cons_succ]
        refine wpAnyH_takesJ (i := 13) (v := (.bool true)) (some 108) rfl rfl (by kernel_rfl) (by kernel_rfl) (by kernel_rfl) (fun _ _ _ h => h) (Or.inl ⟨by rfl, (by intro W9 hSw; clear hSw; go_simp; first | done | with_reducible rfl)⟩) (by assumption) ?_
        simp only [Act.put, List.setIfInBounds_toArray]; try simp only [List.set_cons_zero, List.set_cons_succ]
        refine wpAnyH_takesJ (i := 14) (v := (.bool true)) (some 109) rfl rfl (by kernel_rfl) (by kernel_rfl) (by kernel_rfl) (fun _ _ _ h => h) (Or.inl ⟨by rfl, (by intro W9 hSw; clear hSw; go_simp; first | done | with_reducible rfl)⟩) (by assumption) ?_
        simp only [Act.put, List.setIfInBounds_toArray]; try simp only [List.set_cons_zero, List.set_cons_succ]
        refine wpAnyH_takesJ (i := 15) (v := (.int .i64 lo.2.2)) (some 110) rfl rfl (by kernel_rfl) (by kernel_rfl) (by kernel_rfl) (fun _ _ _ h => h) (Or.inl ⟨by rfl, (by intro W9 hSw; clear hSw; go_simp; first | done | with_reducible rfl)⟩) (by assumption) ?_
        simp only [Act.put, List.setIfInBounds_toArray]; try simp only [List.set_cons_zero, List.set_cons_succ]
        refine wpAnyH_takesJ (i := 16) (v := (.bool true)) (some 111) rfl rfl (by kernel_rfl) (by kernel_rfl) (by kernel_rfl) (fun _ _ _ h => h) (Or.inl ⟨by rfl, (by intro W9 hSw; clear hSw; go_simp; first | done | with_reducible rfl)⟩) (by assumption) ?_
        simp only [Act.put, List.setIfInBounds_toArray]; try simp only [List.set_cons_zero, List.set_cons_succ]
        refine wpAnyH_takesJ (i := 17) (v := (.int .i64 (m : Nat))) (some 112) rfl rfl (by kernel_rfl) (by kernel_rfl) (by kernel_rfl) (fun _ _ _ h => h) (Or.inl ⟨by rfl, (by intro W9 hSw; clear hSw; go_simp; first | done | with_reducible rfl)⟩) (by assumption) ?_
        simp only [Act.put, List.setIfInBounds_toArray]; try simp only [List.set_cons_zero, List.set_cons_succ]
        refine wpAnyH_takesJ (i := 18) (v := (.int .i64 (m : Nat))) (some 113) rfl rfl (by kernel_rfl) (by kernel_rfl) (by kernel_rfl) (fun _ _ _ h => h) (Or.inl ⟨by rfl, (by intro W9 hSw; clear hSw; go_simp; first | done | with_reducible rfl)⟩) (by assumption) ?_
        simp only [Act.put, List.setIfInBounds_toArray]; try simp only [List.set_cons_zero, List.set_cons_succ]
        refine wpAnyH_takesJ (i := 19) (v := (.bool true)) (some 114) rfl rfl (by kernel_rfl) (by kernel_rfl) (by kernel_rfl) (fun _ _ _ h => h) (Or.inl ⟨by rfl, (by intro W9 hSw; clear hSw; go_simp; first | done | with_reducible rfl)⟩) (by assumption) ?_
        simp only [Act.put, List.setIfInBounds_toArray]; try simp only [List.set_cons_zero, List.set_cons_succ]
        refine wpAnyH_takesJ (i := 20) (v := (.bool true)) (some 115) rfl rfl (by kernel_rfl) (by kernel_rfl) (by kernel_rfl) (fun _ _ _ h => h) (Or.inl ⟨by rfl, (by intro W9 hSw; clear hSw; go_simp; first | done | with_reducible rfl)⟩) (by assumption) ?_
        simp only [Act.put, List.setIfInBounds_toArray]; try simp only [List.set_cons_zero, List.set_cons_succ]
        refine wpAnyH_takesJ (i := 21) (v := (.bool true)) (some 116) rfl rfl (by kernel_rfl) (by kernel_rfl) (by kernel_rfl) (fun _ _ _ h => h) (Or.inl ⟨by rfl, (by intro W9 hSw; clear hSw; go_simp; first | done | with_reducible rfl)⟩) (by assumption) ?_
        simp only [Act.put, List.setIfInBounds_toArray]; try simp only [List.set_cons_zero, List.set_cons_succ]
        refine wpAnyH_takesJ (i := 22) (v := (.bool true)) (some 117) rfl rfl (by kernel_rfl) (by kernel_rfl) (by kernel_rfl) (fun _ _ _ h => h) (Or.inl ⟨by rfl, (by intro W9 hSw; clear hSw; go_simp; first | done | with_reducible rfl)⟩) (by assumption) ?_
        simp only [Act.put, List.setIfInBounds_toArray]; try simp only [List.set_cons_zero, List.set_cons_succ]
        refine wpAnyH_takesJ (i := 23) (v := (.agg #[.slice T7 nt7 ct7, .int .i64 lo.1.size, .slice R7 nr7 cr7, .slice S7 ns7 cs7, .int .u64 (lo.1.on : Nat)])) (some 118) rfl rfl (by kernel_rfl) (by kernel_rfl) (by kernel_rfl) (fun _ _ _ h => h) (Or.inl ⟨by rfl, (by intro W9 hSw; have s0 := (hSw.2).c0; have s1 := (hSw.2).c1; have s2 := (hSw.2).c2; have s3 := (hSw.2).c3; have s4 := (hSw.2).c4; clear hSw; go_simp; first | done | with_reducible rfl)⟩) (by assumption) ?_
        simp only [Act.put, List.setIfInBounds_toArray]; try simp only [List.set_cons_zero, List.set_cons_succ]
        refine wpAnyH_ready (rs := [24]) (by kernel_rfl) (by simp) ?_
        refine AllReadyH.cons rfl (fun K hK => ?_) AllReadyH.nil
        go_simp
        go_at_call 21
        refine (MYA.out _ (by exact (Below.refl _ _).drew)).mono ?_
        rintro e x1 ⟨rfl, hbx⟩
        have hb1 := (Below.refl V8.heap.size V8).drew.trans (hbx.mono (by simp))
        refine hK.out _ _ (by exact ⟨YX8.out.step hb1, Ya8.out.step hb1⟩) (fun hHeld => ?_)
        clear hK K hbx
        try dsimp only
        refine wpAnyH_takesJ (i := 25) (v := (.bool true)) (some 120) rfl rfl (by kernel_rfl) (by kernel_rfl) (by kernel_rfl) (fun _ _ _ h => h) (Or.inl ⟨by rfl, (by intro W9 hSw; clear hSw; go_simp; first | done | with_reducible rfl)⟩) (by assumption) ?_
        simp only [Act.put, List.setIfInBounds_toArray]; try simp only [List.set_cons_zero, List.set_cons_succ]
        refine wpAnyH_takesJ (i := 26) (v := (.bool true)) (some 121) rfl rfl (by kernel_rfl) (by kernel_rfl) (by kernel_rfl) (fun _ _ _ h => h) (Or.inl ⟨by rfl, (by intro W9 hSw; clear hSw; go_simp; first | done | with_reducible rfl)⟩) (by assumption) ?_
        simp only [Act.put, List.setIfInBounds_toArray]; try simp only [List.set_cons_zero, List.set_cons_succ]
        refine wpAnyH_takesJ (i := 27) (v := (.int .i64 lo.2.1)) (some 122) rfl rfl (by kernel_rfl) (by kernel_rfl) (by kernel_rfl) (fun _ _ _ h => h) (Or.inl ⟨by rfl, (by intro W9 hSw; clear hSw; go_simp; first | done | with_reducible rfl)⟩) (by assumption) ?_
        simp only [Act.put, List.setIfInBounds_toArray]; try simp only [List.set_cons_zero, List.set_cons_succ]
        refine wpAnyH_takesJ (i := 29) (v := (.agg #[.slice T7 nt7 ct7, .int .i64 lo.1.size, .slice R7 nr7 cr7, .slice S7 ns7 cs7, .int .u64 (lo.1.on : Nat)])) (some 124) rfl rfl (by kernel_rfl) (by kernel_rfl) (by kernel_rfl) (fun _ _ _ h => h) (Or.inl ⟨by rfl, (by intro W9 hSw; have s0 := (hSw.2).c0; have s1 := (hSw.2).c1; have s2 := (hSw.2).c2; have s3 := (hSw.2).c3; have s4 := (hSw.2).c4; clear hSw; go_simp; first | done | with_reducible rfl)⟩) (by assumption) ?_
        simp only [Act.put, List.setIfInBounds_toArray]; try simp only [List.set_cons_zero, List.set_cons_succ]
        refine wpAnyH_takesJ (i := 32) (v := (.agg #[.slice A1 nt1 ct1, .int .i64 r.size, .slice (some ⟨rb, ro, none⟩) nr1 cr1, .slice (some ⟨sb, so, none⟩) ns1 cs1, .int .u64 (r.on : Nat)])) (some 127) rfl rfl (by kernel_rfl) (by kernel_rfl) (by kernel_rfl) (fun _ _ _ h => h) (Or.inl ⟨by rfl, (by intro W9 hSw; have s0 := (hSw.1).c0; have s1 := (hSw.1).c1; have s2 := (hSw.1).c2; have s3 := (hSw.1).c3; have s4 := (hSw.1).c4; clear hSw; go_simp; first | done | with_reducible rfl)⟩) (by assumption) ?_
        simp only [Act.put, List.setIfInBounds_toArray]; try simp only [List.set_cons_zero, List.set_cons_succ]
        refine wpAnyH_ready (rs := [28, 30]) (by kernel_rfl) (by simp) ?_
        refine AllReadyH.cons rfl (fun K hK => ?_) (AllReadyH.cons rfl (fun K hK => ?_) AllReadyH.nil)
        · skip
          go_simp
          have hbl := below_new x1 (.cells #[.int .i64 lo.2.1] 3)
          have OL := Lib.hid (own_lit x1 [lo.2.1] V8.heap.size hb1.size (by simp))
          have hb2 := hb1.trans (hbl.mono hb1.size)
          obtain ⟨LB, hLB⟩ : ∃ LB, LB = x1.heap.size := ⟨_, rfl⟩
          obtain ⟨x2, hx⟩ : ∃ x2, x2 = x1.alloc (.cells #[.int .i64 lo.2.1] 3) := ⟨_, rfl⟩
          simp only [List.map_cons, List.map_nil, List.length_cons, List.length_nil] at OL
          rw [← hx] at hb2 hbl ⊢
          rw [show (#[Value.int .i64 lo.2.1] : Array Value) = [Value.int .i64 lo.2.1].toArray from rfl] at hx
          rw [← hx, ← hLB] at OL
          try rw [← hLB]
          clear hx hLB hbl
          refine hK.out _ _ (by exact ⟨YX8.out.step hb2, Ya8.out.step hb2⟩) (fun hHeld => ?_)
          clear hK K
          try dsimp only
          refine wpAnyH_ready (rs := [30]) (by kernel_rfl) (by simp) ?_
          refine AllReadyH.cons rfl (fun K hK => ?_) AllReadyH.nil
          go_simp
          go_at_call 23
          refine (AA.out _ (by exact hb2)).mono ?_
          rintro e x3 ⟨Aq, nq, cq, rfl, hrq, _, hbx⟩
          have hb3 := hb2.trans (hbx.mono hb2.size)
          have OL2 := Lib.hid (own_below OL.out hbx)
          have RQ := Lib.hid hrq
          clear hrq OL
          refine hK.out _ _ (by exact ⟨YX8.out.step hb3, Ya8.out.step hb3⟩) (fun hHeld => ?_)
          clear hK K hbx
          try dsimp only
          refine wpAnyH_ready (rs := [31]) (by kernel_rfl) (by simp) ?_
          refine AllReadyH.cons rfl (fun K hK => ?_) AllReadyH.nil
          refine step_append_row_g (.tmp 123) (.tmp 125) rfl (by simp [Region.wanted, yielded]) V8.heap.size _ 1 [lo.2.1] rfl OL2.out Aq nq cq (Jp.all lo.1) rfl RQ.out (by have h7 := RQ.out.len; have h8 := all_le HLA.out; omega) hb3.size ?_
          intro vb x4 hob hgb
          have hb4 := hb3.grown hgb hb3.size (fun q e => (OL2.out.lt q e).1)
          obtain ⟨Ab, cb, rfl, hrb⟩ := Row.of_own hob
          have RB := Lib.hid hrb
          clear hob hgb hrb
          refine hK.out _ _ (by exact ⟨YX8.out.step hb4, Ya8.out.step hb4⟩) (fun hHeld => ?_)
          clear hK K
          try dsimp only
          refine wpAnyH_ready (rs := [33]) (by kernel_rfl) (by simp) ?_
          refine AllReadyH.cons rfl (fun K hK => ?_) AllReadyH.nil
          go_simp
          go_at_call 23
          refine (AX.out _ (by exact hb4)).mono ?_
          rintro e x5 ⟨Az, nz, cz, rfl, hrz, _, hbx⟩
          have hb5 := hb4.trans (hbx.mono hb4.size)
          have BG := Lib.hid (bag_row Ab Az _ nz cb cz _ _ x5 FPM.out (RB.out.below hbx) hrz (by have h7 := hrz.len; have h8 := all_le HLW.out; omega))
          clear hrz
          refine hK.out _ _ (by exact ⟨YX8.out.step hb5, Ya8.out.step hb5⟩) (fun hHeld => ?_)
          clear hK K hbx
          try dsimp only
          refine wpAnyH_ready (rs := [34]) (by kernel_rfl) (by simp) ?_
          refine AllReadyH.cons rfl (fun K hK => ?_) AllReadyH.nil
          go_simp
          go_at_call 22
          refine (BG.out).mono ?_
          rintro e x6 ⟨rfl, hbx⟩
          have hb6 := hb5.trans (hbx.mono hb5.size)
          refine hK.out _ _ (by exact ⟨YX8.out.step hb6, Ya8.out.step hb6⟩) (fun hHeld => ?_)
          clear hK K hbx
          try dsimp only
          refine wpAnyH_takesJ (i := 35) (v := (.bool true)) (some 130) rfl rfl (by kernel_rfl) (by kernel_rfl) (by kernel_rfl) (fun _ _ _ h => h) (Or.inl ⟨by rfl, (by intro W9 hSw; clear hSw; go_simp; first | done | with_reducible rfl)⟩) (by assumption) ?_
          simp only [Act.put, List.setIfInBounds_toArray]; try simp only [List.set_cons_zero, List.set_cons_succ]
          refine wpAnyH_takesJ (i := 36) (v := (.bool true)) (some 6) rfl rfl (by kernel_rfl) (by kernel_rfl) (by kernel_rfl) (fun _ _ _ h => h) (Or.inl ⟨by rfl, (by intro W9 hSw; clear hSw; go_simp; first | done | with_reducible rfl)⟩) (by assumption) ?_
          simp only [Act.put, List.setIfInBounds_toArray]; try simp only [List.set_cons_zero, List.set_cons_succ]
          refine wpAnyH_done (by kernel_rfl) ?_ _
          have BE := Lib.hid (held_trans BW8.out hb6)
          clear hb1 hb2 hb3 hb4 hb5 hb6
          go_wp2_with fail
          go_ret
          exact ⟨rfl, BE.out⟩
        · skip
          go_simp
          go_at_call 23
          refine (AA.out _ (by exact hb1)).mono ?_
          rintro e x2 ⟨Aq, nq, cq, rfl, hrq, _, hbx⟩
          have hb2 := hb1.trans (hbx.mono hb1.size)
          have RQ := Lib.hid hrq
          clear hrq
          refine hK.out _ _ (by exact ⟨YX8.out.step hb2, Ya8.out.step hb2⟩) (fun hHeld => ?_)
          clear hK K hbx
          try dsimp only
          refine wpAnyH_ready (rs := [28]) (by kernel_rfl) (by simp) ?_
          refine AllReadyH.cons rfl (fun K hK => ?_) AllReadyH.nil
          go_simp
          have hbl := below_new x2 (.cells #[.int .i64 lo.2.1] 3)
          have OL := Lib.hid (own_lit x2 [lo.2.1] V8.heap.size hb2.size (by simp))
          have hb3 := hb2.trans (hbl.mono hb2.size)
          obtain ⟨LB, hLB⟩ : ∃ LB, LB = x2.heap.size := ⟨_, rfl⟩
          obtain ⟨x3, hx⟩ : ∃ x3, x3 = x2.alloc (.cells #[.int .i64 lo.2.1] 3) := ⟨_, rfl⟩
          simp only [List.map_cons, List.map_nil, List.length_cons, List.length_nil] at OL
          rw [← hx] at hb3 hbl ⊢
          rw [show (#[Value.int .i64 lo.2.1] : Array Value) = [Value.int .i64 lo.2.1].toArray from rfl] at hx
          rw [← hx, ← hLB] at OL
          try rw [← hLB]
          have RQ2 := Lib.hid (RQ.out.below hbl)
          clear hx hLB hbl
          refine hK.out _ _ (by exact ⟨YX8.out.step hb3, Ya8.out.step hb3⟩) (fun hHeld => ?_)
          clear hK K
          try dsimp only
          refine wpAnyH_ready (rs := [31]) (by kernel_rfl) (by simp) ?_
          refine AllReadyH.cons rfl (fun K hK => ?_) AllReadyH.nil
          refine step_append_row_g (.tmp 123) (.tmp 125) rfl (by simp [Region.wanted, yielded]) V8.heap.size _ 1 [lo.2.1] rfl OL.out Aq nq cq (Jp.all lo.1) rfl RQ2.out (by have h7 := RQ2.out.len; have h8 := all_le HLA.out; omega) hb3.size ?_
          intro vb x4 hob hgb
          have hb4 := hb3.grown hgb hb3.size (fun q e => (OL.out.lt q e).1)
          obtain ⟨Ab, cb, rfl, hrb⟩ := Row.of_own hob
          have RB := Lib.hid hrb
          clear hob hgb hrb
          refine hK.out _ _ (by exact ⟨YX8.out.step hb4, Ya8.out.step hb4⟩) (fun hHeld => ?_)
          clear hK K
          try dsimp only
          refine wpAnyH_ready (rs := [33]) (by kernel_rfl) (by simp) ?_
          refine AllReadyH.cons rfl (fun K hK => ?_) AllReadyH.nil
          go_simp
          go_at_call 23
          refine (AX.out _ (by exact hb4)).mono ?_
          rintro e x5 ⟨Az, nz, cz, rfl, hrz, _, hbx⟩
          have hb5 := hb4.trans (hbx.mono hb4.size)
          have BG := Lib.hid (bag_row Ab Az _ nz cb cz _ _ x5 FPM.out (RB.out.below hbx) hrz (by have h7 := hrz.len; have h8 := all_le HLW.out; omega))
          clear hrz
          refine hK.out _ _ (by exact ⟨YX8.out.step hb5, Ya8.out.step hb5⟩) (fun hHeld => ?_)
          clear hK K hbx
          try dsimp only
          refine wpAnyH_ready (rs := [34]) (by kernel_rfl) (by simp) ?_
          refine AllReadyH.cons rfl (fun K hK => ?_) AllReadyH.nil
          go_simp
          go_at_call 22
          refine (BG.out).mono ?_
          rintro e x6 ⟨rfl, hbx⟩
          have hb6 := hb5.trans (hbx.mono hb5.size)
          refine hK.out _ _ (by exact ⟨YX8.out.step hb6, Ya8.out.step hb6⟩) (fun hHeld => ?_)
          clear hK K hbx
          try dsimp only
          refine wpAnyH_takesJ (i := 35) (v := (.bool true)) (some 130) rfl rfl (by kernel_rfl) (by kernel_rfl) (by kernel_rfl) (fun _ _ _ h => h) (Or.inl ⟨by rfl, (by intro W9 hSw; clear hSw; go_simp; first | done | with_reducible rfl)⟩) (by assumption) ?_
          simp only [Act.put, List.setIfInBounds_toArray]; try simp only [List.set_cons_zero, List.set_cons_succ]
          refine wpAnyH_takesJ (i := 36) (v := (.bool true)) (some 6) rfl rfl (by kernel_rfl) (by kernel_rfl) (by kernel_rfl) (fun _ _ _ h => h) (Or.inl ⟨by rfl, (by intro W9 hSw; clear hSw; go_simp; first | done | with_reducible rfl)⟩) (by assumption) ?_
          simp only [Act.put, List.setIfInBounds_toArray]; try simp only [List.set_cons_zero, List.set_cons_succ]
          refine wpAnyH_done (by kernel_rfl) ?_ _
          have BE := Lib.hid (held_trans BW8.out hb6)
          clear hb1 hb2 hb3 hb4 hb5 hb6
          go_wp2_with fail
          go_ret
          exact ⟨rfl, BE.out⟩
      · skip
        obtain ⟨fk, fwh⟩ := h
        have z1 : ((-1 : Int) == (m : Int)) = false := by rw [beq_eq_false_iff_ne]; omega
        have z2 : (lo.2.2 == 3) = false := by rw [beq_eq_false_iff_ne]; exact fk
        clear fk
        have hcc := runsWhere_any ⟨A1, nt1, ct1, (some ⟨rb, ro, none⟩), nr1, cr1, (some ⟨sb, so, none⟩), ns1, cs1⟩ r lo.2.1 V7 MX7.out HLW.out
        rw [fwh] at hcc
        unfold jv at hcc
        simp only at hcc
        have C8 := Lib.hid hcc
        clear hcc
        have t0 := YX7.out.c0
        have t1 := YX7.out.c1
        have t2 := YX7.out.c2
        have t3 := YX7.out.c3
        have t4 := YX7.out.c4
        go_wp2_with (rw [← E7.out])
        clear E7
        refine C8.out.mono ?_
        rintro e V8 ⟨rfl, hb⟩
        have YX8 := Lib.hid (YX7.out.step hb)
        have MX8 := Lib.hid (MX7.out.below hb)
        have Ya8 := Lib.hid (Ya7.out.step hb)
        have Ma8 := Lib.hid (Ma7.out.below hb)
        have BW8 := Lib.hid (held_trans BW7.out hb)
        clear BW7 YX7 MX7 Ya7 Ma7 
        clear hb C8 t0 t1 t2 t3 t4
        have hcc := fun W (hb : Below V8.heap.size V8 W) => runsMay_any ⟨T7, nt7, ct7, R7, nr7, cr7, S7, ns7, cs7⟩ lo.1 true W (Lib.hid (yes_of FMAY.out)) (Ma8.out.below hb) HLA.out (HTW.out.step (held_trans BW8.out hb))
        unfold jv at hcc
        simp only at hcc
        have MYA := Lib.hid hcc
        clear hcc
        have hcc := fun W (hb : Below V8.heap.size V8 W) => runsAll_any ⟨T7, nt7, ct7, R7, nr7, cr7, S7, ns7, cs7⟩ lo.1 W (Ma8.out.below hb) HLA.out
        unfold jv at hcc
        simp only at hcc
        have AA := Lib.hid hcc
        clear hcc
        have hcc := fun W (hb : Below V8.heap.size V8 W) => runsAll_any ⟨A1, nt1, ct1, (some ⟨rb, ro, none⟩), nr1, cr1, (some ⟨sb, so, none⟩), ns1, cs1⟩ r W (MX8.out.below hb) HLW.out
        unfold jv at hcc
        simp only at hcc
        have AX := Lib.hid hcc
        clear hcc
        go_wp2_with fail
        clear q0
        refine wp_region_held_drew (S := fun w' => B5 w' w3.heap.size (.slice A1 nt1 ct1) (.int .i64 r.size) (.slice (some ⟨rb, ro, none⟩) nr1 cr1) (.slice (some ⟨sb, so, none⟩) ns1 cs1) (.int .u64 (r.on : Nat)) ∧ B5 w' u7.heap.size (.slice T7 nt7 ct7) (.int .i64 lo.1.size) (.slice R7 nr7 cr7) (.slice S7 ns7 cs7) (.int .u64 (lo.1.on : Nat))) (by kernel_rfl) ⟨YX8.out.drew, Ya8.out.drew⟩ (fun hHeld => ?_)
        refine wpAnyH_takesJ (i := 0) (v := (.bool true)) (some 95) rfl rfl (by kernel_rfl) (by kernel_rfl) (by kernel_rfl) (fun _ _ _ h => h) (Or.inl ⟨by rfl, (by intro W9 hSw; clear hSw; go_simp; first | done | with_reducible rfl)⟩) (by assumption) ?_
        simp only [Act.put, List.setIfInBounds_toArray]; try simp only [List.set_cons_zero, List.set_cons_succ]
        refine wpAnyH_takesJ (i := 1) (v := (.bool true)) (some 96) rfl rfl (by kernel_rfl) (by kernel_rfl) (by kernel_rfl) (fun _ _ _ h => h) (Or.inl ⟨by rfl, (by intro W9 hSw; clear hSw; go_simp; first | done | with_reducible rfl)⟩) (by assumption) ?_
        simp only [Act.put, List.setIfInBounds_toArray]; try simp only [List.set_cons_zero, List.set_cons_succ]
        refine wpAnyH_takesJ (i := 2) (v := (.bool true)) (some 97) rfl rfl (by kernel_rfl) (by kernel_rfl) (by kernel_rfl) (fun _ _ _ h => h) (Or.inl ⟨by rfl, (by intro W9 hSw; clear hSw; go_simp; first | done | with_reducible rfl)⟩) (by assumption) ?_
        simp only [Act.put, List.setIfInBounds_toArray]; try simp only [List.set_cons_zero, List.set_cons_succ]
        refine wpAnyH_takesJ (i := 3) (v := (.bool true)) (some 98) rfl rfl (by kernel_rfl) (by kernel_rfl) (by kernel_rfl) (fun _ _ _ h => h) (Or.inl ⟨by rfl, (by intro W9 hSw; clear hSw; go_simp; first | done | with_reducible rfl)⟩) (by assumption) ?_
        simp only [Act.put, List.setIfInBounds_toArray]; try simp only [List.set_cons_zero, List.set_cons_succ]
        refine wpAnyH_takesJ (i := 4) (v := (.bool true)) (some 99) rfl rfl (by kernel_rfl) (by kernel_rfl) (by kernel_rfl) (fun _ _ _ h => h) (Or.inl ⟨by rfl, (by intro W9 hSw; clear hSw; go_simp; first | done | with_reducible rfl)⟩) (by assumption) ?_
        simp only [Act.put, List.setIfInBounds_toArray]; try simp only [List.set_cons_zero, List.set_cons_succ]
        refine wpAnyH_takesJ (i := 5) (v := (.int .i64 (k : Nat))) (some 100) rfl rfl (by kernel_rfl) (by kernel_rfl) (by kernel_rfl) (fun _ _ _ h => h) (Or.inl ⟨by rfl, (by intro W9 hSw; clear hSw; go_simp; first | done | with_reducible rfl)⟩) (by assumption) ?_
        simp only [Act.put, List.setIfInBounds_toArray]; try simp only [List.set_cons_zero, List.set_cons_succ]
        refine wpAnyH_takesJ (i := 6) (v := (.int .i64 (k : Nat))) (some 101) rfl rfl (by kernel_rfl) (by kernel_rfl) (by kernel_rfl) (fun _ _ _ h => h) (Or.inl ⟨by rfl, (by intro W9 hSw; clear hSw; go_simp; first | done | with_reducible rfl)⟩) (by assumption) ?_
        simp only [Act.put, List.setIfInBounds_toArray]; try simp only [List.set_cons_zero, List.set_cons_succ]
        refine wpAnyH_takesJ (i := 7) (v := (.bool true)) (some 102) rfl rfl (by kernel_rfl) (by kernel_rfl) (by kernel_rfl) (fun _ _ _ h => h) (Or.inl ⟨by rfl, (by intro W9 hSw; clear hSw; go_simp; first | done | with_reducible rfl)⟩) (by assumption) ?_
        simp only [Act.put, List.setIfInBounds_toArray]; try simp only [List.set_cons_zero, List.set_cons_succ]
        refine wpAnyH_takesJ (i := 8) (v := (.bool true)) (some 103) rfl rfl (by kernel_rfl) (by kernel_rfl) (by kernel_rfl) (fun _ _ _ h => h) (Or.inl ⟨by rfl, (by intro W9 hSw; clear hSw; go_simp; first | done | with_reducible rfl)⟩) (by assumption) ?_
        simp only [Act.put, List.setIfInBounds_toArray]; try simp only [List.set_cons_zero, List.set_cons_succ]
        refine wpAnyH_takesJ (i := 9) (v := undef) (some 104) rfl rfl (by kernel_rfl) (by kernel_rfl) (by kernel_rfl) (fun _ _ _ h => h) (Or.inr ⟨by rfl, rfl⟩) (by assumption) ?_
        simp only [Act.put, List.setIfInBounds_toArray]; try simp only [List.set_cons_zero, List.set_cons_succ]
        refine wpAnyH_takesJ (i := 10) (v := undef) (some 105) rfl rfl (by kernel_rfl) (by kernel_rfl) (by kernel_rfl) (fun _ _ _ h => h) (Or.inr ⟨by rfl, rfl⟩) (by assumption) ?_
        simp only [Act.put, List.setIfInBounds_toArray]; try simp only [List.set_cons_zero, List.set_cons_succ]
        refine wpAnyH_takesJ (i := 11) (v := undef) (some 106) rfl rfl (by kernel_rfl) (by kernel_rfl) (by kernel_rfl) (fun _ _ _ h => h) (Or.inr ⟨by rfl, rfl⟩) (by assumption) ?_
        simp only [Act.put, List.setIfInBounds_toArray]; try simp only [List.set_cons_zero, List.set_cons_succ]
        refine wpAnyH_takesJ (i := 12) (v := (.bool true)) (some 107) rfl rfl (by kernel_rfl) (by kernel_rfl) (by kernel_rfl) (fun _ _ _ h => h) (Or.inl ⟨by rfl, (by intro W9 hSw; clear hSw; go_simp; first | done | with_reducible rfl)⟩) (by assumption) ?_
        simp only [Act.put, List.setIfInBounds_toArray]; try simp only [List.set_cons_zero, List.set_cons_succ]
        refine wpAnyH_takesJ (i := 13) (v := (.bool true)) (some 108) rfl rfl (by kernel_rfl) (by kernel_rfl) (by kernel_rfl) (fun _ _ _ h => h) (Or.inl ⟨by rfl, (by intro W9 hSw; clear hSw; go_simp; first | done | with_reducible rfl)⟩) (by assumption) ?_
        simp only [Act.put, List.setIfInBounds_toArray]; try simp only [List.set_cons_zero, List.set_cons_succ]
        refine wpAnyH_takesJ (i := 14) (v := (.bool true)) (some 109) rfl rfl (by kernel_rfl) (by kernel_rfl) (by kernel_rfl) (fun _ _ _ h => h) (Or.inl ⟨by rfl, (by intro W9 hSw; clear hSw; go_simp; first | done | with_reducible rfl)⟩) (by assumption) ?_
        simp only [Act.put, List.setIfInBounds_toArray]; try simp only [List.set_cons_zero, List.set_cons_succ]
        refine wpAnyH_takesJ (i := 15) (v := (.int .i64 lo.2.2)) (some 110) rfl rfl (by kernel_rfl) (by kernel_rfl) (by kernel_rfl) (fun _ _ _ h => h) (Or.inl ⟨by rfl, (by intro W9 hSw; clear hSw; go_simp; first | done | with_reducible rfl)⟩) (by assumption) ?_
        simp only [Act.put, List.setIfInBounds_toArray]; try simp only [List.set_cons_zero, List.set_cons_succ]
        refine wpAnyH_takesJ (i := 16) (v := (.bool false)) (some 111) rfl rfl (by kernel_rfl) (by kernel_rfl) (by kernel_rfl) (fun _ _ _ h => h) (Or.inl ⟨by rfl, (by intro W9 hSw; clear hSw; go_simp; first | done | with_reducible rfl)⟩) (by assumption) ?_
        simp only [Act.put, List.setIfInBounds_toArray]; try simp only [List.set_cons_zero, List.set_cons_succ]
        refine wpAnyH_takesJ (i := 17) (v := (.int .i64 (-1))) (some 112) rfl rfl (by kernel_rfl) (by kernel_rfl) (by kernel_rfl) (fun _ _ _ h => h) (Or.inl ⟨by rfl, (by intro W9 hSw; clear hSw; go_simp; first | done | with_reducible rfl)⟩) (by assumption) ?_
        simp only [Act.put, List.setIfInBounds_toArray]; try simp only [List.set_cons_zero, List.set_cons_succ]
        refine wpAnyH_takesJ (i := 18) (v := (.int .i64 (m : Nat))) (some 113) rfl rfl (by kernel_rfl) (by kernel_rfl) (by kernel_rfl) (fun _ _ _ h => h) (Or.inl ⟨by rfl, (by intro W9 hSw; clear hSw; go_simp; first | done | with_reducible rfl)⟩) (by assumption) ?_
        simp only [Act.put, List.setIfInBounds_toArray]; try simp only [List.set_cons_zero, List.set_cons_succ]
        refine wpAnyH_takesJ (i := 19) (v := (.bool false)) (some 114) rfl rfl (by kernel_rfl) (by kernel_rfl) (by kernel_rfl) (fun _ _ _ h => h) (Or.inl ⟨by rfl, (by intro W9 hSw; clear hSw; go_simp; first | done | with_reducible rfl)⟩) (by assumption) ?_
        simp only [Act.put, List.setIfInBounds_toArray]; try simp only [List.set_cons_zero, List.set_cons_succ]
        refine wpAnyH_takesJ (i := 20) (v := (.bool true)) (some 115) rfl rfl (by kernel_rfl) (by kernel_rfl) (by kernel_rfl) (fun _ _ _ h => h) (Or.inl ⟨by rfl, (by intro W9 hSw; clear hSw; go_simp; first | done | with_reducible rfl)⟩) (by assumption) ?_
        simp only [Act.put, List.setIfInBounds_toArray]; try simp only [List.set_cons_zero, List.set_cons_succ]
        refine wpAnyH_takesJ (i := 21) (v := (.bool true)) (some 116) rfl rfl (by kernel_rfl) (by kernel_rfl) (by kernel_rfl) (fun _ _ _ h => h) (Or.inl ⟨by rfl, (by intro W9 hSw; clear hSw; go_simp; first | done | with_reducible rfl)⟩) (by assumption) ?_
        simp only [Act.put, List.setIfInBounds_toArray]; try simp only [List.set_cons_zero, List.set_cons_succ]
        refine wpAnyH_takesJ (i := 22) (v := (.bool true)) (some 117) rfl rfl (by kernel_rfl) (by kernel_rfl) (by kernel_rfl) (fun _ _ _ h => h) (Or.inl ⟨by rfl, (by intro W9 hSw; clear hSw; go_simp; first | done | with_reducible rfl)⟩) (by assumption) ?_
        simp only [Act.put, List.setIfInBounds_toArray]; try simp only [List.set_cons_zero, List.set_cons_succ]
        refine wpAnyH_takesJ (i := 23) (v := (.agg #[.slice T7 nt7 ct7, .int .i64 lo.1.size, .slice R7 nr7 cr7, .slice S7 ns7 cs7, .int .u64 (lo.1.on : Nat)])) (some 118) rfl rfl (by kernel_rfl) (by kernel_rfl) (by kernel_rfl) (fun _ _ _ h => h) (Or.inl ⟨by rfl, (by intro W9 hSw; have s0 := (hSw.2).c0; have s1 := (hSw.2).c1; have s2 := (hSw.2).c2; have s3 := (hSw.2).c3; have s4 := (hSw.2).c4; clear hSw; go_simp; first | done | with_reducible rfl)⟩) (by assumption) ?_
        simp only [Act.put, List.setIfInBounds_toArray]; try simp only [List.set_cons_zero, List.set_cons_succ]
        refine wpAnyH_ready (rs := [24]) (by kernel_rfl) (by simp) ?_
        refine AllReadyH.cons rfl (fun K hK => ?_) AllReadyH.nil
        go_simp
        go_at_call 21
        refine (MYA.out _ (by exact (Below.refl _ _).drew)).mono ?_
        rintro e x1 ⟨rfl, hbx⟩
        have hb1 := (Below.refl V8.heap.size V8).drew.trans (hbx.mono (by simp))
        refine hK.out _ _ (by exact ⟨YX8.out.step hb1, Ya8.out.step hb1⟩) (fun hHeld => ?_)
        clear hK K hbx
        try dsimp only
        refine wpAnyH_takesJ (i := 25) (v := (.bool true)) (some 120) rfl rfl (by kernel_rfl) (by kernel_rfl) (by kernel_rfl) (fun _ _ _ h => h) (Or.inl ⟨by rfl, (by intro W9 hSw; clear hSw; go_simp; first | done | with_reducible rfl)⟩) (by assumption) ?_
        simp only [Act.put, List.setIfInBounds_toArray]; try simp only [List.set_cons_zero, List.set_cons_succ]
        refine wpAnyH_takesJ (i := 26) (v := (.bool true)) (some 121) rfl rfl (by kernel_rfl) (by kernel_rfl) (by kernel_rfl) (fun _ _ _ h => h) (Or.inl ⟨by rfl, (by intro W9 hSw; clear hSw; go_simp; first | done | with_reducible rfl)⟩) (by assumption) ?_
        simp only [Act.put, List.setIfInBounds_toArray]; try simp only [List.set_cons_zero, List.set_cons_succ]
        refine wpAnyH_takesJ (i := 27) (v := (.int .i64 lo.2.1)) (some 122) rfl rfl (by kernel_rfl) (by kernel_rfl) (by kernel_rfl) (fun _ _ _ h => h) (Or.inl ⟨by rfl, (by intro W9 hSw; clear hSw; go_simp; first | done | with_reducible rfl)⟩) (by assumption) ?_
        simp only [Act.put, List.setIfInBounds_toArray]; try simp only [List.set_cons_zero, List.set_cons_succ]
        refine wpAnyH_takesJ (i := 29) (v := (.agg #[.slice T7 nt7 ct7, .int .i64 lo.1.size, .slice R7 nr7 cr7, .slice S7 ns7 cs7, .int .u64 (lo.1.on : Nat)])) (some 124) rfl rfl (by kernel_rfl) (by kernel_rfl) (by kernel_rfl) (fun _ _ _ h => h) (Or.inl ⟨by rfl, (by intro W9 hSw; have s0 := (hSw.2).c0; have s1 := (hSw.2).c1; have s2 := (hSw.2).c2; have s3 := (hSw.2).c3; have s4 := (hSw.2).c4; clear hSw; go_simp; first | done | with_reducible rfl)⟩) (by assumption) ?_
        simp only [Act.put, List.setIfInBounds_toArray]; try simp only [List.set_cons_zero, List.set_cons_succ]
        refine wpAnyH_takesJ (i := 32) (v := (.agg #[.slice A1 nt1 ct1, .int .i64 r.size, .slice (some ⟨rb, ro, none⟩) nr1 cr1, .slice (some ⟨sb, so, none⟩) ns1 cs1, .int .u64 (r.on : Nat)])) (some 127) rfl rfl (by kernel_rfl) (by kernel_rfl) (by kernel_rfl) (fun _ _ _ h => h) (Or.inl ⟨by rfl, (by intro W9 hSw; have s0 := (hSw.1).c0; have s1 := (hSw.1).c1; have s2 := (hSw.1).c2; have s3 := (hSw.1).c3; have s4 := (hSw.1).c4; clear hSw; go_simp; first | done | with_reducible rfl)⟩) (by assumption) ?_
        simp only [Act.put, List.setIfInBounds_toArray]; try simp only [List.set_cons_zero, List.set_cons_succ]
        refine wpAnyH_ready (rs := [28, 30]) (by kernel_rfl) (by simp) ?_
        refine AllReadyH.cons rfl (fun K hK => ?_) (AllReadyH.cons rfl (fun K hK => ?_) AllReadyH.nil)
        · skip
          go_simp
          have hbl := below_new x1 (.cells #[.int .i64 lo.2.1] 3)
          have OL := Lib.hid (own_lit x1 [lo.2.1] V8.heap.size hb1.size (by simp))
          have hb2 := hb1.trans (hbl.mono hb1.size)
          obtain ⟨LB, hLB⟩ : ∃ LB, LB = x1.heap.size := ⟨_, rfl⟩
          obtain ⟨x2, hx⟩ : ∃ x2, x2 = x1.alloc (.cells #[.int .i64 lo.2.1] 3) := ⟨_, rfl⟩
          simp only [List.map_cons, List.map_nil, List.length_cons, List.length_nil] at OL
          rw [← hx] at hb2 hbl ⊢
          rw [show (#[Value.int .i64 lo.2.1] : Array Value) = [Value.int .i64 lo.2.1].toArray from rfl] at hx
          rw [← hx, ← hLB] at OL
          try rw [← hLB]
          clear hx hLB hbl
          refine hK.out _ _ (by exact ⟨YX8.out.step hb2, Ya8.out.step hb2⟩) (fun hHeld => ?_)
          clear hK K
          try dsimp only
          refine wpAnyH_ready (rs := [30]) (by kernel_rfl) (by simp) ?_
          refine AllReadyH.cons rfl (fun K hK => ?_) AllReadyH.nil
          go_simp
          go_at_call 23
          refine (AA.out _ (by exact hb2)).mono ?_
          rintro e x3 ⟨Aq, nq, cq, rfl, hrq, _, hbx⟩
          have hb3 := hb2.trans (hbx.mono hb2.size)
          have OL2 := Lib.hid (own_below OL.out hbx)
          have RQ := Lib.hid hrq
          clear hrq OL
          refine hK.out _ _ (by exact ⟨YX8.out.step hb3, Ya8.out.step hb3⟩) (fun hHeld => ?_)
          clear hK K hbx
          try dsimp only
          refine wpAnyH_ready (rs := [31]) (by kernel_rfl) (by simp) ?_
          refine AllReadyH.cons rfl (fun K hK => ?_) AllReadyH.nil
          refine step_append_row_g (.tmp 123) (.tmp 125) rfl (by simp [Region.wanted, yielded]) V8.heap.size _ 1 [lo.2.1] rfl OL2.out Aq nq cq (Jp.all lo.1) rfl RQ.out (by have h7 := RQ.out.len; have h8 := all_le HLA.out; omega) hb3.size ?_
          intro vb x4 hob hgb
          have hb4 := hb3.grown hgb hb3.size (fun q e => (OL2.out.lt q e).1)
          obtain ⟨Ab, cb, rfl, hrb⟩ := Row.of_own hob
          have RB := Lib.hid hrb
          clear hob hgb hrb
          refine hK.out _ _ (by exact ⟨YX8.out.step hb4, Ya8.out.step hb4⟩) (fun hHeld => ?_)
          clear hK K
          try dsimp only
          refine wpAnyH_ready (rs := [33]) (by kernel_rfl) (by simp) ?_
          refine AllReadyH.cons rfl (fun K hK => ?_) AllReadyH.nil
          go_simp
          go_at_call 23
          refine (AX.out _ (by exact hb4)).mono ?_
          rintro e x5 ⟨Az, nz, cz, rfl, hrz, _, hbx⟩
          have hb5 := hb4.trans (hbx.mono hb4.size)
          have BG := Lib.hid (bag_row Ab Az _ nz cb cz _ _ x5 FPM.out (RB.out.below hbx) hrz (by have h7 := hrz.len; have h8 := all_le HLW.out; omega))
          clear hrz
          refine hK.out _ _ (by exact ⟨YX8.out.step hb5, Ya8.out.step hb5⟩) (fun hHeld => ?_)
          clear hK K hbx
          try dsimp only
          refine wpAnyH_ready (rs := [34]) (by kernel_rfl) (by simp) ?_
          refine AllReadyH.cons rfl (fun K hK => ?_) AllReadyH.nil
          go_simp
          go_at_call 22
          refine (BG.out).mono ?_
          rintro e x6 ⟨rfl, hbx⟩
          have hb6 := hb5.trans (hbx.mono hb5.size)
          refine hK.out _ _ (by exact ⟨YX8.out.step hb6, Ya8.out.step hb6⟩) (fun hHeld => ?_)
          clear hK K hbx
          try dsimp only
          refine wpAnyH_takesJ (i := 35) (v := (.bool true)) (some 130) rfl rfl (by kernel_rfl) (by kernel_rfl) (by kernel_rfl) (fun _ _ _ h => h) (Or.inl ⟨by rfl, (by intro W9 hSw; clear hSw; go_simp; first | done | with_reducible rfl)⟩) (by assumption) ?_
          simp only [Act.put, List.setIfInBounds_toArray]; try simp only [List.set_cons_zero, List.set_cons_succ]
          refine wpAnyH_takesJ (i := 36) (v := (.bool true)) (some 6) rfl rfl (by kernel_rfl) (by kernel_rfl) (by kernel_rfl) (fun _ _ _ h => h) (Or.inl ⟨by rfl, (by intro W9 hSw; clear hSw; go_simp; first | done | with_reducible rfl)⟩) (by assumption) ?_
          simp only [Act.put, List.setIfInBounds_toArray]; try simp only [List.set_cons_zero, List.set_cons_succ]
          refine wpAnyH_done (by kernel_rfl) ?_ _
          have BE := Lib.hid (held_trans BW8.out hb6)
          clear hb1 hb2 hb3 hb4 hb5 hb6
          go_wp2_with fail
          go_ret
          exact ⟨rfl, BE.out⟩
        · skip
          go_simp
          go_at_call 23
          refine (AA.out _ (by exact hb1)).mono ?_
          rintro e x2 ⟨Aq, nq, cq, rfl, hrq, _, hbx⟩
          have hb2 := hb1.trans (hbx.mono hb1.size)
          have RQ := Lib.hid hrq
          clear hrq
          refine hK.out _ _ (by exact ⟨YX8.out.step hb2, Ya8.out.step hb2⟩) (fun hHeld => ?_)
          clear hK K hbx
          try dsimp only
          refine wpAnyH_ready (rs := [28]) (by kernel_rfl) (by simp) ?_
          refine AllReadyH.cons rfl (fun K hK => ?_) AllReadyH.nil
          go_simp
          have hbl := below_new x2 (.cells #[.int .i64 lo.2.1] 3)
          have OL := Lib.hid (own_lit x2 [lo.2.1] V8.heap.size hb2.size (by simp))
          have hb3 := hb2.trans (hbl.mono hb2.size)
          obtain ⟨LB, hLB⟩ : ∃ LB, LB = x2.heap.size := ⟨_, rfl⟩
          obtain ⟨x3, hx⟩ : ∃ x3, x3 = x2.alloc (.cells #[.int .i64 lo.2.1] 3) := ⟨_, rfl⟩
          simp only [List.map_cons, List.map_nil, List.length_cons, List.length_nil] at OL
          rw [← hx] at hb3 hbl ⊢
          rw [show (#[Value.int .i64 lo.2.1] : Array Value) = [Value.int .i64 lo.2.1].toArray from rfl] at hx
          rw [← hx, ← hLB] at OL
          try rw [← hLB]
          have RQ2 := Lib.hid (RQ.out.below hbl)
          clear hx hLB hbl
          refine hK.out _ _ (by exact ⟨YX8.out.step hb3, Ya8.out.step hb3⟩) (fun hHeld => ?_)
          clear hK K
          try dsimp only
          refine wpAnyH_ready (rs := [31]) (by kernel_rfl) (by simp) ?_
          refine AllReadyH.cons rfl (fun K hK => ?_) AllReadyH.nil
          refine step_append_row_g (.tmp 123) (.tmp 125) rfl (by simp [Region.wanted, yielded]) V8.heap.size _ 1 [lo.2.1] rfl OL.out Aq nq cq (Jp.all lo.1) rfl RQ2.out (by have h7 := RQ2.out.len; have h8 := all_le HLA.out; omega) hb3.size ?_
          intro vb x4 hob hgb
          have hb4 := hb3.grown hgb hb3.size (fun q e => (OL.out.lt q e).1)
          obtain ⟨Ab, cb, rfl, hrb⟩ := Row.of_own hob
          have RB := Lib.hid hrb
          clear hob hgb hrb
          refine hK.out _ _ (by exact ⟨YX8.out.step hb4, Ya8.out.step hb4⟩) (fun hHeld => ?_)
          clear hK K
          try dsimp only
          refine wpAnyH_ready (rs := [33]) (by kernel_rfl) (by simp) ?_
          refine AllReadyH.cons rfl (fun K hK => ?_) AllReadyH.nil
          go_simp
          go_at_call 23
          refine (AX.out _ (by exact hb4)).mono ?_
          rintro e x5 ⟨Az, nz, cz, rfl, hrz, _, hbx⟩
          have hb5 := hb4.trans (hbx.mono hb4.size)
          have BG := Lib.hid (bag_row Ab Az _ nz cb cz _ _ x5 FPM.out (RB.out.below hbx) hrz (by have h7 := hrz.len; have h8 := all_le HLW.out; omega))
          clear hrz
          refine hK.out _ _ (by exact ⟨YX8.out.step hb5, Ya8.out.step hb5⟩) (fun hHeld => ?_)
          clear hK K hbx
          try dsimp only
          refine wpAnyH_ready (rs := [34]) (by kernel_rfl) (by simp) ?_
          refine AllReadyH.cons rfl (fun K hK => ?_) AllReadyH.nil
          go_simp
          go_at_call 22
          refine (BG.out).mono ?_
          rintro e x6 ⟨rfl, hbx⟩
          have hb6 := hb5.trans (hbx.mono hb5.size)
          refine hK.out _ _ (by exact ⟨YX8.out.step hb6, Ya8.out.step hb6⟩) (fun hHeld => ?_)
          clear hK K hbx
          try dsimp only
          refine wpAnyH_takesJ (i := 35) (v := (.bool true)) (some 130) rfl rfl (by kernel_rfl) (by kernel_rfl) (by kernel_rfl) (fun _ _ _ h => h) (Or.inl ⟨by rfl, (by intro W9 hSw; clear hSw; go_simp; first | done | with_reducible rfl)⟩) (by assumption) ?_
          simp only [Act.put, List.setIfInBounds_toArray]; try simp only [List.set_cons_zero, List.set_cons_succ]
          refine wpAnyH_takesJ (i := 36) (v := (.bool true)) (some 6) rfl rfl (by kernel_rfl) (by kernel_rfl) (by kernel_rfl) (fun _ _ _ h => h) (Or.inl ⟨by rfl, (by intro W9 hSw; clear hSw; go_simp; first | done | with_reducible rfl)⟩) (by assumption) ?_
          simp only [Act.put, List.setIfInBounds_toArray]; try simp only [List.set_cons_zero, List.set_cons_succ]
          refine wpAnyH_done (by kernel_rfl) ?_ _
          have BE := Lib.hid (held_trans BW8.out hb6)
          clear hb1 hb2 hb3 hb4 hb5 hb6
          go_wp2_with fail
          go_ret
          exact ⟨rfl, BE.out⟩
set_option maxRecDepth 100000 in
theorem lifted (os : Os) (started : os.Started) (H : Type) (enc : TypeId × Value → H) :
    ReturnsInHanded {} Tryd.checked os 4 .any (fun w args => (Rows.findSomeSpec.pre enc Tryd.prog Tryd.f4 [] false w args ∧ laidMetH Tryd.prog laidList w) ∧ sizedMet enc Tryd.prog Tryd.f4 (OpenSpec.ofChange Rows.findSomeSpec) false w args)
      (Rows.findSomeSpec.post enc Tryd.prog Tryd.f4 false true false false) := by
  refine returnsInHanded_of_change_and (C := Tryd.checked) (X := fun w _ => laidMetH Tryd.prog laidList w) (fun _ _ _ hh h => h.of_heap hh) own started (by kernel_rfl) Tryd.func4
    (ChangeSpec.witness_shaped (enc := enc) (C := Tryd.checked) (os := os) (X := fun w _ => laidMetH Tryd.prog laidList w) false (World.doorLaid Tryd.prog 14 os) #[.agg #[.slice none 0 0, .int .i64 0, .slice none 0 0, .slice none 0 0, .int .u64 0], .int .i64 0, .int .i64 0] 8 rfl (World.shaped_of_RefB (by kernel_rfl) (by kernel_rfl)) (by kernel_rfl) (by kernel_rfl) (by kernel_rfl) (door_met os _)) ?_
  intro W base args ds gs before hval0 hW _ _ hL _
  have hval : ∀ (j : Nat) t v, Tryd.f4.params[j]? = some t → args[j]? = some v → Value.okWide Tryd.prog W .any base t v := hval0
  have hW' := hW
  obtain ⟨p, q, hA0, hV, rfl, hfz, hnd⟩ := hW
  have hA : DataW.TrodAll enc Tryd.prog W 0 (fun _ => true) true Tryd.f4.params.toList args.toList ds p := hA0
  rw [Tryd.params4] at hA hval
  obtain ⟨v0, vs0, d0, ds0, p0, q0, hargs, rfl, rfl, h0, r0⟩ := trodAll_cons hA
  obtain ⟨v1, vs1, d1, ds1, p1, q1, rfl, rfl, rfl, h1, r1⟩ := trodAll_cons r0
  obtain ⟨v2, vs2, d2, ds2, p2, q2, rfl, rfl, rfl, h2, r2⟩ := trodAll_cons r1
  obtain ⟨rfl, rfl, rfl⟩ := trodAll_nil r2
  obtain rfl : args = #[v0, v1, v2] := by cases args; simp_all
  obtain ⟨rfl, rfl⟩ := trodVars_none hV
  have k0 := h0
  have lt0 : ∀ x ∈ p0, x.block < W.heap.size := by obtain ⟨m, hm⟩ := k0; exact DataW.trod_lt m _ _ _ hm
  obtain ⟨x0, y0, rfl, hr0⟩ := open_runs (hval 0 27 v0 rfl rfl) h0
  obtain ⟨a1, rfl, rfl, rfl, w1⟩ := open_int Tryd.underlying3 (hval 1 3 v1 rfl rfl) h1
  obtain ⟨a2, rfl, rfl, rfl, w2⟩ := open_int Tryd.underlying3 (hval 2 3 v2 rfl rfl) h2
  clear hA0 hval0
  refine (walk x0 y0 a1 a2 W hr0 (in64_of_wf w1) (in64_of_wf w2) (tab_of_laid hL)).mono fun e W' ⟨he, bel⟩ => ?_
  subst he
  exact ⟨_, rfl, _, _, _, [], _, [], hW', trodAll_mk1 (shut_bool Tryd.underlying4 _), (trodAll_cons_mk (Below.trod laidOut (by kernel_rfl) (of_decide_eq_true (by kernel_rfl)) k0 bel lt0) (trodAll_cons_mk (shut_int Tryd.underlying3 w1) (trodAll_cons_mk (shut_int Tryd.underlying3 w2) trodAll_mk0))), rfl, bel.frame _, fun h => by cases h⟩
theorem over : Rows.FindSomeSaid :=
  OpenClaim.holds_of_wide 4 Tryd.f4 rfl rfl rfl rfl rfl rfl rfl ⟨rfl, rfl, rfl, rfl, rfl⟩ rfl rfl rfl rfl rfl (by kernel_rfl) Tryd.func4 (by kernel_rfl)
    (of_decide_eq_true (by kernel_rfl)) (by unfold Func.isWrapper; first | (rw [if_pos (by decide +kernel)]; kernel_rfl) | (rw [if_neg (by decide +kernel)]; exact ⟨rfl, rfl⟩))
    (fun os started H enc _ => lifted os started H enc)
theorem proved : Rows.FindSomeCardSaid :=
  Claim7.holds_tied_plain_at .later [] [.data] true Rows.findSomeCard.stood.harness false
    over (fun _ h => by cases h) (by kernel_rfl) (fun _ h => by cases h) findSome_row_tie rfl ⟨rfl, rfl⟩ (by kernel_rfl) rfl
    (fun f fn hf hfn => by
      obtain rfl : f = 4 := Option.some.inj ((show Tryd.prog.funcNamed "catafalque/catafalquelaw16.FindSome" = some 4 by kernel_rfl).symm.trans hf) |>.symm
      obtain rfl : fn = Tryd.f4 := (Option.some.inj (Tryd.func4.symm.trans hfn)).symm
      exact ⟨by kernel_rfl, fun j t ht => by
        rw [Tryd.params4] at ht
        have hm : t ∈ [27, 3, 3] := by simpa using Array.mem_of_getElem? ht
        have hall : ([27, 3, 3].all fun u => !Tryd.prog.wantsStandIn u) = true := by kernel_rfl
        exact (show Tryd.prog.wantsStandIn t = false by simpa using List.all_eq_true.1 hall t hm)⟩)
    (by kernel_rfl)
end Go.Proofs.YtinmmcikhjacoaaDoor.findSome

