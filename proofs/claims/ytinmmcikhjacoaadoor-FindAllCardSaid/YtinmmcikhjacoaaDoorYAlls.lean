/- FindAll: found again and again until there is nobody, all of the ring and the row are told, each once; at ticks that are nobody's turn the ring's first, in turn: the call answers true and changes nothing that was there; for every input. (Written by wip/gen/gen_ylaws.py: change that.) -/
import Derived.Test.YtinmmcikhjacoaaDoorYShown
import Derived.Test.YtinmmcikhjacoaaDoorM9
import Derived.Test.YtinmmcikhjacoaaDoorJReal
import Derived.Test.YtinmmcikhjacoaaDoorJMade
import Derived.Test.YtinmmcikhjacoaaDoorJFew
import Derived.Test.YtinmmcikhjacoaaDoorM7
import Derived.Test.YtinmmcikhjacoaaDoorM3
import Derived.Test.YtinmmcikhjacoaaDoorM1
namespace Go.Proofs.YtinmmcikhjacoaaDoor.findAll
open Go.ChangeShapes Go.WideShapes Go.ChangeAt Go.RowKit
set_option linter.unusedVariables false

theorem ints_row (A B : Option Addr) (n m c d : Nat) (zs ys : List Int) (w : World) (he : zs = ys) (h : Row w A n c zs) (hb : Row w B m d ys) :
    Calls Tryd.prog 24 #[.slice A n c, .slice B m d] w fun e w' => e = .returned (.bool true) ∧ Below w.heap.size w w' := by
  subst he
  obtain rfl : n = m := h.len.symm.trans hb.len
  exact ints_same A B n c d zs w (Lib.hid h.len) (by have := h.cap; have := h.most; omega) h.row hb.row
theorem step_append_row_g {w : World} {ops : Array Oper} {o : Oper} {a : Act} {K : Act → World → Prop} {Q : Exit → Act → World → Prop} {E : Prop} (s x : Operand)
    (ho : o.op = .call { callee := .builtin .append, args := #[s, x], argTypes := #[45, 45] })
    (hw : Region.wanted o (yielded ops a.tmps) = true)
    (base : Nat) (v : Value) (n : Nat) (xs : List Int) (hs : a.eval s = v) (hown : w.ownsRow base 3 1 v n (xs.map (Value.int .i64)))
    (A : Option Addr) (m c : Nat) (zs : List Int) (hx : a.eval x = .slice A m c) (h : Row w A m c zs) (hb : n + m ≤ 1000000) (hbase : base ≤ w.heap.size)
    (hK : ∀ v' w', w'.ownsRow base 3 1 v' (n + m) ((xs ++ zs).map (Value.int .i64)) → w.grownBy w' v.ownBlock → K (a.put o.dst v') w') :
    if Region.wanted o (yielded ops a.tmps) = true then Oper.wp Tryd.prog o a w K Q else E := by
  obtain ⟨v', w', hr, h2, h3⟩ := run_append_row w o.type base v n xs hown A m c zs h hb hbase
  rw [if_pos hw]
  unfold Oper.wp
  simp [execOp, ho, resolve, invoke, builtin, hs, hx, hr, Result.andThen]
  exact hK v' w' h2 h3
set_option maxRecDepth 100000 in
set_option maxHeartbeats 4000000 in
theorem walk (d : Ad) (r : Jp.Rn) (p tick : Int) (w : World) (h : RMI (fun b => b < w.heap.size) w d r) (hp : In64 p) (ht : In64 tick) (hT : Tab w) :
    Calls Tryd.prog 5 #[jv d r, .int .i64 p, .int .i64 tick] w fun e w' => e = .returned (.bool true) ∧ Below w.heap.size w w' := by
  have HIN := Lib.hid h.2
  have HR := Lib.hid h.1
  have HTW := Lib.hid hT
  obtain ⟨A0, nt, ct, R, nr, cr, S, ns, cs⟩ := d
  obtain ⟨V, hV, hX, hB⟩ := B5.start w (.slice A0 nt ct) (.int .i64 r.size) (.slice R nr cr) (.slice S ns cs) (.int .u64 (r.on : Nat)) 27
  have E := Lib.hid hV
  have X0 := Lib.hid hX
  have B0 := Lib.hid hB
  have SH := Lib.hid (yshown_any V (hT.step hB))
  clear h hT hV hX hB
  unfold jv
  go_enter Tryd.func5, Tryd.ntmps5
  go_wp2_with (rw [← E.out])
  clear E
  refine SH.out.mono ?_
  rintro e w1 ⟨rfl, hb1⟩
  have X1 := Lib.hid (X0.out.step hb1)
  have B1 := Lib.hid (held_trans B0.out hb1)
  have p0 := X1.out.c0
  have p1 := X1.out.c1
  have p2 := X1.out.c2
  have p3 := X1.out.c3
  have p4 := X1.out.c4
  have hFW := fun T HT => few_any ⟨A0, nt, ct, R, nr, cr, S, ns, cs⟩ r T w1 HT (HR.out.below B1.out) HIN.out
  unfold jv at hFW
  simp only at hFW
  have FW := Lib.hid hFW
  clear hb1 SH X0 B0 hFW
  go_wp2_with fail
  by_cases hfew : ¬ FewP r
  · refine (FW.out false (Lib.hid (by simp [hfew]))).mono ?_
    rintro e w2 ⟨rfl, hb2⟩
    have BE := Lib.hid (held_trans B1.out hb2)
    go_wp2_with fail
    go_ret
    exact ⟨rfl, BE.out⟩
  have hfew := Classical.not_not.1 hfew
  have HFEW := Lib.hid hfew
  refine (FW.out true (Lib.hid (by simp [hfew]))).mono ?_
  rintro e w2a ⟨rfl, hb2⟩
  have X2a := Lib.hid (X1.out.step hb2)
  have B2a := Lib.hid (held_trans B1.out hb2)
  have p0 := X2a.out.c0
  have p1 := X2a.out.c1
  have p2 := X2a.out.c2
  have p3 := X2a.out.c3
  have p4 := X2a.out.c4
  obtain ⟨Tb, hTb⟩ : ∃ Tb : Bool, (Tb = true ↔ Jp.May r) := by
    by_cases h : Jp.May r
    · exact ⟨true, by simp [h]⟩
    · exact ⟨false, by simp [h]⟩
  have HTB := Lib.hid hTb
  have hMY := jrefMay_any ⟨A0, nt, ct, R, nr, cr, S, ns, cs⟩ r Tb w2a HTB (HR.out.below B2a.out) HFEW.out.low
  unfold jv at hMY
  simp only at hMY
  have MY := Lib.hid hMY
  clear hb2 FW X1 B1 hfew hMY hTb
  go_wp2_with fail
  refine MY.out.mono ?_
  rintro e w2b ⟨rfl, hb2⟩
  have X2b := Lib.hid (X2a.out.step hb2)
  have B2b := Lib.hid (held_trans B2a.out hb2)
  have p0 := X2b.out.c0
  have p1 := X2b.out.c1
  have p2 := X2b.out.c2
  have p3 := X2b.out.c3
  have p4 := X2b.out.c4
  clear hb2 MY X2a B2a
  cases Tb
  · have BE := B2b
    go_wp2_with fail
    go_ret
    exact ⟨rfl, BE.out⟩
  have HMAY := Lib.hid (HTB.out.1 rfl)
  have hMY := jrefOn_any ⟨A0, nt, ct, R, nr, cr, S, ns, cs⟩ r p w2b HR.out.on
  unfold jv at hMY
  simp only at hMY
  have MY := Lib.hid hMY
  clear hMY HTB
  go_wp2_with fail
  refine MY.out.mono ?_
  rintro e w2 ⟨rfl, hb2⟩
  have X2 := Lib.hid (X2b.out.step hb2)
  have B2 := Lib.hid (held_trans B2b.out hb2)
  have p0 := X2.out.c0
  have p1 := X2.out.c1
  have p2 := X2.out.c2
  have p3 := X2.out.c3
  have p4 := X2.out.c4
  clear hb2 MY X2b B2b
  obtain ⟨Ob, hOb⟩ : ∃ Ob, Ob = Jp.onP r p := ⟨_, rfl⟩
  rw [← hOb]
  have HON := Lib.hid hOb
  clear hOb
  cases Ob
  · have BE := B2
    go_wp2_with fail
    go_ret
    exact ⟨rfl, BE.out⟩
  have hMD := jmade_any ⟨A0, nt, ct, R, nr, cr, S, ns, cs⟩ r w2 (HR.out.below B2.out) (fun b hb => Nat.lt_of_lt_of_le hb B2.out.size) HFEW.out.low
  unfold jv at hMD
  simp only at hMD
  have MD := Lib.hid hMD
  clear hMD
  go_wp2_with fail
  refine MD.out.mono ?_
  rintro e w3 ⟨⟨A1, nt1, ct1, R1, nr1, cr1, S1, ns1, cs1⟩, rfl, hm3, hb3⟩
  unfold jv
  simp only
  have hbn := below_new w3 (.cells #[.slice A1 nt1 ct1, .int .i64 r.size, .slice R1 nr1 cr1, .slice S1 ns1 cs1, .int .u64 (r.on : Nat)] 33)
  have hY := C5.new w3 (.slice A1 nt1 ct1) (.int .i64 r.size) (.slice R1 nr1 cr1) (.slice S1 ns1 cs1) (.int .u64 (r.on : Nat)) 33
  obtain ⟨V4, hV4⟩ : ∃ V4, V4 = w3.alloc (.cells #[.slice A1 nt1 ct1, .int .i64 r.size, .slice R1 nr1 cr1, .slice S1 ns1 cs1, .int .u64 (r.on : Nat)] 33) := ⟨_, rfl⟩
  rw [← hV4] at hbn hY
  have E4 := Lib.hid hV4
  have B4 := Lib.hid (held_trans (held_trans B2.out hb3) hbn)
  have P4 := Lib.hid ((X2.out.step hb3).step hbn)
  have Y4 := Lib.hid hY
  have M4 := Lib.hid (show RM (fun b => b < w3.heap.size) V4 ⟨A1, nt1, ct1, R1, nr1, cr1, S1, ns1, cs1⟩ r from (hm3.bound.mono (fun b hb => hb.2)).below hbn)
  have HX4 := Lib.hid (show w3.heap.size < V4.heap.size from hY.lt)
  have HWX := Lib.hid (show w.heap.size ≤ w3.heap.size from (held_trans B2.out hb3).size)
  clear hm3 hb3 hbn hY hV4 MD X2 B2 p0 p1 p2 p3 p4
  have HLW := Lib.hid HFEW.out.low
  obtain ⟨k, hpk, hk⟩ := Jp.onP_lt HMAY.out HON.out.symm
  subst hpk
  have HK := Lib.hid hk
  obtain ⟨m, hnd, hmn⟩ := Jp.node_at HMAY.out.tree (show k < (Dp.procs r.tree).length from by rw [← HMAY.out.rings]; exact hk)
  rw [← HMAY.out.rows] at hmn
  have HMN := Lib.hid hmn
  have HND := Lib.hid hnd
  have HNO := Lib.hid (show Jp.nodeOf r k = m by unfold Jp.nodeOf; rw [hnd]; rfl)
  have LF0 := Lib.hid (show Jp.Left (Jp.order r k tick) k tick 0 r from ⟨HMAY.out, HON.out.symm, hk, HFEW.out.low, by rw [List.drop_zero]⟩)
  clear hk hmn hnd HON
  have hcc := node_any A1 nt1 ct1 r.tree k V4 (Lib.hid M4.out.tlen) M4.out.tmax (Lib.hid M4.out.fit) M4.out.tree
  rw [HND.out] at hcc
  have CN := Lib.hid hcc
  have t0 := Y4.out.b5.c0
  clear hcc
  go_wp2_with (rw [← E4.out])
  clear E4
  refine CN.out.mono ?_
  rintro e V5 ⟨rfl, hb⟩
  have Y5 := Lib.hid (Y4.out.step hb)
  have M5 := Lib.hid (M4.out.below hb)
  have B5 := Lib.hid (held_trans B4.out hb)
  have HX5 := Lib.hid (Nat.lt_of_lt_of_le HX4.out hb.size)
  clear hb CN t0 Y4 M4 B4 P4 HX4
  have hns := M5.out.ns
  have hnr := M5.out.nr
  simp only at hns hnr
  have hm1 : ¬ (m : Int) < 0 := by omega
  have hm2 : ¬ (ns1 : Int) ≤ (m : Int) := by have := HMN.out; omega
  obtain ⟨row, hrow⟩ : ∃ l, r.rows[m]? = some l := ⟨_, List.getElem?_eq_getElem HMN.out⟩
  obtain ⟨⟨x, t⟩, hrg⟩ : ∃ y, r.rings[k]? = some y := ⟨_, List.getElem?_eq_getElem HK.out⟩
  obtain ⟨sb, so, As, na, ca, eS, hsb, hsc, hsr⟩ := M5.out.rowAt hrow
  obtain ⟨rb, ro, Aw, nw, cw, eR, hrb, hr0, hr1, hrr⟩ := M5.out.ringAt hrg
  simp only at eS eR hrr
  subst eS eR
  have hl3 : (m : Int) < (ns1 : Int) := by have := HMN.out; omega
  have hl4 : (k : Int) < (nr1 : Int) := by have := HK.out; omega
  have hl5 : (0 : Int) ≤ (m : Int) := by omega
  have hl6 : (0 : Int) ≤ (k : Int) := by omega
  have HRW := Lib.hid (show Jp.rowAt r (Jp.nodeOf r k) = row from by rw [HNO.out]; exact Jp.rowAt_some hrow)
  have HRG := Lib.hid (show Jp.ringAt r k = (x, t) from Jp.ringAt_some hrg)
  have hnw : nw ≤ 400 := by rw [← hrr.len]; exact HLW.out.ring (x, t) (List.mem_of_getElem? hrg)
  have hna : na ≤ 400 := by rw [← hsr.len]; exact HLW.out.row row (List.mem_of_getElem? hrow)
  have HSR := Lib.hid hsr
  have AL := Lib.hid (fun W (hb : Below V5.heap.size V5 W) => all_any x Aw nw cw t W (hrr.below hb) (by omega))
  have hlA : (Rp.all (x, t)).length ≤ nw + 1 := by have := Rp.all_length (x, t); have := hrr.len; simp only at *; omega
  obtain ⟨la, hla⟩ : ∃ la, la = Rp.all (x, t) := ⟨_, rfl⟩
  rw [← hla] at AL hlA
  have HLA := Lib.hid hla
  have t2 := Y5.out.b5.c2
  have t3 := Y5.out.b5.c3
  clear hrow hrg hsb hrb hsr hrr hla hns hnr
  go_upto_region 8 with fail
  go_cut [10] (fun v wx => ∃ Ab nb cb, v = .slice Ab nb cb ∧ Hid (Row wx Ab nb cb (la ++ row)) ∧ Hid (From V5.heap.size Ab) ∧ Hid (Below V5.heap.size V5 wx))
  case first =>
    go_wp2_with fail
    refine wp_region_held_drew (S := fun w' => w'.cell? ⟨w3.heap.size, 2, none⟩ = some (.slice (some ⟨rb, ro, none⟩) nr1 cr1) ∧ w'.cell? ⟨w3.heap.size, 3, none⟩ = some (.slice (some ⟨sb, so, none⟩) ns1 cs1) ∧ w'.cell? ⟨rb, ro + k * 2, none⟩ = some (.int .i64 x) ∧ w'.cell? ⟨rb, ro + k * 2 + 1, none⟩ = some (.slice Aw nw cw) ∧ w'.cell? ⟨sb, so + m, none⟩ = some (.slice As na ca)) (by kernel_rfl) ⟨t2, t3, hr0, hr1, hsc⟩ (fun hHeld => ?_)
    have hb1 := (Below.refl V5.heap.size V5).drew
    obtain ⟨x1, hx1⟩ : ∃ x1, x1 = V5.drew := ⟨_, rfl⟩
    rw [← hx1] at hb1 hHeld ⊢
    clear hx1
    refine wpAnyH_takesJ (i := 1) (v := (.pointer (some ⟨w3.heap.size, 2, none⟩))) (some 48) rfl rfl (by kernel_rfl) (by kernel_rfl) (by kernel_rfl) (fun _ _ _ h => h) (Or.inl ⟨by rfl, (by intro W9 hSw; (try dsimp only at hSw); go_simp; first | done | with_reducible rfl)⟩) (by assumption) ?_
    simp only [Act.put, List.setIfInBounds_toArray]; try simp only [List.set_cons_zero, List.set_cons_succ]
    refine wpAnyH_takesJ (i := 2) (v := (.slice (some ⟨rb, ro, none⟩) nr1 cr1)) (some 49) rfl rfl (by kernel_rfl) (by kernel_rfl) (by kernel_rfl) (fun _ _ _ h => h) (Or.inl ⟨by rfl, (by intro W9 hSw; (try dsimp only at hSw); go_simp; first | done | with_reducible rfl)⟩) (by assumption) ?_
    simp only [Act.put, List.setIfInBounds_toArray]; try simp only [List.set_cons_zero, List.set_cons_succ]
    refine wpAnyH_takesJ (i := 3) (v := (.int .i64 (k : Nat))) (some 50) rfl rfl (by kernel_rfl) (by kernel_rfl) (by kernel_rfl) (fun _ _ _ h => h) (Or.inl ⟨by rfl, (by intro W9 hSw; (try dsimp only at hSw); go_simp; first | done | with_reducible rfl)⟩) (by assumption) ?_
    simp only [Act.put, List.setIfInBounds_toArray]; try simp only [List.set_cons_zero, List.set_cons_succ]
    refine wpAnyH_takesJ (i := 4) (v := (.pointer (some ⟨rb, ro + k * 2, none⟩))) (some 51) rfl rfl (by kernel_rfl) (by kernel_rfl) (by kernel_rfl) (fun _ _ _ h => h) (Or.inl ⟨by rfl, (by intro W9 hSw; (try dsimp only at hSw); go_simp; first | done | with_reducible rfl)⟩) (by assumption) ?_
    simp only [Act.put, List.setIfInBounds_toArray]; try simp only [List.set_cons_zero, List.set_cons_succ]
    refine wpAnyH_takesJ (i := 5) (v := (.agg #[.int .i64 x, .slice Aw nw cw])) (some 52) rfl rfl (by kernel_rfl) (by kernel_rfl) (by kernel_rfl) (fun _ _ _ h => h) (Or.inl ⟨by rfl, (by intro W9 hSw; (try dsimp only at hSw); go_simp; first | done | with_reducible rfl)⟩) (by assumption) ?_
    simp only [Act.put, List.setIfInBounds_toArray]; try simp only [List.set_cons_zero, List.set_cons_succ]
    refine wpAnyH_takesJ (i := 8) (v := (.pointer (some ⟨w3.heap.size, 3, none⟩))) (some 55) rfl rfl (by kernel_rfl) (by kernel_rfl) (by kernel_rfl) (fun _ _ _ h => h) (Or.inl ⟨by rfl, (by intro W9 hSw; (try dsimp only at hSw); go_simp; first | done | with_reducible rfl)⟩) (by assumption) ?_
    simp only [Act.put, List.setIfInBounds_toArray]; try simp only [List.set_cons_zero, List.set_cons_succ]
    refine wpAnyH_takesJ (i := 9) (v := (.slice (some ⟨sb, so, none⟩) ns1 cs1)) (some 56) rfl rfl (by kernel_rfl) (by kernel_rfl) (by kernel_rfl) (fun _ _ _ h => h) (Or.inl ⟨by rfl, (by intro W9 hSw; (try dsimp only at hSw); go_simp; first | done | with_reducible rfl)⟩) (by assumption) ?_
    simp only [Act.put, List.setIfInBounds_toArray]; try simp only [List.set_cons_zero, List.set_cons_succ]
    refine wpAnyH_takesJ (i := 10) (v := (.int .i64 (m : Nat))) (some 57) rfl rfl (by kernel_rfl) (by kernel_rfl) (by kernel_rfl) (fun _ _ _ h => h) (Or.inl ⟨by rfl, (by intro W9 hSw; (try dsimp only at hSw); go_simp; first | done | with_reducible rfl)⟩) (by assumption) ?_
    simp only [Act.put, List.setIfInBounds_toArray]; try simp only [List.set_cons_zero, List.set_cons_succ]
    refine wpAnyH_takesJ (i := 11) (v := (.pointer (some ⟨sb, so + m, none⟩))) (some 58) rfl rfl (by kernel_rfl) (by kernel_rfl) (by kernel_rfl) (fun _ _ _ h => h) (Or.inl ⟨by rfl, (by intro W9 hSw; (try dsimp only at hSw); go_simp; first | done | with_reducible rfl)⟩) (by assumption) ?_
    simp only [Act.put, List.setIfInBounds_toArray]; try simp only [List.set_cons_zero, List.set_cons_succ]
    refine wpAnyH_takesJ (i := 12) (v := (.slice As na ca)) (some 59) rfl rfl (by kernel_rfl) (by kernel_rfl) (by kernel_rfl) (fun _ _ _ h => h) (Or.inl ⟨by rfl, (by intro W9 hSw; (try dsimp only at hSw); go_simp; first | done | with_reducible rfl)⟩) (by assumption) ?_
    simp only [Act.put, List.setIfInBounds_toArray]; try simp only [List.set_cons_zero, List.set_cons_succ]
    refine wpAnyH_ready (rs := [0, 6]) (by kernel_rfl) (by simp) ?_
    refine AllReadyH.cons rfl (fun K hK => ?_) (AllReadyH.cons rfl (fun K hK => ?_) AllReadyH.nil)
    · go_simp
      have hbl := below_new x1 (.cells #[] 3)
      have OL := Lib.hid (own_no x1 V5.heap.size 3 1 hb1.size)
      have hb2 := hb1.trans (hbl.mono hb1.size)
      obtain ⟨LB, hLB⟩ : ∃ LB, LB = x1.heap.size := ⟨_, rfl⟩
      obtain ⟨x2, hx⟩ : ∃ x2, x2 = x1.alloc (.cells #[] 3) := ⟨_, rfl⟩
      rw [← hx, ← hLB] at OL
      rw [← hx] at hb2 hbl ⊢
      try rw [← hLB]
      refine hK.out _ _ (by exact ⟨keepcell hb2 t2, keepcell hb2 t3, keepcell hb2 hr0, keepcell hb2 hr1, keepcell hb2 hsc⟩) (fun hHeld => ?_)
      clear hK K hx hLB hbl
      try dsimp only
      refine wpAnyH_ready (rs := [6]) (by kernel_rfl) (by simp) ?_
      refine AllReadyH.cons rfl (fun K hK => ?_) AllReadyH.nil
      go_simp
      go_at_call 19
      refine (AL.out _ (by exact hb2)).mono ?_
      rintro e x3 ⟨Ao, no, co, rfl, hro, _, hbx⟩
      have hb3 := hb2.trans (hbx.mono hb2.size)
      have OL2 := Lib.hid (own_below OL.out hbx)
      have RO := Lib.hid hro
      refine hK.out _ _ (by exact ⟨keepcell hb3 t2, keepcell hb3 t3, keepcell hb3 hr0, keepcell hb3 hr1, keepcell hb3 hsc⟩) (fun hHeld => ?_)
      clear hK K hbx hro OL
      try dsimp only
      refine wpAnyH_ready (rs := [7]) (by kernel_rfl) (by simp) ?_
      refine AllReadyH.cons rfl (fun K hK => ?_) AllReadyH.nil
      refine step_append_row_g (.tmp 47) (.tmp 53) rfl (by simp [Region.wanted]) V5.heap.size (.slice (some ⟨LB, 0, none⟩) 0 0) 0 [] rfl OL2.out Ao no co la rfl RO.out (by have h7 := RO.out.len; omega) hb3.size ?_
      intro va x4 hoa hga
      rw [List.nil_append, Nat.zero_add] at hoa
      have hb4 := hb3.grown hga hb3.size (fun q e => (OL2.out.lt q e).1)
      have OA := Lib.hid hoa
      have RA := Lib.hid (HSR.out.below hb4)
      show K (Act.put _ (some 54) _) _
      refine hK.out _ _ (by exact ⟨keepcell hb4 t2, keepcell hb4 t3, keepcell hb4 hr0, keepcell hb4 hr1, keepcell hb4 hsc⟩) (fun hHeld => ?_)
      have hno : no ≤ nw + 1 := by have := RO.out.len; omega
      clear hK K hga hoa OL2 RO
      try dsimp only
      refine wpAnyH_ready (rs := [13]) (by kernel_rfl) (by simp) ?_
      refine AllReadyH.cons rfl (fun K hK => ?_) AllReadyH.nil
      refine step_append_row_g (.tmp 54) (.tmp 59) rfl (by simp [Region.wanted]) V5.heap.size va no la rfl OA.out As na ca row rfl RA.out (by omega) hb4.size ?_
      intro vb x5 hob hgb
      have hb5 := hb4.grown hgb hb4.size (fun q e => (OA.out.lt q e).1)
      obtain ⟨Ab, cb, rfl, hrb, hfb⟩ := Row.of_own' hob
      have HW := Lib.hid hrb
      have FB := Lib.hid hfb
      have BB := Lib.hid hb5
      show K (Act.put _ (some 60) _) _
      refine hK.out _ _ (by exact ⟨keepcell hb5 t2, keepcell hb5 t3, keepcell hb5 hr0, keepcell hb5 hr1, keepcell hb5 hsc⟩) (fun hHeld => ?_)
      clear hK K hgb hob hrb hfb OA RA hb5 hb4
      try dsimp only
      refine wpAnyH_takesJ (i := 14) (v := (.slice Ab (no + na) cb)) (some 10) rfl rfl (by kernel_rfl) (by kernel_rfl) (by kernel_rfl) (fun _ _ _ h => h) (Or.inl ⟨by rfl, (by intro W9 hSw; (try dsimp only at hSw); go_simp; first | done | with_reducible rfl)⟩) (by assumption) ?_
      simp only [Act.put, List.setIfInBounds_toArray]; try simp only [List.set_cons_zero, List.set_cons_succ]
      refine wpAnyH_done (by kernel_rfl) ?_ _
      go_wp2_with fail
      go_meet
      exact ⟨_, _, _, rfl, HW, FB, BB⟩
    · go_simp
      go_at_call 19
      refine (AL.out _ (by exact hb1)).mono ?_
      rintro e x2 ⟨Ao, no, co, rfl, hro, _, hbx⟩
      have hb2 := hb1.trans (hbx.mono hb1.size)
      refine hK.out _ _ (by exact ⟨keepcell hb2 t2, keepcell hb2 t3, keepcell hb2 hr0, keepcell hb2 hr1, keepcell hb2 hsc⟩) (fun hHeld => ?_)
      clear hK K hbx
      try dsimp only
      refine wpAnyH_ready (rs := [0]) (by kernel_rfl) (by simp) ?_
      refine AllReadyH.cons rfl (fun K hK => ?_) AllReadyH.nil
      go_simp
      have hbl := below_new x2 (.cells #[] 3)
      have OL2 := Lib.hid (own_no x2 V5.heap.size 3 1 hb2.size)
      have hb3 := hb2.trans (hbl.mono hb2.size)
      obtain ⟨LB, hLB⟩ : ∃ LB, LB = x2.heap.size := ⟨_, rfl⟩
      obtain ⟨x3, hx⟩ : ∃ x3, x3 = x2.alloc (.cells #[] 3) := ⟨_, rfl⟩
      rw [← hx, ← hLB] at OL2
      rw [← hx] at hb3 hbl ⊢
      try rw [← hLB]
      have RO := Lib.hid (hro.below hbl)
      refine hK.out _ _ (by exact ⟨keepcell hb3 t2, keepcell hb3 t3, keepcell hb3 hr0, keepcell hb3 hr1, keepcell hb3 hsc⟩) (fun hHeld => ?_)
      clear hK K hx hLB hbl hro
      try dsimp only
      refine wpAnyH_ready (rs := [7]) (by kernel_rfl) (by simp) ?_
      refine AllReadyH.cons rfl (fun K hK => ?_) AllReadyH.nil
      refine step_append_row_g (.tmp 47) (.tmp 53) rfl (by simp [Region.wanted]) V5.heap.size (.slice (some ⟨LB, 0, none⟩) 0 0) 0 [] rfl OL2.out Ao no co la rfl RO.out (by have h7 := RO.out.len; omega) hb3.size ?_
      intro va x4 hoa hga
      rw [List.nil_append, Nat.zero_add] at hoa
      have hb4 := hb3.grown hga hb3.size (fun q e => (OL2.out.lt q e).1)
      have OA := Lib.hid hoa
      have RA := Lib.hid (HSR.out.below hb4)
      show K (Act.put _ (some 54) _) _
      refine hK.out _ _ (by exact ⟨keepcell hb4 t2, keepcell hb4 t3, keepcell hb4 hr0, keepcell hb4 hr1, keepcell hb4 hsc⟩) (fun hHeld => ?_)
      have hno : no ≤ nw + 1 := by have := RO.out.len; omega
      clear hK K hga hoa OL2 RO
      try dsimp only
      refine wpAnyH_ready (rs := [13]) (by kernel_rfl) (by simp) ?_
      refine AllReadyH.cons rfl (fun K hK => ?_) AllReadyH.nil
      refine step_append_row_g (.tmp 54) (.tmp 59) rfl (by simp [Region.wanted]) V5.heap.size va no la rfl OA.out As na ca row rfl RA.out (by omega) hb4.size ?_
      intro vb x5 hob hgb
      have hb5 := hb4.grown hgb hb4.size (fun q e => (OA.out.lt q e).1)
      obtain ⟨Ab, cb, rfl, hrb, hfb⟩ := Row.of_own' hob
      have HW := Lib.hid hrb
      have FB := Lib.hid hfb
      have BB := Lib.hid hb5
      show K (Act.put _ (some 60) _) _
      refine hK.out _ _ (by exact ⟨keepcell hb5 t2, keepcell hb5 t3, keepcell hb5 hr0, keepcell hb5 hr1, keepcell hb5 hsc⟩) (fun hHeld => ?_)
      clear hK K hgb hob hrb hfb OA RA hb5 hb4
      try dsimp only
      refine wpAnyH_takesJ (i := 14) (v := (.slice Ab (no + na) cb)) (some 10) rfl rfl (by kernel_rfl) (by kernel_rfl) (by kernel_rfl) (fun _ _ _ h => h) (Or.inl ⟨by rfl, (by intro W9 hSw; (try dsimp only at hSw); go_simp; first | done | with_reducible rfl)⟩) (by assumption) ?_
      simp only [Act.put, List.setIfInBounds_toArray]; try simp only [List.set_cons_zero, List.set_cons_succ]
      refine wpAnyH_done (by kernel_rfl) ?_ _
      go_wp2_with fail
      go_meet
      exact ⟨_, _, _, rfl, HW, FB, BB⟩
  case rest =>
    obtain ⟨Ab, nb, cb, rfl, RW, FB, BX⟩ := hcut
    have hnb0 := RW.out.len
    have h61 : IntKind.i64.wrap (tick.tmod 61) = tick.tmod 61 := by
      have h1 := Int.tmod_lt_of_pos tick (show (0 : Int) < 61 by decide)
      have h2 := Int.lt_tmod_of_pos tick (show (0 : Int) < 61 by decide)
      exact IntWalk.i64_in _ (by omega)
    by_cases htk : tick.tmod 61 = 0
    · have q0 : (tick.tmod 61 == 0) = true := by rw [beq_iff_eq]; exact htk
      have HOR := Lib.hid (show Jp.order r k tick = row ++ la by unfold Jp.order; rw [if_pos htk, HRW.out, HRG.out, ← HLA.out])
      have BX1 := BX
      have t2 := t2
      go_upto_region 10 with fail
      go_cut [10] (fun v wx => ∃ Ab nb cb, v = .slice Ab nb cb ∧ Hid (Row wx Ab nb cb (row ++ la)) ∧ Hid (From V5.heap.size Ab) ∧ Hid (Below V5.heap.size V5 wx))
      case first =>
        have hb0 := BX.out.drew
        refine wp_region_held_drew (S := fun w' => w'.cell? ⟨w3.heap.size, 2, none⟩ = some (.slice (some ⟨rb, ro, none⟩) nr1 cr1) ∧ w'.cell? ⟨w3.heap.size, 3, none⟩ = some (.slice (some ⟨sb, so, none⟩) ns1 cs1) ∧ w'.cell? ⟨rb, ro + k * 2, none⟩ = some (.int .i64 x) ∧ w'.cell? ⟨rb, ro + k * 2 + 1, none⟩ = some (.slice Aw nw cw) ∧ w'.cell? ⟨sb, so + m, none⟩ = some (.slice As na ca)) (by kernel_rfl) ⟨keepcell hb0 t2, keepcell hb0 t3, keepcell hb0 hr0, keepcell hb0 hr1, keepcell hb0 hsc⟩ (fun hHeld => ?_)
        have hb1 := hb0
        obtain ⟨x1, hx1⟩ : ∃ x1, x1 = wc.drew := ⟨_, rfl⟩
        rw [← hx1] at hb1 hHeld ⊢
        clear hx1 hb0
        refine wpAnyH_takesJ (i := 1) (v := (.pointer (some ⟨w3.heap.size, 3, none⟩))) (some 65) rfl rfl (by kernel_rfl) (by kernel_rfl) (by kernel_rfl) (fun _ _ _ h => h) (Or.inl ⟨by rfl, (by intro W9 hSw; (try dsimp only at hSw); go_simp; first | done | with_reducible rfl)⟩) (by assumption) ?_
        simp only [Act.put, List.setIfInBounds_toArray]; try simp only [List.set_cons_zero, List.set_cons_succ]
        refine wpAnyH_takesJ (i := 2) (v := (.slice (some ⟨sb, so, none⟩) ns1 cs1)) (some 66) rfl rfl (by kernel_rfl) (by kernel_rfl) (by kernel_rfl) (fun _ _ _ h => h) (Or.inl ⟨by rfl, (by intro W9 hSw; (try dsimp only at hSw); go_simp; first | done | with_reducible rfl)⟩) (by assumption) ?_
        simp only [Act.put, List.setIfInBounds_toArray]; try simp only [List.set_cons_zero, List.set_cons_succ]
        refine wpAnyH_takesJ (i := 3) (v := (.int .i64 (m : Nat))) (some 67) rfl rfl (by kernel_rfl) (by kernel_rfl) (by kernel_rfl) (fun _ _ _ h => h) (Or.inl ⟨by rfl, (by intro W9 hSw; (try dsimp only at hSw); go_simp; first | done | with_reducible rfl)⟩) (by assumption) ?_
        simp only [Act.put, List.setIfInBounds_toArray]; try simp only [List.set_cons_zero, List.set_cons_succ]
        refine wpAnyH_takesJ (i := 4) (v := (.pointer (some ⟨sb, so + m, none⟩))) (some 68) rfl rfl (by kernel_rfl) (by kernel_rfl) (by kernel_rfl) (fun _ _ _ h => h) (Or.inl ⟨by rfl, (by intro W9 hSw; (try dsimp only at hSw); go_simp; first | done | with_reducible rfl)⟩) (by assumption) ?_
        simp only [Act.put, List.setIfInBounds_toArray]; try simp only [List.set_cons_zero, List.set_cons_succ]
        refine wpAnyH_takesJ (i := 5) (v := (.slice As na ca)) (some 69) rfl rfl (by kernel_rfl) (by kernel_rfl) (by kernel_rfl) (fun _ _ _ h => h) (Or.inl ⟨by rfl, (by intro W9 hSw; (try dsimp only at hSw); go_simp; first | done | with_reducible rfl)⟩) (by assumption) ?_
        simp only [Act.put, List.setIfInBounds_toArray]; try simp only [List.set_cons_zero, List.set_cons_succ]
        refine wpAnyH_takesJ (i := 7) (v := (.pointer (some ⟨w3.heap.size, 2, none⟩))) (some 71) rfl rfl (by kernel_rfl) (by kernel_rfl) (by kernel_rfl) (fun _ _ _ h => h) (Or.inl ⟨by rfl, (by intro W9 hSw; (try dsimp only at hSw); go_simp; first | done | with_reducible rfl)⟩) (by assumption) ?_
        simp only [Act.put, List.setIfInBounds_toArray]; try simp only [List.set_cons_zero, List.set_cons_succ]
        refine wpAnyH_takesJ (i := 8) (v := (.slice (some ⟨rb, ro, none⟩) nr1 cr1)) (some 72) rfl rfl (by kernel_rfl) (by kernel_rfl) (by kernel_rfl) (fun _ _ _ h => h) (Or.inl ⟨by rfl, (by intro W9 hSw; (try dsimp only at hSw); go_simp; first | done | with_reducible rfl)⟩) (by assumption) ?_
        simp only [Act.put, List.setIfInBounds_toArray]; try simp only [List.set_cons_zero, List.set_cons_succ]
        refine wpAnyH_takesJ (i := 9) (v := (.int .i64 (k : Nat))) (some 73) rfl rfl (by kernel_rfl) (by kernel_rfl) (by kernel_rfl) (fun _ _ _ h => h) (Or.inl ⟨by rfl, (by intro W9 hSw; (try dsimp only at hSw); go_simp; first | done | with_reducible rfl)⟩) (by assumption) ?_
        simp only [Act.put, List.setIfInBounds_toArray]; try simp only [List.set_cons_zero, List.set_cons_succ]
        refine wpAnyH_takesJ (i := 10) (v := (.pointer (some ⟨rb, ro + k * 2, none⟩))) (some 74) rfl rfl (by kernel_rfl) (by kernel_rfl) (by kernel_rfl) (fun _ _ _ h => h) (Or.inl ⟨by rfl, (by intro W9 hSw; (try dsimp only at hSw); go_simp; first | done | with_reducible rfl)⟩) (by assumption) ?_
        simp only [Act.put, List.setIfInBounds_toArray]; try simp only [List.set_cons_zero, List.set_cons_succ]
        refine wpAnyH_takesJ (i := 11) (v := (.agg #[.int .i64 x, .slice Aw nw cw])) (some 75) rfl rfl (by kernel_rfl) (by kernel_rfl) (by kernel_rfl) (fun _ _ _ h => h) (Or.inl ⟨by rfl, (by intro W9 hSw; (try dsimp only at hSw); go_simp; first | done | with_reducible rfl)⟩) (by assumption) ?_
        simp only [Act.put, List.setIfInBounds_toArray]; try simp only [List.set_cons_zero, List.set_cons_succ]
        refine wpAnyH_ready (rs := [0]) (by kernel_rfl) (by simp) ?_
        refine AllReadyH.cons rfl (fun K hK => ?_) AllReadyH.nil
        go_simp
        have hbl := below_new x1 (.cells #[] 3)
        have OL2 := Lib.hid (own_no x1 V5.heap.size 3 1 hb1.size)
        have hb2 := hb1.trans (hbl.mono hb1.size)
        obtain ⟨LB, hLB⟩ : ∃ LB, LB = x1.heap.size := ⟨_, rfl⟩
        obtain ⟨x2, hx⟩ : ∃ x2, x2 = x1.alloc (.cells #[] 3) := ⟨_, rfl⟩
        rw [← hx, ← hLB] at OL2
        rw [← hx] at hb2 hbl ⊢
        try rw [← hLB]
        have RA := Lib.hid (HSR.out.below hb2)
        refine hK.out _ _ (by exact ⟨keepcell hb2 t2, keepcell hb2 t3, keepcell hb2 hr0, keepcell hb2 hr1, keepcell hb2 hsc⟩) (fun hHeld => ?_)
        clear hK K hx hLB hbl
        try dsimp only
        refine wpAnyH_ready (rs := [6]) (by kernel_rfl) (by simp) ?_
        refine AllReadyH.cons rfl (fun K hK => ?_) AllReadyH.nil
        refine step_append_row_g (.tmp 64) (.tmp 69) rfl (by simp [Region.wanted]) V5.heap.size (.slice (some ⟨LB, 0, none⟩) 0 0) 0 [] rfl OL2.out As na ca row rfl RA.out (by omega) hb2.size ?_
        intro va x3 hoa hga
        rw [List.nil_append, Nat.zero_add] at hoa
        have hb3 := hb2.grown hga hb2.size (fun q e => (OL2.out.lt q e).1)
        show K (Act.put _ (some 70) _) _
        refine hK.out _ _ (by exact ⟨keepcell hb3 t2, keepcell hb3 t3, keepcell hb3 hr0, keepcell hb3 hr1, keepcell hb3 hsc⟩) (fun hHeld => ?_)
        have OA := Lib.hid hoa
        clear hK K hga hoa OL2 RA
        try dsimp only
        refine wpAnyH_ready (rs := [12]) (by kernel_rfl) (by simp) ?_
        refine AllReadyH.cons rfl (fun K hK => ?_) AllReadyH.nil
        go_simp
        go_at_call 19
        refine (AL.out _ (by exact hb3)).mono ?_
        rintro e x4 ⟨Ao, no, co, rfl, hro, _, hbx⟩
        have hb4 := hb3.trans (hbx.mono hb3.size)
        have OA2 := Lib.hid (own_below OA.out hbx)
        have RO := Lib.hid hro
        have hno : no ≤ nw + 1 := by have := hro.len; omega
        refine hK.out _ _ (by exact ⟨keepcell hb4 t2, keepcell hb4 t3, keepcell hb4 hr0, keepcell hb4 hr1, keepcell hb4 hsc⟩) (fun hHeld => ?_)
        clear hK K hbx hro OA
        try dsimp only
        refine wpAnyH_ready (rs := [13]) (by kernel_rfl) (by simp) ?_
        refine AllReadyH.cons rfl (fun K hK => ?_) AllReadyH.nil
        refine step_append_row_g (.tmp 70) (.tmp 76) rfl (by simp [Region.wanted]) V5.heap.size va na row rfl OA2.out Ao no co la rfl RO.out (by omega) hb4.size ?_
        intro vb x5 hob hgb
        have hb5 := hb4.grown hgb hb4.size (fun q e => (OA2.out.lt q e).1)
        obtain ⟨Ab, cb, rfl, hrb, hfb⟩ := Row.of_own' hob
        have HW := Lib.hid hrb
        have FB := Lib.hid hfb
        have BB := Lib.hid hb5
        show K (Act.put _ (some 77) _) _
        refine hK.out _ _ (by exact ⟨keepcell hb5 t2, keepcell hb5 t3, keepcell hb5 hr0, keepcell hb5 hr1, keepcell hb5 hsc⟩) (fun hHeld => ?_)
        clear hK K hgb hob hrb hfb OA2 RO hb5 hb4
        try dsimp only
        refine wpAnyH_takesJ (i := 14) (v := (.slice Ab (na + no) cb)) (some 10) rfl rfl (by kernel_rfl) (by kernel_rfl) (by kernel_rfl) (fun _ _ _ h => h) (Or.inl ⟨by rfl, (by intro W9 hSw; (try dsimp only at hSw); go_simp; first | done | with_reducible rfl)⟩) (by assumption) ?_
        simp only [Act.put, List.setIfInBounds_toArray]; try simp only [List.set_cons_zero, List.set_cons_succ]
        refine wpAnyH_done (by kernel_rfl) ?_ _
        go_wp2_with fail
        go_meet
        exact ⟨_, _, _, rfl, HW, FB, BB⟩
      case rest =>
        clear RW FB BX BX1 hnb0
        obtain ⟨Ab, nb, cb, rfl, RW, FB, BX⟩ := hcut
        obtain ⟨want, hwant⟩ : ∃ want, want = row ++ la := ⟨_, rfl⟩
        have RW := Lib.hid (show Row wc Ab nb cb want by rw [hwant]; exact RW.out)
        have LF := Lib.hid (show Jp.Left want k tick 0 r by rw [hwant, ← HOR.out]; exact LF0.out)
        have hnb : nb ≤ 801 := by rw [← RW.out.len, hwant, List.length_append]; have := HSR.out.len; omega
        clear hwant htk HOR LF0 h61
        have hwl : want ≠ [] → ∀ ad, Ab = some ad → ad.block < wc.heap.size ∧ ad.block ≠ w3.heap.size := fun hne ad hA => ⟨row_block RW.out hne hA, by have := FB.out ad hA; have := HX5.out; omega⟩
        have GM0 := Lib.hid (⟨Y5.out.step BX.out, (M5.out.below BX.out).mono (fun b hb => ⟨Nat.ne_of_lt hb, by simp [Value.ownBlock], Nat.lt_trans hb (Nat.lt_of_lt_of_le HX5.out BX.out.size)⟩), World.ownsRow_nil _ _ _ _, RW.out, hwl, held_trans B5.out BX.out, HWX.out, Nat.lt_of_lt_of_le HX5.out BX.out.size, Nat.le_refl _⟩ : GM w w3.heap.size wc.heap.size want Ab nb cb (want.take 0) r ⟨A1, nt1, ct1, some ⟨rb, ro, none⟩, nr1, cr1, some ⟨sb, so, none⟩, ns1, cs1⟩ (.slice none 0 0) 0 wc)
        obtain ⟨Bz, hBz⟩ : ∃ Bz, Bz = wc.heap.size := ⟨_, rfl⟩
        obtain ⟨X, hX⟩ : ∃ X, X = w3.heap.size := ⟨_, rfl⟩
        rw [← hBz, ← hX] at GM0
        have HLN := Lib.hid RW.out.len
        clear hwl hBz RW t2 t3 hr0 hr1 hsc M5 Y5 B5
        go_wp2_with fail
        rw [← hX]
        clear hX
        go_loopw [11, 12] (fun got i wr => ∃ j : Nat, j ≤ nb + 1 ∧ i = .int .i64 j ∧ ∃ (r' : Jp.Rn) (A0 : Option Addr) (nt ct : Nat) (R : Option Addr) (nr cr : Nat) (S : Option Addr) (ns cs gn : Nat) (gv : Value), gv = got ∧ Hid (Jp.Left want k tick j r') ∧ Hid (GM w X Bz want Ab nb cb (want.take j) r' ⟨A0, nt, ct, R, nr, cr, S, ns, cs⟩ gv gn wr)) (fun _ i _ => nb + 1 - (intOf i).toNat)
        case atStart => exact ⟨0, Nat.zero_le _, rfl, _, _, _, _, _, _, _, _, _, _, _, _, rfl, LF, GM0⟩
        case round =>
          clear LF GM0
          obtain ⟨j, hj, rfl, r', A0, nt, ct, R, nr, cr, S, ns, cs, gn, got, rfl, LJ, GJ⟩ := hrel
          by_cases hlt : j ≤ nb
          · have l1 : (j : Int) ≤ (nb : Int) := by omega
            have wk : IntKind.i64.wrap ((j : Int) + 1) = ((j + 1 : Nat) : Int) := by
              rw [show ((j + 1 : Nat) : Int) = (j : Int) + 1 by omega]
              exact IntWalk.i64_in _ (by omega)
            have hgn : gn ≤ 801 := by have h1 := Row.of_own' GJ.out.grow; obtain ⟨_, _, e1, h2, _⟩ := h1; have := h2.len; rw [List.length_take] at this; omega
            have hFL := findLocal_any ⟨A0, nt, ct, R, nr, cr, S, ns, cs⟩ r' k tick _ GJ.out.mem (fun b hb => hb.2.2) LJ.out.low hp ht (HTW.out.step GJ.out.below)
            have hLN := Jp.left_next LJ.out
            obtain ⟨lo, hlo⟩ : ∃ lo, lo = Jp.loc r' k tick := ⟨_, rfl⟩
            rw [← hlo] at hFL hLN
            obtain ⟨hLF, hLT⟩ := hLN
            have LN := Lib.hid hLF
            have LT := Lib.hid hLT
            unfold jv at hFL
            simp only at hFL
            have FL := Lib.hid hFL
            have t0 := GJ.out.box.b5.c0
            have t1 := GJ.out.box.b5.c1
            have t2 := GJ.out.box.b5.c2
            have t3 := GJ.out.box.b5.c3
            have t4 := GJ.out.box.b5.c4
            simp only at t0 t1 t2 t3 t4
            clear hlo hFL hLF hLT
            go_wp2_with fail
            refine FL.out.mono ?_
            rintro e u2 ⟨⟨A2, nt2, ct2, R2, nr2, cr2, S2, ns2, cs2⟩, rfl, hm2, hb2⟩
            unfold jv
            simp only
            have hbn := below_new u2 (.cells #[.slice A2 nt2 ct2, .int .i64 lo.1.size, .slice R2 nr2 cr2, .slice S2 ns2 cs2, .int .u64 (lo.1.on : Nat)] 33)
            have hO3 := (GJ.out.box.step hb2).step hbn
            have hY3 := C5.new u2 (.slice A2 nt2 ct2) (.int .i64 lo.1.size) (.slice R2 nr2 cr2) (.slice S2 ns2 cs2) (.int .u64 (lo.1.on : Nat)) 33
            have GT := Lib.hid (GJ.out.turn hm2 hb2 hbn)
            obtain ⟨W3, hW3⟩ : ∃ W3, W3 = u2.alloc (.cells #[.slice A2 nt2 ct2, .int .i64 lo.1.size, .slice R2 nr2 cr2, .slice S2 ns2 cs2, .int .u64 (lo.1.on : Nat)] 33) := ⟨_, rfl⟩
            rw [← hW3] at hO3 hY3 GT
            have E3 := Lib.hid hW3
            have v0 := hY3.b5.c0
            have v1 := hY3.b5.c1
            have v2 := hY3.b5.c2
            have v3 := hY3.b5.c3
            have v4 := hY3.b5.c4
            have x0 := hO3.b5.c0
            have x1 := hO3.b5.c1
            have x2 := hO3.b5.c2
            have x3 := hO3.b5.c3
            have x4 := hO3.b5.c4
            have f0 := hO3.f0
            have f1 := hO3.f1
            have f2 := hO3.f2
            have f3 := hO3.f3
            have f4 := hO3.f4
            simp only at x0 x1 x2 x3 x4
            unfold put5 at GT
            clear hm2 hb2 hbn hO3 hY3 hW3 t0 t1 t2 t3 t4 FL LJ GJ
            go_upto_region 16 with (rw [← E3.out])
            go_cut [] (fun wx => ∃ (A0 : Option Addr) (nt ct : Nat) (R : Option Addr) (nr cr : Nat) (S : Option Addr) (ns cs : Nat), Hid (GM w X Bz want Ab nb cb (want.take j) lo.1 ⟨A0, nt, ct, R, nr, cr, S, ns, cs⟩ got gn wx))
            case first =>
              go_wp2_with fail
              go_meet
              exact ⟨_, _, _, _, _, _, _, _, _, GT⟩
            case rest =>
              clear GT v0 v1 v2 v3 v4 x0 x1 x2 x3 x4 f0 f1 f2 f3 f4
              obtain ⟨A0, nt, ct, R, nr, cr, S, ns, cs, GJ⟩ := hcut
              by_cases hg : lo.2.1 = 0
              · have n0 : (lo.2.1 != 0) = false := by rw [hg]; rfl
                have GK := Lib.hid (show GM w X Bz want Ab nb cb (want.take (j + 1)) lo.1 ⟨A0, nt, ct, R, nr, cr, S, ns, cs⟩ got gn _ from by
                  rcases LT.out with h | h
                  · rw [h.2]; exact GJ.out
                  · exact absurd hg h.1)
                clear GJ hg
                go_wp2_with fail
                go_roundw
                case rel => exact ⟨j + 1, by omega, by first | exact wk | rw [wk] | go_num, _, _, _, _, _, _, _, _, _, _, _, _, rfl, LN, GK⟩
                case measure => simp [intOf]; omega
              · have n0 : (lo.2.1 != 0) = true := by rw [bne_iff_ne]; exact hg
                have HTK := Lib.hid (show want.take (j + 1) = want.take j ++ [lo.2.1] from by
                  rcases LT.out with h | h
                  · exact absurd h.1 hg
                  · exact h.2)
                clear hg
                have hbl := below_new wc (.cells #[.int .i64 lo.2.1] 3)
                have GL := Lib.hid (GJ.out.step hbl)
                have RL := Lib.hid (row_at wc lo.2.1 wc.heap.size rfl)
                clear hbl GJ
                go_wp2_with (at_builtin; refine wpList_append_rowat rfl _ _ rfl Bz got gn (want.take j) rfl GL.out.grow (some ⟨wc.heap.size, 0, none⟩) 1 1 [lo.2.1] rfl RL.out (by omega) GL.out.up ?_; intro v' w7 ho hgr hat; have GK := Lib.hid (show GM w X Bz want Ab nb cb (want.take (j + 1)) lo.1 ⟨A0, nt, ct, R, nr, cr, S, ns, cs⟩ v' (gn + 1) w7 from by rw [HTK.out]; exact GL.out.add ho hgr hat); clear ho hgr hat)
                go_roundw
                case rel => exact ⟨j + 1, by omega, by first | exact wk | rw [wk] | go_num, _, _, _, _, _, _, _, _, _, _, _, _, rfl, LN, GK⟩
                case measure => simp [intOf]; omega
          · have l1 : ¬ (j : Int) ≤ (nb : Int) := by omega
            obtain ⟨Ag, cg, rfl, hrg⟩ := Row.of_own GJ.out.grow
            have IN := Lib.hid (ints_row Ag Ab gn nb cg cb _ want _ (by rw [List.take_of_length_le (by rw [HLN.out]; omega)]) hrg GJ.out.wrow)
            have BJ := Lib.hid GJ.out.below
            clear hrg GJ LJ
            go_wp2_with fail
            refine IN.out.mono ?_
            rintro e w9 ⟨rfl, hb9⟩
            have BE := Lib.hid (held_trans BJ.out hb9)
            clear hb9 IN BJ
            go_wp2_with fail
            go_ret
            exact ⟨rfl, BE.out⟩
    · have q0 : (tick.tmod 61 == 0) = false := by rw [beq_eq_false_iff_ne]; exact htk
      have HOR := Lib.hid (show Jp.order r k tick = la ++ row by unfold Jp.order; rw [if_neg htk, HRW.out, HRG.out, ← HLA.out])
      obtain ⟨want, hwant⟩ : ∃ want, want = la ++ row := ⟨_, rfl⟩
      have RW := Lib.hid (show Row wc Ab nb cb want by rw [hwant]; exact RW.out)
      have LF := Lib.hid (show Jp.Left want k tick 0 r by rw [hwant, ← HOR.out]; exact LF0.out)
      have hnb : nb ≤ 801 := by rw [← RW.out.len, hwant, List.length_append]; have := HSR.out.len; omega
      clear hwant htk HOR LF0 hnb0 h61
      have hwl : want ≠ [] → ∀ ad, Ab = some ad → ad.block < wc.heap.size ∧ ad.block ≠ w3.heap.size := fun hne ad hA => ⟨row_block RW.out hne hA, by have := FB.out ad hA; have := HX5.out; omega⟩
      have GM0 := Lib.hid (⟨Y5.out.step BX.out, (M5.out.below BX.out).mono (fun b hb => ⟨Nat.ne_of_lt hb, by simp [Value.ownBlock], Nat.lt_trans hb (Nat.lt_of_lt_of_le HX5.out BX.out.size)⟩), World.ownsRow_nil _ _ _ _, RW.out, hwl, held_trans B5.out BX.out, HWX.out, Nat.lt_of_lt_of_le HX5.out BX.out.size, Nat.le_refl _⟩ : GM w w3.heap.size wc.heap.size want Ab nb cb (want.take 0) r ⟨A1, nt1, ct1, some ⟨rb, ro, none⟩, nr1, cr1, some ⟨sb, so, none⟩, ns1, cs1⟩ (.slice none 0 0) 0 wc)
      obtain ⟨Bz, hBz⟩ : ∃ Bz, Bz = wc.heap.size := ⟨_, rfl⟩
      obtain ⟨X, hX⟩ : ∃ X, X = w3.heap.size := ⟨_, rfl⟩
      rw [← hBz, ← hX] at GM0
      have HLN := Lib.hid RW.out.len
      clear hwl hBz RW t2 t3 hr0 hr1 hsc M5 Y5 B5
      go_wp2_with fail
      rw [← hX]
      clear hX
      go_loopw [11, 12] (fun got i wr => ∃ j : Nat, j ≤ nb + 1 ∧ i = .int .i64 j ∧ ∃ (r' : Jp.Rn) (A0 : Option Addr) (nt ct : Nat) (R : Option Addr) (nr cr : Nat) (S : Option Addr) (ns cs gn : Nat) (gv : Value), gv = got ∧ Hid (Jp.Left want k tick j r') ∧ Hid (GM w X Bz want Ab nb cb (want.take j) r' ⟨A0, nt, ct, R, nr, cr, S, ns, cs⟩ gv gn wr)) (fun _ i _ => nb + 1 - (intOf i).toNat)
      case atStart => exact ⟨0, Nat.zero_le _, rfl, _, _, _, _, _, _, _, _, _, _, _, _, rfl, LF, GM0⟩
      case round =>
        clear LF GM0
        obtain ⟨j, hj, rfl, r', A0, nt, ct, R, nr, cr, S, ns, cs, gn, got, rfl, LJ, GJ⟩ := hrel
        by_cases hlt : j ≤ nb
        · have l1 : (j : Int) ≤ (nb : Int) := by omega
          have wk : IntKind.i64.wrap ((j : Int) + 1) = ((j + 1 : Nat) : Int) := by
            rw [show ((j + 1 : Nat) : Int) = (j : Int) + 1 by omega]
            exact IntWalk.i64_in _ (by omega)
          have hgn : gn ≤ 801 := by have h1 := Row.of_own' GJ.out.grow; obtain ⟨_, _, e1, h2, _⟩ := h1; have := h2.len; rw [List.length_take] at this; omega
          have hFL := findLocal_any ⟨A0, nt, ct, R, nr, cr, S, ns, cs⟩ r' k tick _ GJ.out.mem (fun b hb => hb.2.2) LJ.out.low hp ht (HTW.out.step GJ.out.below)
          have hLN := Jp.left_next LJ.out
          obtain ⟨lo, hlo⟩ : ∃ lo, lo = Jp.loc r' k tick := ⟨_, rfl⟩
          rw [← hlo] at hFL hLN
          obtain ⟨hLF, hLT⟩ := hLN
          have LN := Lib.hid hLF
          have LT := Lib.hid hLT
          unfold jv at hFL
          simp only at hFL
          have FL := Lib.hid hFL
          have t0 := GJ.out.box.b5.c0
          have t1 := GJ.out.box.b5.c1
          have t2 := GJ.out.box.b5.c2
          have t3 := GJ.out.box.b5.c3
          have t4 := GJ.out.box.b5.c4
          simp only at t0 t1 t2 t3 t4
          clear hlo hFL hLF hLT
          go_wp2_with fail
          refine FL.out.mono ?_
          rintro e u2 ⟨⟨A2, nt2, ct2, R2, nr2, cr2, S2, ns2, cs2⟩, rfl, hm2, hb2⟩
          unfold jv
          simp only
          have hbn := below_new u2 (.cells #[.slice A2 nt2 ct2, .int .i64 lo.1.size, .slice R2 nr2 cr2, .slice S2 ns2 cs2, .int .u64 (lo.1.on : Nat)] 33)
          have hO3 := (GJ.out.box.step hb2).step hbn
          have hY3 := C5.new u2 (.slice A2 nt2 ct2) (.int .i64 lo.1.size) (.slice R2 nr2 cr2) (.slice S2 ns2 cs2) (.int .u64 (lo.1.on : Nat)) 33
          have GT := Lib.hid (GJ.out.turn hm2 hb2 hbn)
          obtain ⟨W3, hW3⟩ : ∃ W3, W3 = u2.alloc (.cells #[.slice A2 nt2 ct2, .int .i64 lo.1.size, .slice R2 nr2 cr2, .slice S2 ns2 cs2, .int .u64 (lo.1.on : Nat)] 33) := ⟨_, rfl⟩
          rw [← hW3] at hO3 hY3 GT
          have E3 := Lib.hid hW3
          have v0 := hY3.b5.c0
          have v1 := hY3.b5.c1
          have v2 := hY3.b5.c2
          have v3 := hY3.b5.c3
          have v4 := hY3.b5.c4
          have x0 := hO3.b5.c0
          have x1 := hO3.b5.c1
          have x2 := hO3.b5.c2
          have x3 := hO3.b5.c3
          have x4 := hO3.b5.c4
          have f0 := hO3.f0
          have f1 := hO3.f1
          have f2 := hO3.f2
          have f3 := hO3.f3
          have f4 := hO3.f4
          simp only at x0 x1 x2 x3 x4
          unfold put5 at GT
          clear hm2 hb2 hbn hO3 hY3 hW3 t0 t1 t2 t3 t4 FL LJ GJ
          go_upto_region 16 with (rw [← E3.out])
          go_cut [] (fun wx => ∃ (A0 : Option Addr) (nt ct : Nat) (R : Option Addr) (nr cr : Nat) (S : Option Addr) (ns cs : Nat), Hid (GM w X Bz want Ab nb cb (want.take j) lo.1 ⟨A0, nt, ct, R, nr, cr, S, ns, cs⟩ got gn wx))
          case first =>
            go_wp2_with fail
            go_meet
            exact ⟨_, _, _, _, _, _, _, _, _, GT⟩
          case rest =>
            clear GT v0 v1 v2 v3 v4 x0 x1 x2 x3 x4 f0 f1 f2 f3 f4
            obtain ⟨A0, nt, ct, R, nr, cr, S, ns, cs, GJ⟩ := hcut
            by_cases hg : lo.2.1 = 0
            · have n0 : (lo.2.1 != 0) = false := by rw [hg]; rfl
              have GK := Lib.hid (show GM w X Bz want Ab nb cb (want.take (j + 1)) lo.1 ⟨A0, nt, ct, R, nr, cr, S, ns, cs⟩ got gn _ from by
                rcases LT.out with h | h
                · rw [h.2]; exact GJ.out
                · exact absurd hg h.1)
              clear GJ hg
              go_wp2_with fail
              go_roundw
              case rel => exact ⟨j + 1, by omega, by first | exact wk | rw [wk] | go_num, _, _, _, _, _, _, _, _, _, _, _, _, rfl, LN, GK⟩
              case measure => simp [intOf]; omega
            · have n0 : (lo.2.1 != 0) = true := by rw [bne_iff_ne]; exact hg
              have HTK := Lib.hid (show want.take (j + 1) = want.take j ++ [lo.2.1] from by
                rcases LT.out with h | h
                · exact absurd h.1 hg
                · exact h.2)
              clear hg
              have hbl := below_new wc (.cells #[.int .i64 lo.2.1] 3)
              have GL := Lib.hid (GJ.out.step hbl)
              have RL := Lib.hid (row_at wc lo.2.1 wc.heap.size rfl)
              clear hbl GJ
              go_wp2_with (at_builtin; refine wpList_append_rowat rfl _ _ rfl Bz got gn (want.take j) rfl GL.out.grow (some ⟨wc.heap.size, 0, none⟩) 1 1 [lo.2.1] rfl RL.out (by omega) GL.out.up ?_; intro v' w7 ho hgr hat; have GK := Lib.hid (show GM w X Bz want Ab nb cb (want.take (j + 1)) lo.1 ⟨A0, nt, ct, R, nr, cr, S, ns, cs⟩ v' (gn + 1) w7 from by rw [HTK.out]; exact GL.out.add ho hgr hat); clear ho hgr hat)
              go_roundw
              case rel => exact ⟨j + 1, by omega, by first | exact wk | rw [wk] | go_num, _, _, _, _, _, _, _, _, _, _, _, _, rfl, LN, GK⟩
              case measure => simp [intOf]; omega
        · have l1 : ¬ (j : Int) ≤ (nb : Int) := by omega
          obtain ⟨Ag, cg, rfl, hrg⟩ := Row.of_own GJ.out.grow
          have IN := Lib.hid (ints_row Ag Ab gn nb cg cb _ want _ (by rw [List.take_of_length_le (by rw [HLN.out]; omega)]) hrg GJ.out.wrow)
          have BJ := Lib.hid GJ.out.below
          clear hrg GJ LJ
          go_wp2_with fail
          refine IN.out.mono ?_
          rintro e w9 ⟨rfl, hb9⟩
          have BE := Lib.hid (held_trans BJ.out hb9)
          clear hb9 IN BJ
          go_wp2_with fail
          go_ret
          exact ⟨rfl, BE.out⟩
set_option maxRecDepth 100000 in
theorem lifted (os : Os) (started : os.Started) (H : Type) (enc : TypeId × Value → H) :
    ReturnsInHanded {} Tryd.checked os 5 .any (fun w args => (Rows.findAllSpec.pre enc Tryd.prog Tryd.f5 [] false w args ∧ laidMetH Tryd.prog laidList w) ∧ sizedMet enc Tryd.prog Tryd.f5 (OpenSpec.ofChange Rows.findAllSpec) false w args)
      (Rows.findAllSpec.post enc Tryd.prog Tryd.f5 false true false false) := by
  refine returnsInHanded_of_change_and (C := Tryd.checked) (X := fun w _ => laidMetH Tryd.prog laidList w) (fun _ _ _ hh h => h.of_heap hh) own started (by kernel_rfl) Tryd.func5
    (ChangeSpec.witness_shaped (enc := enc) (C := Tryd.checked) (os := os) (X := fun w _ => laidMetH Tryd.prog laidList w) false (World.doorLaid Tryd.prog 14 os) #[.agg #[.slice none 0 0, .int .i64 0, .slice none 0 0, .slice none 0 0, .int .u64 0], .int .i64 0, .int .i64 0] 8 rfl (World.shaped_of_RefB (by kernel_rfl) (by kernel_rfl)) (by kernel_rfl) (by kernel_rfl) (by kernel_rfl) (door_met os _)) ?_
  intro W base args ds gs before hval0 hW _ _ hL _
  have hval : ∀ (j : Nat) t v, Tryd.f5.params[j]? = some t → args[j]? = some v → Value.okWide Tryd.prog W .any base t v := hval0
  have hW' := hW
  obtain ⟨p, q, hA0, hV, rfl, hfz, hnd⟩ := hW
  have hA : DataW.TrodAll enc Tryd.prog W 0 (fun _ => true) true Tryd.f5.params.toList args.toList ds p := hA0
  rw [Tryd.params5] at hA hval
  obtain ⟨v0, vs0, d0, ds0, p0, q0, hargs, rfl, rfl, h0, r0⟩ := trodAll_cons hA
  obtain ⟨v1, vs1, d1, ds1, p1, q1, rfl, rfl, rfl, h1, r1⟩ := trodAll_cons r0
  obtain ⟨v2, vs2, d2, ds2, p2, q2, rfl, rfl, rfl, h2, r2⟩ := trodAll_cons r1
  obtain ⟨rfl, rfl, rfl⟩ := trodAll_nil r2
  obtain rfl : args = #[v0, v1, v2] := by cases args; simp_all
  obtain ⟨rfl, rfl⟩ := trodVars_none hV
  have k0 := h0
  have lt0 : ∀ x ∈ p0, x.block < W.heap.size := by obtain ⟨m, hm⟩ := k0; exact DataW.trod_lt m _ _ _ hm
  obtain ⟨x0, y0, rfl, hr0⟩ := open_runs (hval 0 27 v0 rfl rfl) h0
  obtain ⟨a1, rfl, rfl, rfl, w1⟩ := open_int Tryd.underlying3 (hval 1 3 v1 rfl rfl) h1
  obtain ⟨a2, rfl, rfl, rfl, w2⟩ := open_int Tryd.underlying3 (hval 2 3 v2 rfl rfl) h2
  clear hA0 hval0
  refine (walk x0 y0 a1 a2 W hr0 (in64_of_wf w1) (in64_of_wf w2) (tab_of_laid hL)).mono fun e W' ⟨he, bel⟩ => ?_
  subst he
  exact ⟨_, rfl, _, _, _, [], _, [], hW', trodAll_mk1 (shut_bool Tryd.underlying4 _), (trodAll_cons_mk (Below.trod laidOut (by kernel_rfl) (of_decide_eq_true (by kernel_rfl)) k0 bel lt0) (trodAll_cons_mk (shut_int Tryd.underlying3 w1) (trodAll_cons_mk (shut_int Tryd.underlying3 w2) trodAll_mk0))), rfl, bel.frame _, fun h => by cases h⟩
theorem over : Rows.FindAllSaid :=
  OpenClaim.holds_of_wide 5 Tryd.f5 rfl rfl rfl rfl rfl rfl rfl ⟨rfl, rfl, rfl, rfl, rfl⟩ rfl rfl rfl rfl rfl (by kernel_rfl) Tryd.func5 (by kernel_rfl)
    (of_decide_eq_true (by kernel_rfl)) (by unfold Func.isWrapper; first | (rw [if_pos (by decide +kernel)]; kernel_rfl) | (rw [if_neg (by decide +kernel)]; exact ⟨rfl, rfl⟩))
    (fun os started H enc _ => lifted os started H enc)
theorem proved : Rows.FindAllCardSaid :=
  Claim7.holds_tied_plain_at .later [] [.data] true Rows.findAllCard.stood.harness false
    over (fun _ h => by cases h) (by kernel_rfl) (fun _ h => by cases h) findAll_row_tie rfl ⟨rfl, rfl⟩ (by kernel_rfl) rfl
    (fun f fn hf hfn => by
      obtain rfl : f = 5 := Option.some.inj ((show Tryd.prog.funcNamed "catafalque/catafalquelaw16.FindAll" = some 5 by kernel_rfl).symm.trans hf) |>.symm
      obtain rfl : fn = Tryd.f5 := (Option.some.inj (Tryd.func5.symm.trans hfn)).symm
      exact ⟨by kernel_rfl, fun j t ht => by
        rw [Tryd.params5] at ht
        have hm : t ∈ [27, 3, 3] := by simpa using Array.mem_of_getElem? ht
        have hall : ([27, 3, 3].all fun u => !Tryd.prog.wantsStandIn u) = true := by kernel_rfl
        exact (show Tryd.prog.wantsStandIn t = false by simpa using List.all_eq_true.1 hall t hm)⟩)
    (by kernel_rfl)
end Go.Proofs.YtinmmcikhjacoaaDoor.findAll

