/- RunsLast: who is pushed is the last one of the row; who is put is next in the ring: the call answers true and changes nothing that was there; for every input. (Written by wip/gen/gen_jlaws.py: change that.) -/
import Derived.Test.YtgloibgmaiadfaaDoorJLow
import Derived.Test.YtgloibgmaiadfaaDoorJReal
namespace Go.Proofs.YtgloibgmaiadfaaDoor.runsLast
open Go.ChangeShapes Go.WideShapes Go.ChangeAt Go.RowKit
set_option linter.unusedVariables false

theorem ints_row (A B : Option Addr) (n m c d : Nat) (zs ys : List Int) (w : World) (he : zs = ys) (h : Row w A n c zs) (hb : Row w B m d ys) :
    Calls Tryd.prog 21 #[.slice A n c, .slice B m d] w fun e w' => e = .returned (.bool true) ∧ Below w.heap.size w w' := by
  subst he
  obtain rfl : n = m := h.len.symm.trans hb.len
  exact ints_same A B n c d zs w (Lib.hid h.len) (by have := h.cap; have := h.most; omega) h.row hb.row
theorem last_put {r : Jp.Rn} {p g : Int} {pa : Jp.Rn × Int} (hpa : pa = Jp.put r p g) (h : pa.2 = 0) : ∃ (k : Nat) (l : List Int), p = k ∧ pa.1.rings[k]? = some (g, l) := by
  subst hpa
  obtain ⟨k, rfl, hk, hg, hn, ho, hm, e⟩ := Jp.put_ok h
  rw [e]
  obtain ⟨l, hl⟩ := Jp.done_next hk g
  exact ⟨k, l, rfl, hl⟩
theorem last_push {r : Jp.Rn} {p g : Int} {pa : Jp.Rn × Int} (hpa : pa = Jp.push r p g) (h : pa.2 = 0) : ∃ k : Nat, p = k ∧ k < r.rows.length ∧ pa.1.rows[k]? = some (Jp.rowAt r k ++ [g]) ∧ r.rows[k]? = some (Jp.rowAt r k) := by
  subst hpa
  obtain ⟨k, rfl, hk, hg, hn, hm, e⟩ := Jp.push_ok h
  rw [e]
  refine ⟨k, rfl, hk, Jp.pushed_row hk g, ?_⟩
  unfold Jp.rowAt
  rw [List.getElem?_eq_getElem hk]
  rfl
theorem keeps_no {r : Jp.Rn} {p g : Int} {pa : Jp.Rn × Int} (hpa : pa = Jp.push r p g) (h : ¬ pa.2 = 0) : pa.1 = r := by
  subst hpa
  exact Jp.push_no h
theorem row_le {r : Jp.Rn} (h : Low r) {k : Nat} {l : List Int} (hl : r.rows[k]? = some l) : l.length ≤ 400 := h.row l (List.mem_of_getElem? hl)
theorem len_of {α : Type} {l : List α} {k : Nat} {x : α} (h : l[k]? = some x) : k < l.length := (List.getElem?_eq_some_iff.1 h).1
set_option maxRecDepth 100000 in
set_option maxHeartbeats 4000000 in
theorem walk (d : Ad) (r : Jp.Rn) (p g : Int) (w : World) (h : RMI (fun b => b < w.heap.size) w d r) (hp : In64 p) (hg : In64 g) (hT : Tab w) :
    Calls Tryd.prog 6 #[jv d r, .int .i64 p, .int .i64 g] w fun e w' => e = .returned (.bool true) ∧ Below w.heap.size w w' := by
  have HIN := Lib.hid h.2
  have HR := Lib.hid h.1
  have HTW := Lib.hid hT
  obtain ⟨A0, nt, ct, R, nr, cr, S, ns, cs⟩ := d
  obtain ⟨V, hV, hX, hB⟩ := B5.start w (.slice A0 nt ct) (.int .i64 r.size) (.slice R nr cr) (.slice S ns cs) (.int .u64 (r.on : Nat)) 35
  have E := Lib.hid hV
  have X0 := Lib.hid hX
  have B0 := Lib.hid hB
  have SH := Lib.hid (jshown_any V (hT.step hB))
  clear h hT hV hX hB
  unfold jv
  go_enter Tryd.func6, Tryd.ntmps6
  go_wp2_with (rw [← E.out])
  clear E
  refine SH.out.mono ?_
  rintro e w1 ⟨rfl, hb1⟩
  have X1 := Lib.hid (X0.out.step hb1)
  have B1 := Lib.hid (held_trans B0.out hb1)
  have p0 := X1.out.c0
  have p1 := X1.out.c1
  have p2 := X1.out.c2
  have p3 := X1.out.c3
  have p4 := X1.out.c4
  have hFW := fun T HT => few_any ⟨A0, nt, ct, R, nr, cr, S, ns, cs⟩ r T w1 HT (HR.out.below B1.out) HIN.out
  unfold jv at hFW
  simp only at hFW
  have FW := Lib.hid hFW
  clear hb1 SH X0 B0 hFW
  go_wp2_with fail
  by_cases hfew : ¬ FewP r
  · refine (FW.out false (Lib.hid (by simp [hfew]))).mono ?_
    rintro e w2 ⟨rfl, hb2⟩
    have BE := Lib.hid (held_trans B1.out hb2)
    go_wp2_with fail
    go_ret
    exact ⟨rfl, BE.out⟩
  have hfew := Classical.not_not.1 hfew
  have HFEW := Lib.hid hfew
  refine (FW.out true (Lib.hid (by simp [hfew]))).mono ?_
  rintro e w2a ⟨rfl, hb2⟩
  have X2a := Lib.hid (X1.out.step hb2)
  have B2a := Lib.hid (held_trans B1.out hb2)
  have p0 := X2a.out.c0
  have p1 := X2a.out.c1
  have p2 := X2a.out.c2
  have p3 := X2a.out.c3
  have p4 := X2a.out.c4
  obtain ⟨Tb, hTb⟩ : ∃ Tb : Bool, (Tb = true ↔ Jp.May r) := by
    by_cases h : Jp.May r
    · exact ⟨true, by simp [h]⟩
    · exact ⟨false, by simp [h]⟩
  have hMY := jrefMay_any ⟨A0, nt, ct, R, nr, cr, S, ns, cs⟩ r Tb w2a (Lib.hid hTb) (HR.out.below B2a.out) HFEW.out.low
  unfold jv at hMY
  simp only at hMY
  have MY := Lib.hid hMY
  clear hb2 FW X1 B1 hfew hMY hTb
  go_wp2_with fail
  refine MY.out.mono ?_
  rintro e w2 ⟨rfl, hb2⟩
  have X2 := Lib.hid (X2a.out.step hb2)
  have B2 := Lib.hid (held_trans B2a.out hb2)
  have p0 := X2.out.c0
  have p1 := X2.out.c1
  have p2 := X2.out.c2
  have p3 := X2.out.c3
  have p4 := X2.out.c4
  clear hb2 MY X2a B2a
  cases Tb
  · have BE := B2
    go_wp2_with fail
    go_ret
    exact ⟨rfl, BE.out⟩
  have hMD := jmade_any ⟨A0, nt, ct, R, nr, cr, S, ns, cs⟩ r w2 (HR.out.below B2.out) (fun b hb => Nat.lt_of_lt_of_le hb B2.out.size) HFEW.out.low
  unfold jv at hMD
  simp only at hMD
  have MD := Lib.hid hMD
  clear hMD
  go_wp2_with fail
  refine MD.out.mono ?_
  rintro e w3 ⟨⟨A1, nt1, ct1, R1, nr1, cr1, S1, ns1, cs1⟩, rfl, hm3, hb3⟩
  unfold jv
  simp only
  have hbn := below_new w3 (.cells #[.slice A1 nt1 ct1, .int .i64 r.size, .slice R1 nr1 cr1, .slice S1 ns1 cs1, .int .u64 (r.on : Nat)] 29)
  have hY := B5.new w3 (.slice A1 nt1 ct1) (.int .i64 r.size) (.slice R1 nr1 cr1) (.slice S1 ns1 cs1) (.int .u64 (r.on : Nat)) 29
  obtain ⟨V4, hV4⟩ : ∃ V4, V4 = w3.alloc (.cells #[.slice A1 nt1 ct1, .int .i64 r.size, .slice R1 nr1 cr1, .slice S1 ns1 cs1, .int .u64 (r.on : Nat)] 29) := ⟨_, rfl⟩
  rw [← hV4] at hbn hY
  have E4 := Lib.hid hV4
  have B4 := Lib.hid (held_trans (held_trans B2.out hb3) hbn)
  have P4 := Lib.hid ((X2.out.step hb3).step hbn)
  have Y4 := Lib.hid hY
  have M4 := Lib.hid (show RM (fun b => b < w3.heap.size) V4 ⟨A1, nt1, ct1, R1, nr1, cr1, S1, ns1, cs1⟩ r from (hm3.bound.mono (fun b hb => hb.2)).below hbn)
  have HX4 := Lib.hid (show w3.heap.size < V4.heap.size from hY.lt)
  have HWX := Lib.hid (show w.heap.size ≤ w3.heap.size from (held_trans B2.out hb3).size)
  clear hm3 hb3 hbn hY hV4 MD X2 B2 p0 p1 p2 p3 p4
  obtain ⟨pa, hpa⟩ : ∃ pa, pa = Jp.put r p g := ⟨_, rfl⟩
  obtain ⟨pc, hpc⟩ : ∃ pc, pc = Jp.push r p g := ⟨_, rfl⟩
  have YP4 := P4
  have YX4 := Y4
  have MX4 := M4
  have MP4 := Lib.hid (HR.out.below B4.out)
  have BW4 := B4
  have LOWX := Lib.hid HFEW.out.low
  clear P4 Y4 M4 B4
  have HPA := Lib.hid hpa
  have HPC := Lib.hid hpc
  have LOWc := Lib.hid (show Low pc.1 from by rw [hpc]; exact low_push HFEW.out p g hg)
  have KA := Lib.hid (last_put hpa)
  have KC := Lib.hid (last_push hpc)
  have KNC := Lib.hid (keeps_no hpc)
  clear hpa hpc
  have hcc := runsPut_any ⟨A1, nt1, ct1, R1, nr1, cr1, S1, ns1, cs1⟩ r p g V4 MX4.out (fun b hb => Nat.lt_trans hb YX4.out.lt) LOWX.out hp hg (HTW.out.step BW4.out)
  rw [← HPA.out] at hcc
  unfold jv at hcc
  simp only at hcc
  have C5 := Lib.hid hcc
  clear hcc
  have t0 := YX4.out.c0
  have t1 := YX4.out.c1
  have t2 := YX4.out.c2
  have t3 := YX4.out.c3
  have t4 := YX4.out.c4
  go_wp2_with (rw [← E4.out])
  clear E4
  refine C5.out.mono ?_
  rintro e u5 ⟨⟨T5, nt5, ct5, R5, nr5, cr5, S5, ns5, cs5⟩, rfl, hm, hb⟩
  unfold jv
  simp only
  have hbn := below_new u5 (.cells #[.slice T5 nt5 ct5, .int .i64 pa.1.size, .slice R5 nr5 cr5, .slice S5 ns5 cs5, .int .u64 (pa.1.on : Nat)] 29)
  have hY := B5.new u5 (.slice T5 nt5 ct5) (.int .i64 pa.1.size) (.slice R5 nr5 cr5) (.slice S5 ns5 cs5) (.int .u64 (pa.1.on : Nat)) 29
  obtain ⟨V5, hV⟩ : ∃ V5, V5 = u5.alloc (.cells #[.slice T5 nt5 ct5, .int .i64 pa.1.size, .slice R5 nr5 cr5, .slice S5 ns5 cs5, .int .u64 (pa.1.on : Nat)] 29) := ⟨_, rfl⟩
  rw [← hV] at hbn hY
  have E5 := Lib.hid hV
  have hbj := hb.trans (hbn.mono hb.size)
  have YP5 := Lib.hid (YP4.out.step hbj)
  have MP5 := Lib.hid (MP4.out.below hbj)
  have YX5 := Lib.hid (YX4.out.step hbj)
  have MX5 := Lib.hid (MX4.out.below hbj)
  have BW5 := Lib.hid (held_trans BW4.out hbj)
  clear BW4 YP4 MP4 YX4 MX4 
  have Ya5 := Lib.hid hY
  have Ma5 := Lib.hid ((hm.bound.mono (G := fun b => b < u5.heap.size) (fun b hb => hb.2)).below hbn)
  clear hV hY hbn hm hb hbj C5 t0 t1 t2 t3 t4
  have hcc := runsPush_any ⟨A1, nt1, ct1, R1, nr1, cr1, S1, ns1, cs1⟩ r p g V5 MX5.out (fun b hb => Nat.lt_trans hb YX5.out.lt) LOWX.out hp hg (HTW.out.step BW5.out)
  rw [← HPC.out] at hcc
  unfold jv at hcc
  simp only at hcc
  have C6 := Lib.hid hcc
  clear hcc
  have t0 := YX5.out.c0
  have t1 := YX5.out.c1
  have t2 := YX5.out.c2
  have t3 := YX5.out.c3
  have t4 := YX5.out.c4
  go_wp2_with (rw [← E5.out])
  clear E5
  refine C6.out.mono ?_
  rintro e u6 ⟨⟨T6, nt6, ct6, R6, nr6, cr6, S6, ns6, cs6⟩, rfl, hm, hb⟩
  unfold jv
  simp only
  have hbn := below_new u6 (.cells #[.slice T6 nt6 ct6, .int .i64 pc.1.size, .slice R6 nr6 cr6, .slice S6 ns6 cs6, .int .u64 (pc.1.on : Nat)] 29)
  have hY := B5.new u6 (.slice T6 nt6 ct6) (.int .i64 pc.1.size) (.slice R6 nr6 cr6) (.slice S6 ns6 cs6) (.int .u64 (pc.1.on : Nat)) 29
  obtain ⟨V6, hV⟩ : ∃ V6, V6 = u6.alloc (.cells #[.slice T6 nt6 ct6, .int .i64 pc.1.size, .slice R6 nr6 cr6, .slice S6 ns6 cs6, .int .u64 (pc.1.on : Nat)] 29) := ⟨_, rfl⟩
  rw [← hV] at hbn hY
  have E6 := Lib.hid hV
  have hbj := hb.trans (hbn.mono hb.size)
  have YP6 := Lib.hid (YP5.out.step hbj)
  have MP6 := Lib.hid (MP5.out.below hbj)
  have YX6 := Lib.hid (YX5.out.step hbj)
  have MX6 := Lib.hid (MX5.out.below hbj)
  have Ya6 := Lib.hid (Ya5.out.step hbj)
  have Ma6 := Lib.hid (Ma5.out.below hbj)
  have BW6 := Lib.hid (held_trans BW5.out hbj)
  clear BW5 YP5 MP5 YX5 MX5 Ya5 Ma5 
  have Yc6 := Lib.hid hY
  have Mc6 := Lib.hid ((hm.bound.mono (G := fun b => b < u6.heap.size) (fun b hb => hb.2)).below hbn)
  clear hV hY hbn hm hb hbj C6 t0 t1 t2 t3 t4
  by_cases ha : pa.2 = 0
  · skip
    have hE := ha
    obtain ⟨k0, l0, hpk, hrg⟩ := KA.out hE
    obtain ⟨rb, ro, Ar, nar, car, eR, hrb, hrc, _, _⟩ := Ma6.out.ringAt hrg
    have hnr := Ma6.out.nr
    simp only at hnr eR
    have hkl := len_of hrg
    have hk1 : p < (nr5 : Int) := by omega
    have hk0 : 0 ≤ p := by omega
    have hx0 : p.toNat = k0 := by omega
    subst eR
    have y2 := Ya6.out.c2
    simp only at hrc
    subst hpk
    clear hnr hkl hx0
    by_cases hc : pc.2 = 0
    · skip
      have hE := hc
      obtain ⟨k, hpk, hlt, hrow, hrow2⟩ := KC.out hE
      first | (have e9 : k = k0 := (by omega); subst e9; clear hpk) | subst hpk
      obtain ⟨sb, so, As, na, ca, eS, hsb, hsc, hsr⟩ := Mc6.out.rowAt hrow
      obtain ⟨qb, qo, Aq, nq, cq, eQ, hqb, hqc, hqr⟩ := MP6.out.rowAt hrow2
      have hns := Mc6.out.ns
      have hms := MP6.out.ns
      simp only at hns hms eS eQ
      have hkr := len_of hrow
      have hl1 := hsr.len
      have hl2 := hqr.len
      rw [List.length_append, List.length_singleton] at hl1
      have hq9 : nq ≤ 400 := by rw [← hl2]; exact row_le LOWX.out hrow2
      have hlt1 : (k : Int) < (ns6 : Int) := by omega
      have hlt2 : (k : Int) < (ns : Int) := by omega
      have hk0 : (0 : Int) ≤ (k : Int) := by omega
      obtain ⟨tb, tof, eT, htb, htc⟩ := hsr.cells (by omega)
      have hg9 := htc nq g (by rw [List.getElem?_append_right (by omega), hl2, Nat.sub_self]; rfl)
      have hw1 : IntKind.i64.wrap ((nq : Int) + 1) = (na : Int) := by rw [IntWalk.i64_in _ (by omega)]; omega
      have hw2 : IntKind.i64.wrap ((na : Int) - 1) = (nq : Int) := by rw [IntWalk.i64_in _ (by omega)]; omega
      have hq0 : (0 : Int) ≤ (nq : Int) := by omega
      have hq1 : (nq : Int) < (na : Int) := by omega
      have hcap : nq ≤ ca := by have := hsr.cap; omega
      have HT := Lib.hid (show Row V6 As nq ca (Jp.rowAt r k) from by have h := hsr.take nq (by omega); rwa [List.take_left' (by omega)] at h)
      have HQ := Lib.hid hqr
      have YC := Lib.hid Yc6.out.c3
      have YQ := Lib.hid YP6.out.c3
      subst eS eQ eT
      clear hsr hqr hl1 hl2 hns hms htc
      have y3 := YC.out
      have z3 := YQ.out
      go_wp2_with (rw [← E6.out])
      have bz : Below V6.heap.size V6 V6.drew := (Below.refl _ _).drew
      go_region_held3 (fun w' => w'.cell? ⟨u6.heap.size, 3, none⟩ = some (.slice (some ⟨sb, so, none⟩) ns6 cs6) ∧ w'.cell? ⟨w.heap.size, 3, none⟩ = some (.slice (some ⟨qb, qo, none⟩) ns cs) ∧ w'.cell? ⟨sb, so + k, none⟩ = some (.slice (some ⟨tb, tof, none⟩) na ca) ∧ w'.cell? ⟨qb, qo + k, none⟩ = some (.slice Aq nq cq) ∧ w'.cell? ⟨tb, tof + nq, none⟩ = some (.int .i64 g))
        (first
          | (go_split_ands; refine ⟨keepcell hbX (by assumption), keepcell hbX (by assumption), keepcell hbX (by assumption), keepcell hbX (by assumption), keepcell hbX (by assumption)⟩)
          | (refine ⟨y3, z3, hsc, hqc, hg9⟩))
        ((go_at_call 21; refine (ints_row _ _ _ _ _ _ _ _ _ rfl (HT.out.below bz) (HQ.out.below bz)).mono ?_; rintro e u1 ⟨rfl, hbX⟩; have b1 := held_trans bz hbX))
      have BE := Lib.hid (held_trans BW6.out b1)
      go_wp2_with fail
      go_ret
      exact ⟨rfl, BE.out⟩
    · skip
      have EQC := Lib.hid (KNC.out hc)
      have hcc := fun W (hb : Below V6.heap.size V6 W) => jreal_any ⟨T6, nt6, ct6, R6, nr6, cr6, S6, ns6, cs6⟩ pc.1 W (Mc6.out.below hb) (fun b hb' => Nat.lt_of_lt_of_le (Nat.lt_trans hb' Yc6.out.lt) hb.size) LOWc.out
      unfold jv at hcc
      simp only at hcc
      have RC := Lib.hid hcc
      clear hcc
      go_wp2_with (rw [← E6.out])
      refine wp_region_held_drew (S := fun w' => B5 w' w.heap.size (.slice A0 nt ct) (.int .i64 r.size) (.slice R nr cr) (.slice S ns cs) (.int .u64 (r.on : Nat)) ∧ B5 w' u6.heap.size (.slice T6 nt6 ct6) (.int .i64 pc.1.size) (.slice R6 nr6 cr6) (.slice S6 ns6 cs6) (.int .u64 (pc.1.on : Nat))) (by kernel_rfl) ⟨YP6.out.drew, Yc6.out.drew⟩ (fun hHeld => ?_)
      refine wpAnyH_takesJ (i := 0) (v := (.bool true)) (some 61) rfl rfl (by kernel_rfl) (by kernel_rfl) (by kernel_rfl) (fun _ _ _ h => h) (Or.inl ⟨by rfl, (by intro W9 hSw; clear hSw; go_simp; first | done | with_reducible rfl)⟩) (by assumption) ?_
      simp only [Act.put, List.setIfInBounds_toArray]; try simp only [List.set_cons_zero, List.set_cons_succ]
      refine wpAnyH_takesJ (i := 1) (v := (.bool true)) (some 62) rfl rfl (by kernel_rfl) (by kernel_rfl) (by kernel_rfl) (fun _ _ _ h => h) (Or.inl ⟨by rfl, (by intro W9 hSw; clear hSw; go_simp; first | done | with_reducible rfl)⟩) (by assumption) ?_
      simp only [Act.put, List.setIfInBounds_toArray]; try simp only [List.set_cons_zero, List.set_cons_succ]
      refine wpAnyH_takesJ (i := 2) (v := (.agg #[.slice T6 nt6 ct6, .int .i64 pc.1.size, .slice R6 nr6 cr6, .slice S6 ns6 cs6, .int .u64 (pc.1.on : Nat)])) (some 63) rfl rfl (by kernel_rfl) (by kernel_rfl) (by kernel_rfl) (fun _ _ _ h => h) (Or.inl ⟨by rfl, (by intro W9 hSw; have s0 := (hSw.2).c0; have s1 := (hSw.2).c1; have s2 := (hSw.2).c2; have s3 := (hSw.2).c3; have s4 := (hSw.2).c4; clear hSw; go_simp; first | done | with_reducible rfl)⟩) (by assumption) ?_
      simp only [Act.put, List.setIfInBounds_toArray]; try simp only [List.set_cons_zero, List.set_cons_succ]
      refine wpAnyH_takesJ (i := 4) (v := (.agg #[.slice A0 nt ct, .int .i64 r.size, .slice R nr cr, .slice S ns cs, .int .u64 (r.on : Nat)])) (some 65) rfl rfl (by kernel_rfl) (by kernel_rfl) (by kernel_rfl) (fun _ _ _ h => h) (Or.inl ⟨by rfl, (by intro W9 hSw; have s0 := (hSw.1).c0; have s1 := (hSw.1).c1; have s2 := (hSw.1).c2; have s3 := (hSw.1).c3; have s4 := (hSw.1).c4; clear hSw; go_simp; first | done | with_reducible rfl)⟩) (by assumption) ?_
      simp only [Act.put, List.setIfInBounds_toArray]; try simp only [List.set_cons_zero, List.set_cons_succ]
      refine wpAnyH_ready (rs := [3]) (by kernel_rfl) (by simp) ?_
      refine AllReadyH.cons rfl (fun K hK => ?_) AllReadyH.nil
      go_simp
      go_at_call 12
      refine (RC.out _ (by exact (Below.refl _ _).drew)).mono ?_
      rintro e x1 ⟨⟨Ar, ntr, ctr, Rr, nrr, crr, Sr, nsr, csr⟩, rfl, hmr, hbx⟩
      have hb1 := (Below.refl V6.heap.size V6).drew.trans (hbx.mono (by simp))
      have hsm := jsame_any ⟨Ar, ntr, ctr, Rr, nrr, crr, Sr, nsr, csr⟩ ⟨A0, nt, ct, R, nr, cr, S, ns, cs⟩ pc.1 r x1 hmr (MP6.out.below hb1) LOWc.out (congrArg Jp.Rn.rings EQC.out) (congrArg Jp.Rn.rows EQC.out) (congrArg Jp.Rn.on EQC.out)
      unfold jv at hsm
      simp only at hsm
      have SM := Lib.hid hsm
      clear hsm hmr
      unfold jv
      simp only
      refine hK.out _ _ (by exact ⟨YP6.out.step hb1, Yc6.out.step hb1⟩) (fun hHeld => ?_)
      clear hK K hbx
      try dsimp only
      refine wpAnyH_ready (rs := [5]) (by kernel_rfl) (by simp) ?_
      refine AllReadyH.cons rfl (fun K hK => ?_) AllReadyH.nil
      go_simp
      go_at_call 11
      refine (SM.out).mono ?_
      rintro e x2 ⟨rfl, hbx⟩
      have hb2 := hb1.trans (hbx.mono hb1.size)
      refine hK.out _ _ (by exact ⟨YP6.out.step hb2, Yc6.out.step hb2⟩) (fun hHeld => ?_)
      clear hK K hbx
      try dsimp only
      refine wpAnyH_takesJ (i := 6) (v := (.bool true)) (some 67) rfl rfl (by kernel_rfl) (by kernel_rfl) (by kernel_rfl) (fun _ _ _ h => h) (Or.inl ⟨by rfl, (by intro W9 hSw; clear hSw; go_simp; first | done | with_reducible rfl)⟩) (by assumption) ?_
      simp only [Act.put, List.setIfInBounds_toArray]; try simp only [List.set_cons_zero, List.set_cons_succ]
      refine wpAnyH_takesJ (i := 7) (v := (.bool true)) (some 6) rfl rfl (by kernel_rfl) (by kernel_rfl) (by kernel_rfl) (fun _ _ _ h => h) (Or.inl ⟨by rfl, (by intro W9 hSw; clear hSw; go_simp; first | done | with_reducible rfl)⟩) (by assumption) ?_
      simp only [Act.put, List.setIfInBounds_toArray]; try simp only [List.set_cons_zero, List.set_cons_succ]
      refine wpAnyH_done (by kernel_rfl) ?_ _
      have BE := Lib.hid (held_trans BW6.out hb2)
      clear hb1 hb2
      go_wp2_with fail
      go_ret
      exact ⟨rfl, BE.out⟩
  · skip
    by_cases hc : pc.2 = 0
    · skip
      have hE := hc
      obtain ⟨k, hpk, hlt, hrow, hrow2⟩ := KC.out hE
      first | (have e9 : k = k0 := (by omega); subst e9; clear hpk) | subst hpk
      obtain ⟨sb, so, As, na, ca, eS, hsb, hsc, hsr⟩ := Mc6.out.rowAt hrow
      obtain ⟨qb, qo, Aq, nq, cq, eQ, hqb, hqc, hqr⟩ := MP6.out.rowAt hrow2
      have hns := Mc6.out.ns
      have hms := MP6.out.ns
      simp only at hns hms eS eQ
      have hkr := len_of hrow
      have hl1 := hsr.len
      have hl2 := hqr.len
      rw [List.length_append, List.length_singleton] at hl1
      have hq9 : nq ≤ 400 := by rw [← hl2]; exact row_le LOWX.out hrow2
      have hlt1 : (k : Int) < (ns6 : Int) := by omega
      have hlt2 : (k : Int) < (ns : Int) := by omega
      have hk0 : (0 : Int) ≤ (k : Int) := by omega
      obtain ⟨tb, tof, eT, htb, htc⟩ := hsr.cells (by omega)
      have hg9 := htc nq g (by rw [List.getElem?_append_right (by omega), hl2, Nat.sub_self]; rfl)
      have hw1 : IntKind.i64.wrap ((nq : Int) + 1) = (na : Int) := by rw [IntWalk.i64_in _ (by omega)]; omega
      have hw2 : IntKind.i64.wrap ((na : Int) - 1) = (nq : Int) := by rw [IntWalk.i64_in _ (by omega)]; omega
      have hq0 : (0 : Int) ≤ (nq : Int) := by omega
      have hq1 : (nq : Int) < (na : Int) := by omega
      have hcap : nq ≤ ca := by have := hsr.cap; omega
      have HT := Lib.hid (show Row V6 As nq ca (Jp.rowAt r k) from by have h := hsr.take nq (by omega); rwa [List.take_left' (by omega)] at h)
      have HQ := Lib.hid hqr
      have YC := Lib.hid Yc6.out.c3
      have YQ := Lib.hid YP6.out.c3
      subst eS eQ eT
      clear hsr hqr hl1 hl2 hns hms htc
      have y3 := YC.out
      have z3 := YQ.out
      go_wp2_with (rw [← E6.out])
      have bz : Below V6.heap.size V6 V6.drew := (Below.refl _ _).drew
      go_region_held3 (fun w' => w'.cell? ⟨u6.heap.size, 3, none⟩ = some (.slice (some ⟨sb, so, none⟩) ns6 cs6) ∧ w'.cell? ⟨w.heap.size, 3, none⟩ = some (.slice (some ⟨qb, qo, none⟩) ns cs) ∧ w'.cell? ⟨sb, so + k, none⟩ = some (.slice (some ⟨tb, tof, none⟩) na ca) ∧ w'.cell? ⟨qb, qo + k, none⟩ = some (.slice Aq nq cq) ∧ w'.cell? ⟨tb, tof + nq, none⟩ = some (.int .i64 g))
        (first
          | (go_split_ands; refine ⟨keepcell hbX (by assumption), keepcell hbX (by assumption), keepcell hbX (by assumption), keepcell hbX (by assumption), keepcell hbX (by assumption)⟩)
          | (refine ⟨y3, z3, hsc, hqc, hg9⟩))
        ((go_at_call 21; refine (ints_row _ _ _ _ _ _ _ _ _ rfl (HT.out.below bz) (HQ.out.below bz)).mono ?_; rintro e u1 ⟨rfl, hbX⟩; have b1 := held_trans bz hbX))
      have BE := Lib.hid (held_trans BW6.out b1)
      go_wp2_with fail
      go_ret
      exact ⟨rfl, BE.out⟩
    · skip
      have EQC := Lib.hid (KNC.out hc)
      have hcc := fun W (hb : Below V6.heap.size V6 W) => jreal_any ⟨T6, nt6, ct6, R6, nr6, cr6, S6, ns6, cs6⟩ pc.1 W (Mc6.out.below hb) (fun b hb' => Nat.lt_of_lt_of_le (Nat.lt_trans hb' Yc6.out.lt) hb.size) LOWc.out
      unfold jv at hcc
      simp only at hcc
      have RC := Lib.hid hcc
      clear hcc
      go_wp2_with (rw [← E6.out])
      refine wp_region_held_drew (S := fun w' => B5 w' w.heap.size (.slice A0 nt ct) (.int .i64 r.size) (.slice R nr cr) (.slice S ns cs) (.int .u64 (r.on : Nat)) ∧ B5 w' u6.heap.size (.slice T6 nt6 ct6) (.int .i64 pc.1.size) (.slice R6 nr6 cr6) (.slice S6 ns6 cs6) (.int .u64 (pc.1.on : Nat))) (by kernel_rfl) ⟨YP6.out.drew, Yc6.out.drew⟩ (fun hHeld => ?_)
      refine wpAnyH_takesJ (i := 0) (v := (.bool true)) (some 61) rfl rfl (by kernel_rfl) (by kernel_rfl) (by kernel_rfl) (fun _ _ _ h => h) (Or.inl ⟨by rfl, (by intro W9 hSw; clear hSw; go_simp; first | done | with_reducible rfl)⟩) (by assumption) ?_
      simp only [Act.put, List.setIfInBounds_toArray]; try simp only [List.set_cons_zero, List.set_cons_succ]
      refine wpAnyH_takesJ (i := 1) (v := (.bool true)) (some 62) rfl rfl (by kernel_rfl) (by kernel_rfl) (by kernel_rfl) (fun _ _ _ h => h) (Or.inl ⟨by rfl, (by intro W9 hSw; clear hSw; go_simp; first | done | with_reducible rfl)⟩) (by assumption) ?_
      simp only [Act.put, List.setIfInBounds_toArray]; try simp only [List.set_cons_zero, List.set_cons_succ]
      refine wpAnyH_takesJ (i := 2) (v := (.agg #[.slice T6 nt6 ct6, .int .i64 pc.1.size, .slice R6 nr6 cr6, .slice S6 ns6 cs6, .int .u64 (pc.1.on : Nat)])) (some 63) rfl rfl (by kernel_rfl) (by kernel_rfl) (by kernel_rfl) (fun _ _ _ h => h) (Or.inl ⟨by rfl, (by intro W9 hSw; have s0 := (hSw.2).c0; have s1 := (hSw.2).c1; have s2 := (hSw.2).c2; have s3 := (hSw.2).c3; have s4 := (hSw.2).c4; clear hSw; go_simp; first | done | with_reducible rfl)⟩) (by assumption) ?_
      simp only [Act.put, List.setIfInBounds_toArray]; try simp only [List.set_cons_zero, List.set_cons_succ]
      refine wpAnyH_takesJ (i := 4) (v := (.agg #[.slice A0 nt ct, .int .i64 r.size, .slice R nr cr, .slice S ns cs, .int .u64 (r.on : Nat)])) (some 65) rfl rfl (by kernel_rfl) (by kernel_rfl) (by kernel_rfl) (fun _ _ _ h => h) (Or.inl ⟨by rfl, (by intro W9 hSw; have s0 := (hSw.1).c0; have s1 := (hSw.1).c1; have s2 := (hSw.1).c2; have s3 := (hSw.1).c3; have s4 := (hSw.1).c4; clear hSw; go_simp; first | done | with_reducible rfl)⟩) (by assumption) ?_
      simp only [Act.put, List.setIfInBounds_toArray]; try simp only [List.set_cons_zero, List.set_cons_succ]
      refine wpAnyH_ready (rs := [3]) (by kernel_rfl) (by simp) ?_
      refine AllReadyH.cons rfl (fun K hK => ?_) AllReadyH.nil
      go_simp
      go_at_call 12
      refine (RC.out _ (by exact (Below.refl _ _).drew)).mono ?_
      rintro e x1 ⟨⟨Ar, ntr, ctr, Rr, nrr, crr, Sr, nsr, csr⟩, rfl, hmr, hbx⟩
      have hb1 := (Below.refl V6.heap.size V6).drew.trans (hbx.mono (by simp))
      have hsm := jsame_any ⟨Ar, ntr, ctr, Rr, nrr, crr, Sr, nsr, csr⟩ ⟨A0, nt, ct, R, nr, cr, S, ns, cs⟩ pc.1 r x1 hmr (MP6.out.below hb1) LOWc.out (congrArg Jp.Rn.rings EQC.out) (congrArg Jp.Rn.rows EQC.out) (congrArg Jp.Rn.on EQC.out)
      unfold jv at hsm
      simp only at hsm
      have SM := Lib.hid hsm
      clear hsm hmr
      unfold jv
      simp only
      refine hK.out _ _ (by exact ⟨YP6.out.step hb1, Yc6.out.step hb1⟩) (fun hHeld => ?_)
      clear hK K hbx
      try dsimp only
      refine wpAnyH_ready (rs := [5]) (by kernel_rfl) (by simp) ?_
      refine AllReadyH.cons rfl (fun K hK => ?_) AllReadyH.nil
      go_simp
      go_at_call 11
      refine (SM.out).mono ?_
      rintro e x2 ⟨rfl, hbx⟩
      have hb2 := hb1.trans (hbx.mono hb1.size)
      refine hK.out _ _ (by exact ⟨YP6.out.step hb2, Yc6.out.step hb2⟩) (fun hHeld => ?_)
      clear hK K hbx
      try dsimp only
      refine wpAnyH_takesJ (i := 6) (v := (.bool true)) (some 67) rfl rfl (by kernel_rfl) (by kernel_rfl) (by kernel_rfl) (fun _ _ _ h => h) (Or.inl ⟨by rfl, (by intro W9 hSw; clear hSw; go_simp; first | done | with_reducible rfl)⟩) (by assumption) ?_
      simp only [Act.put, List.setIfInBounds_toArray]; try simp only [List.set_cons_zero, List.set_cons_succ]
      refine wpAnyH_takesJ (i := 7) (v := (.bool true)) (some 6) rfl rfl (by kernel_rfl) (by kernel_rfl) (by kernel_rfl) (fun _ _ _ h => h) (Or.inl ⟨by rfl, (by intro W9 hSw; clear hSw; go_simp; first | done | with_reducible rfl)⟩) (by assumption) ?_
      simp only [Act.put, List.setIfInBounds_toArray]; try simp only [List.set_cons_zero, List.set_cons_succ]
      refine wpAnyH_done (by kernel_rfl) ?_ _
      have BE := Lib.hid (held_trans BW6.out hb2)
      clear hb1 hb2
      go_wp2_with fail
      go_ret
      exact ⟨rfl, BE.out⟩
set_option maxRecDepth 100000 in
theorem lifted (os : Os) (started : os.Started) (H : Type) (enc : TypeId × Value → H) :
    ReturnsInHanded {} Tryd.checked os 6 .any (fun w args => (Rows.runsLastSpec.pre enc Tryd.prog Tryd.f6 [] false w args ∧ laidMetH Tryd.prog laidList w) ∧ sizedMet enc Tryd.prog Tryd.f6 (OpenSpec.ofChange Rows.runsLastSpec) false w args)
      (Rows.runsLastSpec.post enc Tryd.prog Tryd.f6 false true false false) := by
  refine returnsInHanded_of_change_and (C := Tryd.checked) (X := fun w _ => laidMetH Tryd.prog laidList w) (fun _ _ _ hh h => h.of_heap hh) own started (by kernel_rfl) Tryd.func6
    (ChangeSpec.witness_shaped (enc := enc) (C := Tryd.checked) (os := os) (X := fun w _ => laidMetH Tryd.prog laidList w) false (World.doorLaid Tryd.prog 14 os) #[.agg #[.slice none 0 0, .int .i64 0, .slice none 0 0, .slice none 0 0, .int .u64 0], .int .i64 0, .int .i64 0] 8 rfl (World.shaped_of_RefB (by kernel_rfl) (by kernel_rfl)) (by kernel_rfl) (by kernel_rfl) (by kernel_rfl) (door_met os _)) ?_
  intro W base args ds gs before hval0 hW _ _ hL _
  have hval : ∀ (j : Nat) t v, Tryd.f6.params[j]? = some t → args[j]? = some v → Value.okWide Tryd.prog W .any base t v := hval0
  have hW' := hW
  obtain ⟨p, q, hA0, hV, rfl, hfz, hnd⟩ := hW
  have hA : DataW.TrodAll enc Tryd.prog W 0 (fun _ => true) true Tryd.f6.params.toList args.toList ds p := hA0
  rw [Tryd.params6] at hA hval
  obtain ⟨v0, vs0, d0, ds0, p0, q0, hargs, rfl, rfl, h0, r0⟩ := trodAll_cons hA
  obtain ⟨v1, vs1, d1, ds1, p1, q1, rfl, rfl, rfl, h1, r1⟩ := trodAll_cons r0
  obtain ⟨v2, vs2, d2, ds2, p2, q2, rfl, rfl, rfl, h2, r2⟩ := trodAll_cons r1
  obtain ⟨rfl, rfl, rfl⟩ := trodAll_nil r2
  obtain rfl : args = #[v0, v1, v2] := by cases args; simp_all
  obtain ⟨rfl, rfl⟩ := trodVars_none hV
  have k0 := h0
  have lt0 : ∀ x ∈ p0, x.block < W.heap.size := by obtain ⟨m, hm⟩ := k0; exact DataW.trod_lt m _ _ _ hm
  obtain ⟨x0, y0, rfl, hr0⟩ := open_runs (hval 0 35 v0 rfl rfl) h0
  obtain ⟨a1, rfl, rfl, rfl, w1⟩ := open_int Tryd.underlying3 (hval 1 3 v1 rfl rfl) h1
  obtain ⟨a2, rfl, rfl, rfl, w2⟩ := open_int Tryd.underlying3 (hval 2 3 v2 rfl rfl) h2
  clear hA0 hval0
  refine (walk x0 y0 a1 a2 W hr0 (in64_of_wf w1) (in64_of_wf w2) (tab_of_laid hL)).mono fun e W' ⟨he, bel⟩ => ?_
  subst he
  exact ⟨_, rfl, _, _, _, [], _, [], hW', trodAll_mk1 (shut_bool Tryd.underlying4 _), (trodAll_cons_mk (Below.trod laidOut (by kernel_rfl) (of_decide_eq_true (by kernel_rfl)) k0 bel lt0) (trodAll_cons_mk (shut_int Tryd.underlying3 w1) (trodAll_cons_mk (shut_int Tryd.underlying3 w2) trodAll_mk0))), rfl, bel.frame _, fun h => by cases h⟩
theorem over : Rows.RunsLastSaid :=
  OpenClaim.holds_of_wide 6 Tryd.f6 rfl rfl rfl rfl rfl rfl rfl ⟨rfl, rfl, rfl, rfl, rfl⟩ rfl rfl rfl rfl rfl (by kernel_rfl) Tryd.func6 (by kernel_rfl)
    (of_decide_eq_true (by kernel_rfl)) (by unfold Func.isWrapper; first | (rw [if_pos (by decide +kernel)]; kernel_rfl) | (rw [if_neg (by decide +kernel)]; exact ⟨rfl, rfl⟩))
    (fun os started H enc _ => lifted os started H enc)
theorem proved : Rows.RunsLastCardSaid :=
  Claim7.holds_tied_plain_at .later [] [.data] true Rows.runsLastCard.stood.harness false
    over (fun _ h => by cases h) (by kernel_rfl) (fun _ h => by cases h) runsLast_row_tie rfl ⟨rfl, rfl⟩ (by kernel_rfl) rfl
    (fun f fn hf hfn => by
      obtain rfl : f = 6 := Option.some.inj ((show Tryd.prog.funcNamed "catafalque/catafalquelaw15.RunsLast" = some 6 by kernel_rfl).symm.trans hf) |>.symm
      obtain rfl : fn = Tryd.f6 := (Option.some.inj (Tryd.func6.symm.trans hfn)).symm
      exact ⟨by kernel_rfl, fun j t ht => by
        rw [Tryd.params6] at ht
        have hm : t ∈ [35, 3, 3] := by simpa using Array.mem_of_getElem? ht
        have hall : ([35, 3, 3].all fun u => !Tryd.prog.wantsStandIn u) = true := by kernel_rfl
        exact (show Tryd.prog.wantsStandIn t = false by simpa using List.all_eq_true.1 hall t hm)⟩)
    (by kernel_rfl)
end Go.Proofs.YtgloibgmaiadfaaDoor.runsLast

