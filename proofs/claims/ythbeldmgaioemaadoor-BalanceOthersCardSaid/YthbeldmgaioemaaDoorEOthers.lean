/- BalanceOthers: rows that are neither the longest nor the shortest stay as they were; who is moved was last, and stands last: the call answers true and changes nothing that was there; for every input. (Written by wip/gen/gen_elaws.py: change that.) -/
import Derived.Test.YthbeldmgaioemaaDoorEShown
import Derived.Test.YthbeldmgaioemaaDoorM7
import Derived.Test.YthbeldmgaioemaaDoorM8
import Derived.Test.YthbeldmgaioemaaDoorERefEnds
import Derived.Test.YthbeldmgaioemaaDoorM10
import Derived.Test.YthbeldmgaioemaaDoorJMade
import Derived.Test.YthbeldmgaioemaaDoorJFew
import Derived.Test.YthbeldmgaioemaaDoorM9
import Derived.Test.YthbeldmgaioemaaDoorM1
namespace Go.Proofs.YthbeldmgaioemaaDoor.balanceOthers
open Go.ChangeShapes Go.WideShapes Go.ChangeAt Go.RowKit
set_option linter.unusedVariables false

theorem yes_of {P : Prop} (h : P) : true = true ↔ P := ⟨fun _ => h, fun _ => rfl⟩
theorem bag_row (A B : Option Addr) (n m c d : Nat) (a b : List Int) (w : World) (hp : a.Perm b) (h : Row w A n c a) (hB : Row w B m d b) (hm : m ≤ 1000000) :
    Calls Tryd.prog 20 #[.slice A n c, .slice B m d] w fun e w' => e = .returned (.bool true) ∧ Below w.heap.size w w' := by
  have h1 := h.len
  have h2 := hB.len
  have h3 := hp.length_eq
  obtain rfl : n = m := by omega
  exact bag_any A B n c d a b w (Lib.hid hp) h hB (by omega)
set_option maxRecDepth 100000 in
set_option maxHeartbeats 4000000 in
theorem walk (d : Ad) (r : Jp.Rn) (w : World) (h : RMI (fun b => b < w.heap.size) w d r) (hT : Tab w) :
    Calls Tryd.prog 6 #[jv d r] w fun e w' => e = .returned (.bool true) ∧ Below w.heap.size w w' := by
  have HIN := Lib.hid h.2
  have HR := Lib.hid h.1
  have HTW := Lib.hid hT
  obtain ⟨A0, nt, ct, R, nr, cr, S, ns, cs⟩ := d
  obtain ⟨V, hV, hX, hB⟩ := B5.start w (.slice A0 nt ct) (.int .i64 r.size) (.slice R nr cr) (.slice S ns cs) (.int .u64 (r.on : Nat)) 27
  have E := Lib.hid hV
  have X0 := Lib.hid hX
  have B0 := Lib.hid hB
  have SH := Lib.hid (eshown_any V (hT.step hB))
  clear h hT hV hX hB
  unfold jv
  go_enter Tryd.func6, Tryd.ntmps6
  go_wp2_with (rw [← E.out])
  clear E
  refine SH.out.mono ?_
  rintro e w1 ⟨rfl, hb1⟩
  have X1 := Lib.hid (X0.out.step hb1)
  have B1 := Lib.hid (held_trans B0.out hb1)
  have p0 := X1.out.c0
  have p1 := X1.out.c1
  have p2 := X1.out.c2
  have p3 := X1.out.c3
  have p4 := X1.out.c4
  have hFW := fun T HT => few_any ⟨A0, nt, ct, R, nr, cr, S, ns, cs⟩ r T w1 HT (HR.out.below B1.out) HIN.out
  unfold jv at hFW
  simp only at hFW
  have FW := Lib.hid hFW
  clear hb1 SH X0 B0 hFW
  go_wp2_with fail
  by_cases hfew : ¬ FewP r
  · refine (FW.out false (Lib.hid (by simp [hfew]))).mono ?_
    rintro e w2 ⟨rfl, hb2⟩
    have BE := Lib.hid (held_trans B1.out hb2)
    go_wp2_with fail
    go_ret
    exact ⟨rfl, BE.out⟩
  have hfew := Classical.not_not.1 hfew
  have HFEW := Lib.hid hfew
  refine (FW.out true (Lib.hid (by simp [hfew]))).mono ?_
  rintro e w2a ⟨rfl, hb2⟩
  have X2a := Lib.hid (X1.out.step hb2)
  have B2a := Lib.hid (held_trans B1.out hb2)
  have p0 := X2a.out.c0
  have p1 := X2a.out.c1
  have p2 := X2a.out.c2
  have p3 := X2a.out.c3
  have p4 := X2a.out.c4
  obtain ⟨Tb, hTb⟩ : ∃ Tb : Bool, (Tb = true ↔ Jp.May r) := by
    by_cases h : Jp.May r
    · exact ⟨true, by simp [h]⟩
    · exact ⟨false, by simp [h]⟩
  have HTB := Lib.hid hTb
  have hMY := jrefMay_any ⟨A0, nt, ct, R, nr, cr, S, ns, cs⟩ r Tb w2a HTB (HR.out.below B2a.out) HFEW.out.low
  unfold jv at hMY
  simp only at hMY
  have MY := Lib.hid hMY
  clear hb2 FW X1 B1 hfew hMY hTb
  go_wp2_with fail
  refine MY.out.mono ?_
  rintro e w2 ⟨rfl, hb2⟩
  have X2 := Lib.hid (X2a.out.step hb2)
  have B2 := Lib.hid (held_trans B2a.out hb2)
  have p0 := X2.out.c0
  have p1 := X2.out.c1
  have p2 := X2.out.c2
  have p3 := X2.out.c3
  have p4 := X2.out.c4
  clear hb2 MY X2a B2a
  cases Tb
  · have BE := B2
    go_wp2_with fail
    go_ret
    exact ⟨rfl, BE.out⟩
  have HMAY := Lib.hid (HTB.out.1 rfl)
  clear HTB
  have hMD := jmade_any ⟨A0, nt, ct, R, nr, cr, S, ns, cs⟩ r w2 (HR.out.below B2.out) (fun b hb => Nat.lt_of_lt_of_le hb B2.out.size) HFEW.out.low
  unfold jv at hMD
  simp only at hMD
  have MD := Lib.hid hMD
  clear hMD
  go_wp2_with fail
  refine MD.out.mono ?_
  rintro e w3 ⟨⟨A1, nt1, ct1, R1, nr1, cr1, S1, ns1, cs1⟩, rfl, hm3, hb3⟩
  unfold jv
  simp only
  have hbn := below_new w3 (.cells #[.slice A1 nt1 ct1, .int .i64 r.size, .slice R1 nr1 cr1, .slice S1 ns1 cs1, .int .u64 (r.on : Nat)] 33)
  have hY := B5.new w3 (.slice A1 nt1 ct1) (.int .i64 r.size) (.slice R1 nr1 cr1) (.slice S1 ns1 cs1) (.int .u64 (r.on : Nat)) 33
  obtain ⟨V4, hV4⟩ : ∃ V4, V4 = w3.alloc (.cells #[.slice A1 nt1 ct1, .int .i64 r.size, .slice R1 nr1 cr1, .slice S1 ns1 cs1, .int .u64 (r.on : Nat)] 33) := ⟨_, rfl⟩
  rw [← hV4] at hbn hY
  have E4 := Lib.hid hV4
  have B4 := Lib.hid (held_trans (held_trans B2.out hb3) hbn)
  have P4 := Lib.hid ((X2.out.step hb3).step hbn)
  have Y4 := Lib.hid hY
  have M4 := Lib.hid (show RM (fun b => b < w3.heap.size) V4 ⟨A1, nt1, ct1, R1, nr1, cr1, S1, ns1, cs1⟩ r from (hm3.bound.mono (fun b hb => hb.2)).below hbn)
  have HX4 := Lib.hid (show w3.heap.size < V4.heap.size from hY.lt)
  have HWX := Lib.hid (show w.heap.size ≤ w3.heap.size from (held_trans B2.out hb3).size)
  clear hm3 hb3 hbn hY hV4 MD X2 B2 p0 p1 p2 p3 p4
  have YP4 := P4
  have YX4 := Y4
  have MX4 := M4
  have MP4 := Lib.hid (HR.out.below B4.out)
  have BW4 := B4
  have HLW := Lib.hid HFEW.out.low
  clear P4 Y4 M4 B4
  have hne := Jp.rows_some HMAY.out
  obtain ⟨lg, hlg⟩ : ∃ l, l = Jp.long r.rows := ⟨_, rfl⟩
  obtain ⟨sd, hsd⟩ : ∃ l, l = Jp.short r.rows := ⟨_, rfl⟩
  have hlgn := Jp.long_lt hne
  have hsdn := Jp.short_lt hne
  rw [← hlg] at hlgn
  rw [← hsd] at hsdn
  obtain ⟨mv, hmv⟩ : ∃ m, m = Jp.moved r.rows := ⟨_, rfl⟩
  obtain ⟨b1, hb1⟩ : ∃ x, x = (Jp.bal r).1 := ⟨_, rfl⟩
  have HBE := Lib.hid (show Jp.bal r = (b1, ((mv : Nat) : Int)) from by rw [hb1, hmv, Jp.bal_may HMAY.out, Jp.balOn_is])
  have HB1 := Lib.hid (show b1 = { r with rows := Jp.even r.rows } from by rw [hb1, Jp.bal_may HMAY.out, Jp.balOn_is])
  have HEN := Lib.hid (show Jp.ends r = ((lg : Int), (sd : Int)) from by unfold Jp.ends; rw [if_neg (fun h => hne (List.length_eq_zero_iff.1 h)), hlg, hsd])
  have HLA := Lib.hid (show Low b1 from by rw [hb1]; exact low_bal HLW.out)
  have HMB := Lib.hid (show Jp.May b1 from by rw [hb1]; exact Jp.bal_stays HMAY.out)
  have HPM := Lib.hid (show (Jp.all b1).Perm (Jp.all r) from by rw [hb1]; exact Jp.bal_all HMAY.out)
  have HLG := Lib.hid hlg
  have HSD := Lib.hid hsd
  have HLN := Lib.hid hlgn
  have HSN := Lib.hid hsdn
  have HMV := Lib.hid hmv
  have HNE := Lib.hid hne
  have HRL := Lib.hid (show b1.rows.length = r.rows.length from by rw [HB1.out]; exact Jp.even_length _)
  clear hne hlg hsd hlgn hsdn hmv hb1
  have hcc := balEnds_any ⟨A1, nt1, ct1, R1, nr1, cr1, S1, ns1, cs1⟩ r V4 MX4.out HLW.out
  rw [HEN.out] at hcc
  unfold jv at hcc
  simp only at hcc
  have C5 := Lib.hid hcc
  clear hcc
  have t0 := YX4.out.c0
  have t1 := YX4.out.c1
  have t2 := YX4.out.c2
  have t3 := YX4.out.c3
  have t4 := YX4.out.c4
  go_wp2_with (rw [← E4.out])
  clear E4
  refine C5.out.mono ?_
  rintro e V5 ⟨rfl, hb⟩
  have YP5 := Lib.hid (YP4.out.step hb)
  have MP5 := Lib.hid (MP4.out.below hb)
  have YX5 := Lib.hid (YX4.out.step hb)
  have MX5 := Lib.hid (MX4.out.below hb)
  have BW5 := Lib.hid (held_trans BW4.out hb)
  clear BW4 YP4 MP4 YX4 MX4 
  clear hb C5 t0 t1 t2 t3 t4
  have hcc := balBalance_any ⟨A1, nt1, ct1, R1, nr1, cr1, S1, ns1, cs1⟩ r V5 MX5.out (fun b hb => Nat.lt_trans hb YX5.out.lt) HLW.out (HTW.out.step BW5.out)
  rw [HBE.out] at hcc
  unfold jv at hcc
  simp only at hcc
  have C6 := Lib.hid hcc
  clear hcc
  have t0 := YX5.out.c0
  have t1 := YX5.out.c1
  have t2 := YX5.out.c2
  have t3 := YX5.out.c3
  have t4 := YX5.out.c4
  go_wp2_with fail
  refine C6.out.mono ?_
  rintro e u6 ⟨⟨T6, nt6, ct6, R6, nr6, cr6, S6, ns6, cs6⟩, rfl, hm, hb⟩
  unfold jv
  simp only
  have hbn := below_new u6 (.cells #[.slice T6 nt6 ct6, .int .i64 b1.size, .slice R6 nr6 cr6, .slice S6 ns6 cs6, .int .u64 (b1.on : Nat)] 33)
  have hY := B5.new u6 (.slice T6 nt6 ct6) (.int .i64 b1.size) (.slice R6 nr6 cr6) (.slice S6 ns6 cs6) (.int .u64 (b1.on : Nat)) 33
  obtain ⟨V6, hV⟩ : ∃ V6, V6 = u6.alloc (.cells #[.slice T6 nt6 ct6, .int .i64 b1.size, .slice R6 nr6 cr6, .slice S6 ns6 cs6, .int .u64 (b1.on : Nat)] 33) := ⟨_, rfl⟩
  rw [← hV] at hbn hY
  have E6 := Lib.hid hV
  have hbj := hb.trans (hbn.mono hb.size)
  have YP6 := Lib.hid (YP5.out.step hbj)
  have MP6 := Lib.hid (MP5.out.below hbj)
  have YX6 := Lib.hid (YX5.out.step hbj)
  have MX6 := Lib.hid (MX5.out.below hbj)
  have BW6 := Lib.hid (held_trans BW5.out hbj)
  clear BW5 YP5 MP5 YX5 MX5 
  have Ya6 := Lib.hid hY
  have Ma6 := Lib.hid ((hm.bound.mono (G := fun b => b < u6.heap.size) (fun b hb => hb.2)).below hbn)
  clear hV hY hbn hm hb hbj C6 t0 t1 t2 t3 t4
  replace Ma6 := Lib.hid (show RM (fun b => b < u6.heap.size) V6 ⟨T6, nt6, ct6, R6, nr6, cr6, S6, ns6, cs6⟩ b1 from Ma6.out)
  have hnx := MX6.out.ns
  have hna := Ma6.out.ns
  simp only at hnx hna
  have e0 : ((ns6 : Int) != (ns1 : Int)) = false := by
    have h1 : ns6 = ns1 := by rw [← hna.1, ← hnx.1]; exact HRL.out
    rw [h1]; simp
  have HNX := Lib.hid hnx.1
  have HNA := Lib.hid (hna.1.symm.trans HRL.out)
  clear hnx hna
  have m1 : ¬ (lg : Int) < 0 := by omega
  have m2 : ¬ (sd : Int) < 0 := by omega
  have hl1 : lg < ns1 := by have := HLN.out; have := HNX.out; omega
  have hs1 : sd < ns1 := by have := HSN.out; have := HNX.out; omega
  have m3 : ¬ (ns1 : Int) ≤ (lg : Int) := by omega
  have m4 : ¬ (ns1 : Int) ≤ (sd : Int) := by omega
  have m5 : decide (ns1 ≤ lg) = false := decide_eq_false (by omega)
  have m6 : decide (ns1 ≤ sd) = false := decide_eq_false (by omega)
  have m7 : (0 : Int) ≤ (lg : Int) := by omega
  have m8 : (0 : Int) ≤ (sd : Int) := by omega
  have m9 : (lg : Int) < (ns1 : Int) := by omega
  have m10 : (sd : Int) < (ns1 : Int) := by omega
  have m11 : (lg : Int) < (ns6 : Int) := by have := HNA.out; have := HLN.out; omega
  have m12 : (sd : Int) < (ns6 : Int) := by have := HNA.out; have := HSN.out; omega
  have t3 := YX6.out.c3
  have s3 := Ya6.out.c3
  have hns64 : ns1 ≤ 64 := by have := HLW.out.rows; have := HNX.out; omega
  obtain ⟨nl, hnl⟩ : ∃ n, n = Jp.rlen r.rows lg := ⟨_, rfl⟩
  obtain ⟨nd2, hnd2⟩ : ∃ n, n = Jp.rlen b1.rows sd := ⟨_, rfl⟩
  have HNL := Lib.hid hnl
  have HND2 := Lib.hid hnd2
  have hn4 : nl ≤ 400 := by rw [hnl]; exact HLW.out.row _ (List.mem_of_getElem? (Jp.row_at HLN.out))
  have hd4 : nd2 ≤ 400 := by rw [hnd2]; exact HLA.out.row _ (List.mem_of_getElem? (Jp.row_at (by have := HSN.out; have := HRL.out; show sd < b1.rows.length; omega)))
  have hmv4 : mv ≤ nl := by rw [hnl, HMV.out, HLG.out]; exact Jp.moved_le _
  have HQ := Lib.hid (show mv ≤ nl ∧ (mv ≠ 0 → mv ≤ nd2) from ⟨hmv4, fun h => by rw [hnd2, HMV.out, HB1.out, HSD.out]; exact Jp.short_room HNE.out (by rw [← HMV.out]; exact h)⟩)
  have m13 : ¬ (nl : Int) < (mv : Int) := by omega
  have m14 : decide (nl < mv) = false := decide_eq_false (by omega)
  have m15 : decide ((nl : Int) < (mv : Int)) = false := decide_eq_false m13
  obtain ⟨fS, fO, fA, fc, hfS, hf0, hfR⟩ := MX6.out.rowC (i := lg) (by have := HLN.out; omega)
  simp only at hfS
  obtain ⟨gS, gO, gA, gc, hgS, hg0, hgR⟩ := Ma6.out.rowC (i := sd) (by have := HSN.out; have := HRL.out; omega)
  simp only at hgS
  rw [← HNL.out] at hf0 hfR
  rw [← HND2.out] at hg0 hgR
  rw [hfS] at t3
  rw [hgS] at s3
  have HFS := Lib.hid hfS
  have HGS := Lib.hid hgS
  have TX3 := Lib.hid t3
  have TA3 := Lib.hid s3
  have HF0 := Lib.hid hf0
  have HG0 := Lib.hid hg0
  have HFR := Lib.hid hfR
  have HGR := Lib.hid hgR
  have hmv400 : mv ≤ 400 := by omega
  clear hnl hnd2 hmv4 hfS hgS hfR hgR
  go_wp2_with (rw [← E6.out])
  clear E6
  clear t3 s3 e0 m1 m2 m3 m4 m5 m6 m13 m14 m15 hf0 hg0
  go_loopw [9] (fun i wr => ∃ m : Nat, m ≤ ns1 ∧ i = .int .i64 m ∧ Hid (Below V6.heap.size V6 wr)) (fun i _ => ns1 - (intOf i).toNat)
  case atStart => exact ⟨0, Nat.zero_le _, rfl, Lib.hid (Below.refl _ _)⟩
  case round =>
    obtain ⟨m, hm, rfl, HA⟩ := hrel
    obtain ⟨wo, rfl⟩ : ∃ wo : World, wo = wr := ⟨_, rfl⟩
    have hx3 := keepcell HA.out TX3.out
    have ha3 := keepcell HA.out TA3.out
    by_cases hlt : m < ns1
    · have l1 : (m : Int) < (ns1 : Int) := by omega
      have l2 : (m : Int) < (ns6 : Int) := by have := HNA.out; have := HNX.out; omega
      have l0 : (0 : Int) ≤ (m : Int) := by omega
      obtain ⟨xb, xo, xA, xc, hxS, hxq, hxR⟩ := MX6.out.rowC (i := m) (by have := HNX.out; omega)
      obtain ⟨yb, yo, yA, yc, hyS, hyq, hyR⟩ := Ma6.out.rowC (i := m) (by have := HNX.out; have := HRL.out; omega)
      simp only at hxS hyS
      have exS := HFS.out.symm.trans hxS
      have eyS := HGS.out.symm.trans hyS
      injection exS with exS
      injection exS with e1 e2 _
      subst e1 e2
      injection eyS with eyS
      injection eyS with e1 e2 _
      subst e1 e2
      have hxc := keepcell HA.out hxq
      have hyc := keepcell HA.out hyq
      have HX := Lib.hid (hxR.below HA.out)
      have HY := Lib.hid (hyR.below HA.out)
      obtain ⟨nx, hnx⟩ : ∃ n, n = Jp.rlen r.rows m := ⟨_, rfl⟩
      obtain ⟨ny, hny⟩ : ∃ n, n = Jp.rlen b1.rows m := ⟨_, rfl⟩
      rw [← hnx] at hxc HX
      rw [← hny] at hyc HY
      have HROW := Lib.hid (show m ≠ lg → m ≠ sd → (b1.rows[m]?.getD []).Perm (r.rows[m]?.getD []) from fun h1 h2 => by
        have h := Jp.bal_other HMAY.out (m := m) (by rw [← HLG.out]; exact h1) (by rw [← HSD.out]; exact h2)
        rw [HBE.out] at h
        rw [h])
      have HNX4 := Lib.hid (show nx ≤ 400 from by rw [hnx]; exact HLW.out.row _ (List.mem_of_getElem? (Jp.row_at (by have := HNX.out; omega))))
      clear hxS hyS hxq hyq hxR hyR hnx hny hm
      go_wp2_with fail
      by_cases e1 : m = lg
      · have z1 : ((m : Int) != (lg : Int)) = false := by rw [e1]; simp
        clear e1
        refine wp_region_held_drew (S := fun w' => True) (by kernel_rfl) trivial (fun hHeld => ?_)
        refine wpAnyH_takesJ (i := 0) (v := (.int .i64 (m : Nat))) (some 81) rfl rfl (by kernel_rfl) (by kernel_rfl) (by kernel_rfl) (fun _ _ _ h => h) (Or.inl ⟨by rfl, (by intro W9 hSw; clear hSw; go_simp; first | done | with_reducible rfl)⟩) (by assumption) ?_
        simp only [Act.put, List.setIfInBounds_toArray]; try simp only [List.set_cons_zero, List.set_cons_succ]
        refine wpAnyH_takesJ (i := 1) (v := (.int .i64 (lg : Nat))) (some 82) rfl rfl (by kernel_rfl) (by kernel_rfl) (by kernel_rfl) (fun _ _ _ h => h) (Or.inl ⟨by rfl, (by intro W9 hSw; clear hSw; go_simp; first | done | with_reducible rfl)⟩) (by assumption) ?_
        simp only [Act.put, List.setIfInBounds_toArray]; try simp only [List.set_cons_zero, List.set_cons_succ]
        refine wpAnyH_takesJ (i := 2) (v := (.bool false)) (some 83) rfl rfl (by kernel_rfl) (by kernel_rfl) (by kernel_rfl) (fun _ _ _ h => h) (Or.inl ⟨by rfl, (by intro W9 hSw; clear hSw; go_simp; first | done | with_reducible rfl)⟩) (by assumption) ?_
        simp only [Act.put, List.setIfInBounds_toArray]; try simp only [List.set_cons_zero, List.set_cons_succ]
        refine wpAnyH_takesJ (i := 3) (v := (.bool false)) (some 84) rfl rfl (by kernel_rfl) (by kernel_rfl) (by kernel_rfl) (fun _ _ _ h => h) (Or.inl ⟨by rfl, (by intro W9 hSw; clear hSw; go_simp; first | done | with_reducible rfl)⟩) (by assumption) ?_
        simp only [Act.put, List.setIfInBounds_toArray]; try simp only [List.set_cons_zero, List.set_cons_succ]
        refine wpAnyH_takesJ (i := 4) (v := undef) (some 85) rfl rfl (by kernel_rfl) (by kernel_rfl) (by kernel_rfl) (fun _ _ _ h => h) (Or.inr ⟨by rfl, rfl⟩) (by assumption) ?_
        simp only [Act.put, List.setIfInBounds_toArray]; try simp only [List.set_cons_zero, List.set_cons_succ]
        refine wpAnyH_takesJ (i := 5) (v := undef) (some 86) rfl rfl (by kernel_rfl) (by kernel_rfl) (by kernel_rfl) (fun _ _ _ h => h) (Or.inr ⟨by rfl, rfl⟩) (by assumption) ?_
        simp only [Act.put, List.setIfInBounds_toArray]; try simp only [List.set_cons_zero, List.set_cons_succ]
        refine wpAnyH_takesJ (i := 6) (v := undef) (some 87) rfl rfl (by kernel_rfl) (by kernel_rfl) (by kernel_rfl) (fun _ _ _ h => h) (Or.inr ⟨by rfl, rfl⟩) (by assumption) ?_
        simp only [Act.put, List.setIfInBounds_toArray]; try simp only [List.set_cons_zero, List.set_cons_succ]
        refine wpAnyH_takesJ (i := 7) (v := (.bool false)) (some 88) rfl rfl (by kernel_rfl) (by kernel_rfl) (by kernel_rfl) (fun _ _ _ h => h) (Or.inl ⟨by rfl, (by intro W9 hSw; clear hSw; go_simp; first | done | with_reducible rfl)⟩) (by assumption) ?_
        simp only [Act.put, List.setIfInBounds_toArray]; try simp only [List.set_cons_zero, List.set_cons_succ]
        refine wpAnyH_takesJ (i := 8) (v := (.bool false)) (some 89) rfl rfl (by kernel_rfl) (by kernel_rfl) (by kernel_rfl) (fun _ _ _ h => h) (Or.inl ⟨by rfl, (by intro W9 hSw; clear hSw; go_simp; first | done | with_reducible rfl)⟩) (by assumption) ?_
        simp only [Act.put, List.setIfInBounds_toArray]; try simp only [List.set_cons_zero, List.set_cons_succ]
        refine wpAnyH_takesJ (i := 9) (v := undef) (some 90) rfl rfl (by kernel_rfl) (by kernel_rfl) (by kernel_rfl) (fun _ _ _ h => h) (Or.inr ⟨by rfl, rfl⟩) (by assumption) ?_
        simp only [Act.put, List.setIfInBounds_toArray]; try simp only [List.set_cons_zero, List.set_cons_succ]
        refine wpAnyH_takesJ (i := 10) (v := undef) (some 91) rfl rfl (by kernel_rfl) (by kernel_rfl) (by kernel_rfl) (fun _ _ _ h => h) (Or.inr ⟨by rfl, rfl⟩) (by assumption) ?_
        simp only [Act.put, List.setIfInBounds_toArray]; try simp only [List.set_cons_zero, List.set_cons_succ]
        refine wpAnyH_takesJ (i := 11) (v := undef) (some 92) rfl rfl (by kernel_rfl) (by kernel_rfl) (by kernel_rfl) (fun _ _ _ h => h) (Or.inr ⟨by rfl, rfl⟩) (by assumption) ?_
        simp only [Act.put, List.setIfInBounds_toArray]; try simp only [List.set_cons_zero, List.set_cons_succ]
        refine wpAnyH_takesJ (i := 12) (v := undef) (some 93) rfl rfl (by kernel_rfl) (by kernel_rfl) (by kernel_rfl) (fun _ _ _ h => h) (Or.inr ⟨by rfl, rfl⟩) (by assumption) ?_
        simp only [Act.put, List.setIfInBounds_toArray]; try simp only [List.set_cons_zero, List.set_cons_succ]
        refine wpAnyH_takesJ (i := 13) (v := undef) (some 94) rfl rfl (by kernel_rfl) (by kernel_rfl) (by kernel_rfl) (fun _ _ _ h => h) (Or.inr ⟨by rfl, rfl⟩) (by assumption) ?_
        simp only [Act.put, List.setIfInBounds_toArray]; try simp only [List.set_cons_zero, List.set_cons_succ]
        refine wpAnyH_takesJ (i := 14) (v := undef) (some 95) rfl rfl (by kernel_rfl) (by kernel_rfl) (by kernel_rfl) (fun _ _ _ h => h) (Or.inr ⟨by rfl, rfl⟩) (by assumption) ?_
        simp only [Act.put, List.setIfInBounds_toArray]; try simp only [List.set_cons_zero, List.set_cons_succ]
        refine wpAnyH_takesJ (i := 15) (v := undef) (some 96) rfl rfl (by kernel_rfl) (by kernel_rfl) (by kernel_rfl) (fun _ _ _ h => h) (Or.inr ⟨by rfl, rfl⟩) (by assumption) ?_
        simp only [Act.put, List.setIfInBounds_toArray]; try simp only [List.set_cons_zero, List.set_cons_succ]
        refine wpAnyH_takesJ (i := 16) (v := undef) (some 97) rfl rfl (by kernel_rfl) (by kernel_rfl) (by kernel_rfl) (fun _ _ _ h => h) (Or.inr ⟨by rfl, rfl⟩) (by assumption) ?_
        simp only [Act.put, List.setIfInBounds_toArray]; try simp only [List.set_cons_zero, List.set_cons_succ]
        refine wpAnyH_takesJ (i := 17) (v := undef) (some 98) rfl rfl (by kernel_rfl) (by kernel_rfl) (by kernel_rfl) (fun _ _ _ h => h) (Or.inr ⟨by rfl, rfl⟩) (by assumption) ?_
        simp only [Act.put, List.setIfInBounds_toArray]; try simp only [List.set_cons_zero, List.set_cons_succ]
        refine wpAnyH_takesJ (i := 18) (v := undef) (some 99) rfl rfl (by kernel_rfl) (by kernel_rfl) (by kernel_rfl) (fun _ _ _ h => h) (Or.inr ⟨by rfl, rfl⟩) (by assumption) ?_
        simp only [Act.put, List.setIfInBounds_toArray]; try simp only [List.set_cons_zero, List.set_cons_succ]
        refine wpAnyH_takesJ (i := 19) (v := undef) (some 100) rfl rfl (by kernel_rfl) (by kernel_rfl) (by kernel_rfl) (fun _ _ _ h => h) (Or.inr ⟨by rfl, rfl⟩) (by assumption) ?_
        simp only [Act.put, List.setIfInBounds_toArray]; try simp only [List.set_cons_zero, List.set_cons_succ]
        refine wpAnyH_takesJ (i := 20) (v := undef) (some 101) rfl rfl (by kernel_rfl) (by kernel_rfl) (by kernel_rfl) (fun _ _ _ h => h) (Or.inr ⟨by rfl, rfl⟩) (by assumption) ?_
        simp only [Act.put, List.setIfInBounds_toArray]; try simp only [List.set_cons_zero, List.set_cons_succ]
        refine wpAnyH_takesJ (i := 21) (v := (.bool false)) (some 102) rfl rfl (by kernel_rfl) (by kernel_rfl) (by kernel_rfl) (fun _ _ _ h => h) (Or.inl ⟨by rfl, (by intro W9 hSw; clear hSw; go_simp; first | done | with_reducible rfl)⟩) (by assumption) ?_
        simp only [Act.put, List.setIfInBounds_toArray]; try simp only [List.set_cons_zero, List.set_cons_succ]
        refine wpAnyH_done (by kernel_rfl) ?_ _
        have HC2 := Lib.hid (HA.out.trans (((Below.refl wo.heap.size wo).drew).mono HA.out.size))
        clear hHeld hxc hyc hx3 ha3 l0 l2 z1
        go_wp2_with fail
        go_roundw
        case rel => exact ⟨m + 1, by omega, by go_num, HC2⟩
        case measure => simp [intOf]; omega
      have z1 : ((m : Int) != (lg : Int)) = true := by rw [bne_iff_ne]; omega
      by_cases e2 : m = sd
      · have z2 : ((m : Int) != (sd : Int)) = false := by rw [e2]; simp
        clear e2
        refine wp_region_held_drew (S := fun w' => True) (by kernel_rfl) trivial (fun hHeld => ?_)
        refine wpAnyH_takesJ (i := 0) (v := (.int .i64 (m : Nat))) (some 81) rfl rfl (by kernel_rfl) (by kernel_rfl) (by kernel_rfl) (fun _ _ _ h => h) (Or.inl ⟨by rfl, (by intro W9 hSw; clear hSw; go_simp; first | done | with_reducible rfl)⟩) (by assumption) ?_
        simp only [Act.put, List.setIfInBounds_toArray]; try simp only [List.set_cons_zero, List.set_cons_succ]
        refine wpAnyH_takesJ (i := 1) (v := (.int .i64 (lg : Nat))) (some 82) rfl rfl (by kernel_rfl) (by kernel_rfl) (by kernel_rfl) (fun _ _ _ h => h) (Or.inl ⟨by rfl, (by intro W9 hSw; clear hSw; go_simp; first | done | with_reducible rfl)⟩) (by assumption) ?_
        simp only [Act.put, List.setIfInBounds_toArray]; try simp only [List.set_cons_zero, List.set_cons_succ]
        refine wpAnyH_takesJ (i := 2) (v := (.bool true)) (some 83) rfl rfl (by kernel_rfl) (by kernel_rfl) (by kernel_rfl) (fun _ _ _ h => h) (Or.inl ⟨by rfl, (by intro W9 hSw; clear hSw; go_simp; first | done | with_reducible rfl)⟩) (by assumption) ?_
        simp only [Act.put, List.setIfInBounds_toArray]; try simp only [List.set_cons_zero, List.set_cons_succ]
        refine wpAnyH_takesJ (i := 3) (v := (.bool true)) (some 84) rfl rfl (by kernel_rfl) (by kernel_rfl) (by kernel_rfl) (fun _ _ _ h => h) (Or.inl ⟨by rfl, (by intro W9 hSw; clear hSw; go_simp; first | done | with_reducible rfl)⟩) (by assumption) ?_
        simp only [Act.put, List.setIfInBounds_toArray]; try simp only [List.set_cons_zero, List.set_cons_succ]
        refine wpAnyH_takesJ (i := 4) (v := (.int .i64 (m : Nat))) (some 85) rfl rfl (by kernel_rfl) (by kernel_rfl) (by kernel_rfl) (fun _ _ _ h => h) (Or.inl ⟨by rfl, (by intro W9 hSw; clear hSw; go_simp; first | done | with_reducible rfl)⟩) (by assumption) ?_
        simp only [Act.put, List.setIfInBounds_toArray]; try simp only [List.set_cons_zero, List.set_cons_succ]
        refine wpAnyH_takesJ (i := 5) (v := (.int .i64 (sd : Nat))) (some 86) rfl rfl (by kernel_rfl) (by kernel_rfl) (by kernel_rfl) (fun _ _ _ h => h) (Or.inl ⟨by rfl, (by intro W9 hSw; clear hSw; go_simp; first | done | with_reducible rfl)⟩) (by assumption) ?_
        simp only [Act.put, List.setIfInBounds_toArray]; try simp only [List.set_cons_zero, List.set_cons_succ]
        refine wpAnyH_takesJ (i := 6) (v := (.bool false)) (some 87) rfl rfl (by kernel_rfl) (by kernel_rfl) (by kernel_rfl) (fun _ _ _ h => h) (Or.inl ⟨by rfl, (by intro W9 hSw; clear hSw; go_simp; first | done | with_reducible rfl)⟩) (by assumption) ?_
        simp only [Act.put, List.setIfInBounds_toArray]; try simp only [List.set_cons_zero, List.set_cons_succ]
        refine wpAnyH_takesJ (i := 7) (v := (.bool false)) (some 88) rfl rfl (by kernel_rfl) (by kernel_rfl) (by kernel_rfl) (fun _ _ _ h => h) (Or.inl ⟨by rfl, (by intro W9 hSw; clear hSw; go_simp; first | done | with_reducible rfl)⟩) (by assumption) ?_
        simp only [Act.put, List.setIfInBounds_toArray]; try simp only [List.set_cons_zero, List.set_cons_succ]
        refine wpAnyH_takesJ (i := 8) (v := (.bool false)) (some 89) rfl rfl (by kernel_rfl) (by kernel_rfl) (by kernel_rfl) (fun _ _ _ h => h) (Or.inl ⟨by rfl, (by intro W9 hSw; clear hSw; go_simp; first | done | with_reducible rfl)⟩) (by assumption) ?_
        simp only [Act.put, List.setIfInBounds_toArray]; try simp only [List.set_cons_zero, List.set_cons_succ]
        refine wpAnyH_takesJ (i := 9) (v := undef) (some 90) rfl rfl (by kernel_rfl) (by kernel_rfl) (by kernel_rfl) (fun _ _ _ h => h) (Or.inr ⟨by rfl, rfl⟩) (by assumption) ?_
        simp only [Act.put, List.setIfInBounds_toArray]; try simp only [List.set_cons_zero, List.set_cons_succ]
        refine wpAnyH_takesJ (i := 10) (v := undef) (some 91) rfl rfl (by kernel_rfl) (by kernel_rfl) (by kernel_rfl) (fun _ _ _ h => h) (Or.inr ⟨by rfl, rfl⟩) (by assumption) ?_
        simp only [Act.put, List.setIfInBounds_toArray]; try simp only [List.set_cons_zero, List.set_cons_succ]
        refine wpAnyH_takesJ (i := 11) (v := undef) (some 92) rfl rfl (by kernel_rfl) (by kernel_rfl) (by kernel_rfl) (fun _ _ _ h => h) (Or.inr ⟨by rfl, rfl⟩) (by assumption) ?_
        simp only [Act.put, List.setIfInBounds_toArray]; try simp only [List.set_cons_zero, List.set_cons_succ]
        refine wpAnyH_takesJ (i := 12) (v := undef) (some 93) rfl rfl (by kernel_rfl) (by kernel_rfl) (by kernel_rfl) (fun _ _ _ h => h) (Or.inr ⟨by rfl, rfl⟩) (by assumption) ?_
        simp only [Act.put, List.setIfInBounds_toArray]; try simp only [List.set_cons_zero, List.set_cons_succ]
        refine wpAnyH_takesJ (i := 13) (v := undef) (some 94) rfl rfl (by kernel_rfl) (by kernel_rfl) (by kernel_rfl) (fun _ _ _ h => h) (Or.inr ⟨by rfl, rfl⟩) (by assumption) ?_
        simp only [Act.put, List.setIfInBounds_toArray]; try simp only [List.set_cons_zero, List.set_cons_succ]
        refine wpAnyH_takesJ (i := 14) (v := undef) (some 95) rfl rfl (by kernel_rfl) (by kernel_rfl) (by kernel_rfl) (fun _ _ _ h => h) (Or.inr ⟨by rfl, rfl⟩) (by assumption) ?_
        simp only [Act.put, List.setIfInBounds_toArray]; try simp only [List.set_cons_zero, List.set_cons_succ]
        refine wpAnyH_takesJ (i := 15) (v := undef) (some 96) rfl rfl (by kernel_rfl) (by kernel_rfl) (by kernel_rfl) (fun _ _ _ h => h) (Or.inr ⟨by rfl, rfl⟩) (by assumption) ?_
        simp only [Act.put, List.setIfInBounds_toArray]; try simp only [List.set_cons_zero, List.set_cons_succ]
        refine wpAnyH_takesJ (i := 16) (v := undef) (some 97) rfl rfl (by kernel_rfl) (by kernel_rfl) (by kernel_rfl) (fun _ _ _ h => h) (Or.inr ⟨by rfl, rfl⟩) (by assumption) ?_
        simp only [Act.put, List.setIfInBounds_toArray]; try simp only [List.set_cons_zero, List.set_cons_succ]
        refine wpAnyH_takesJ (i := 17) (v := undef) (some 98) rfl rfl (by kernel_rfl) (by kernel_rfl) (by kernel_rfl) (fun _ _ _ h => h) (Or.inr ⟨by rfl, rfl⟩) (by assumption) ?_
        simp only [Act.put, List.setIfInBounds_toArray]; try simp only [List.set_cons_zero, List.set_cons_succ]
        refine wpAnyH_takesJ (i := 18) (v := undef) (some 99) rfl rfl (by kernel_rfl) (by kernel_rfl) (by kernel_rfl) (fun _ _ _ h => h) (Or.inr ⟨by rfl, rfl⟩) (by assumption) ?_
        simp only [Act.put, List.setIfInBounds_toArray]; try simp only [List.set_cons_zero, List.set_cons_succ]
        refine wpAnyH_takesJ (i := 19) (v := undef) (some 100) rfl rfl (by kernel_rfl) (by kernel_rfl) (by kernel_rfl) (fun _ _ _ h => h) (Or.inr ⟨by rfl, rfl⟩) (by assumption) ?_
        simp only [Act.put, List.setIfInBounds_toArray]; try simp only [List.set_cons_zero, List.set_cons_succ]
        refine wpAnyH_takesJ (i := 20) (v := undef) (some 101) rfl rfl (by kernel_rfl) (by kernel_rfl) (by kernel_rfl) (fun _ _ _ h => h) (Or.inr ⟨by rfl, rfl⟩) (by assumption) ?_
        simp only [Act.put, List.setIfInBounds_toArray]; try simp only [List.set_cons_zero, List.set_cons_succ]
        refine wpAnyH_takesJ (i := 21) (v := (.bool false)) (some 102) rfl rfl (by kernel_rfl) (by kernel_rfl) (by kernel_rfl) (fun _ _ _ h => h) (Or.inl ⟨by rfl, (by intro W9 hSw; clear hSw; go_simp; first | done | with_reducible rfl)⟩) (by assumption) ?_
        simp only [Act.put, List.setIfInBounds_toArray]; try simp only [List.set_cons_zero, List.set_cons_succ]
        refine wpAnyH_done (by kernel_rfl) ?_ _
        have HC2 := Lib.hid (HA.out.trans (((Below.refl wo.heap.size wo).drew).mono HA.out.size))
        clear hHeld hxc hyc hx3 ha3 l0 l2 z1 z2
        go_wp2_with fail
        go_roundw
        case rel => exact ⟨m + 1, by omega, by go_num, HC2⟩
        case measure => simp [intOf]; omega
      have z2 : ((m : Int) != (sd : Int)) = true := by rw [bne_iff_ne]; omega
      have HPR := Lib.hid (HROW.out e1 e2)
      clear e1 e2
      refine wp_region_held_drew (S := fun w' => w'.cell? ⟨w3.heap.size, 3, none⟩ = some (.slice (some ⟨fS, fO, none⟩) ns1 cs1) ∧ w'.cell? ⟨u6.heap.size, 3, none⟩ = some (.slice (some ⟨gS, gO, none⟩) ns6 cs6) ∧ w'.cell? ⟨fS, fO + m, none⟩ = some (.slice xA nx xc) ∧ w'.cell? ⟨gS, gO + m, none⟩ = some (.slice yA ny yc)) (by kernel_rfl) ⟨hx3, ha3, hxc, hyc⟩ (fun hHeld => ?_)
      have hb1 := (Below.refl wo.heap.size wo).drew
      refine wpAnyH_takesJ (i := 0) (v := (.int .i64 (m : Nat))) (some 81) rfl rfl (by kernel_rfl) (by kernel_rfl) (by kernel_rfl) (fun _ _ _ h => h) (Or.inl ⟨by rfl, (by intro W9 hSw; (try dsimp only at hSw); go_simp; first | done | with_reducible rfl)⟩) (by assumption) ?_
      simp only [Act.put, List.setIfInBounds_toArray]; try simp only [List.set_cons_zero, List.set_cons_succ]
      refine wpAnyH_takesJ (i := 1) (v := (.int .i64 (lg : Nat))) (some 82) rfl rfl (by kernel_rfl) (by kernel_rfl) (by kernel_rfl) (fun _ _ _ h => h) (Or.inl ⟨by rfl, (by intro W9 hSw; (try dsimp only at hSw); go_simp; first | done | with_reducible rfl)⟩) (by assumption) ?_
      simp only [Act.put, List.setIfInBounds_toArray]; try simp only [List.set_cons_zero, List.set_cons_succ]
      refine wpAnyH_takesJ (i := 2) (v := (.bool true)) (some 83) rfl rfl (by kernel_rfl) (by kernel_rfl) (by kernel_rfl) (fun _ _ _ h => h) (Or.inl ⟨by rfl, (by intro W9 hSw; (try dsimp only at hSw); go_simp; first | done | with_reducible rfl)⟩) (by assumption) ?_
      simp only [Act.put, List.setIfInBounds_toArray]; try simp only [List.set_cons_zero, List.set_cons_succ]
      refine wpAnyH_takesJ (i := 3) (v := (.bool true)) (some 84) rfl rfl (by kernel_rfl) (by kernel_rfl) (by kernel_rfl) (fun _ _ _ h => h) (Or.inl ⟨by rfl, (by intro W9 hSw; (try dsimp only at hSw); go_simp; first | done | with_reducible rfl)⟩) (by assumption) ?_
      simp only [Act.put, List.setIfInBounds_toArray]; try simp only [List.set_cons_zero, List.set_cons_succ]
      refine wpAnyH_takesJ (i := 4) (v := (.int .i64 (m : Nat))) (some 85) rfl rfl (by kernel_rfl) (by kernel_rfl) (by kernel_rfl) (fun _ _ _ h => h) (Or.inl ⟨by rfl, (by intro W9 hSw; (try dsimp only at hSw); go_simp; first | done | with_reducible rfl)⟩) (by assumption) ?_
      simp only [Act.put, List.setIfInBounds_toArray]; try simp only [List.set_cons_zero, List.set_cons_succ]
      refine wpAnyH_takesJ (i := 5) (v := (.int .i64 (sd : Nat))) (some 86) rfl rfl (by kernel_rfl) (by kernel_rfl) (by kernel_rfl) (fun _ _ _ h => h) (Or.inl ⟨by rfl, (by intro W9 hSw; (try dsimp only at hSw); go_simp; first | done | with_reducible rfl)⟩) (by assumption) ?_
      simp only [Act.put, List.setIfInBounds_toArray]; try simp only [List.set_cons_zero, List.set_cons_succ]
      refine wpAnyH_takesJ (i := 6) (v := (.bool true)) (some 87) rfl rfl (by kernel_rfl) (by kernel_rfl) (by kernel_rfl) (fun _ _ _ h => h) (Or.inl ⟨by rfl, (by intro W9 hSw; (try dsimp only at hSw); go_simp; first | done | with_reducible rfl)⟩) (by assumption) ?_
      simp only [Act.put, List.setIfInBounds_toArray]; try simp only [List.set_cons_zero, List.set_cons_succ]
      refine wpAnyH_takesJ (i := 7) (v := (.bool true)) (some 88) rfl rfl (by kernel_rfl) (by kernel_rfl) (by kernel_rfl) (fun _ _ _ h => h) (Or.inl ⟨by rfl, (by intro W9 hSw; (try dsimp only at hSw); go_simp; first | done | with_reducible rfl)⟩) (by assumption) ?_
      simp only [Act.put, List.setIfInBounds_toArray]; try simp only [List.set_cons_zero, List.set_cons_succ]
      refine wpAnyH_takesJ (i := 8) (v := (.bool true)) (some 89) rfl rfl (by kernel_rfl) (by kernel_rfl) (by kernel_rfl) (fun _ _ _ h => h) (Or.inl ⟨by rfl, (by intro W9 hSw; (try dsimp only at hSw); go_simp; first | done | with_reducible rfl)⟩) (by assumption) ?_
      simp only [Act.put, List.setIfInBounds_toArray]; try simp only [List.set_cons_zero, List.set_cons_succ]
      refine wpAnyH_takesJ (i := 9) (v := (.pointer (some ⟨u6.heap.size, 3, none⟩))) (some 90) rfl rfl (by kernel_rfl) (by kernel_rfl) (by kernel_rfl) (fun _ _ _ h => h) (Or.inl ⟨by rfl, (by intro W9 hSw; (try dsimp only at hSw); go_simp; first | done | with_reducible rfl)⟩) (by assumption) ?_
      simp only [Act.put, List.setIfInBounds_toArray]; try simp only [List.set_cons_zero, List.set_cons_succ]
      refine wpAnyH_takesJ (i := 10) (v := (.slice (some ⟨gS, gO, none⟩) ns6 cs6)) (some 91) rfl rfl (by kernel_rfl) (by kernel_rfl) (by kernel_rfl) (fun _ _ _ h => h) (Or.inl ⟨by rfl, (by intro W9 hSw; (try dsimp only at hSw); go_simp; first | done | with_reducible rfl)⟩) (by assumption) ?_
      simp only [Act.put, List.setIfInBounds_toArray]; try simp only [List.set_cons_zero, List.set_cons_succ]
      refine wpAnyH_takesJ (i := 11) (v := (.int .i64 (m : Nat))) (some 92) rfl rfl (by kernel_rfl) (by kernel_rfl) (by kernel_rfl) (fun _ _ _ h => h) (Or.inl ⟨by rfl, (by intro W9 hSw; (try dsimp only at hSw); go_simp; first | done | with_reducible rfl)⟩) (by assumption) ?_
      simp only [Act.put, List.setIfInBounds_toArray]; try simp only [List.set_cons_zero, List.set_cons_succ]
      refine wpAnyH_takesJ (i := 12) (v := (.pointer (some ⟨gS, gO + m, none⟩))) (some 93) rfl rfl (by kernel_rfl) (by kernel_rfl) (by kernel_rfl) (fun _ _ _ h => h) (Or.inl ⟨by rfl, (by intro W9 hSw; (try dsimp only at hSw); go_simp; first | done | with_reducible rfl)⟩) (by assumption) ?_
      simp only [Act.put, List.setIfInBounds_toArray]; try simp only [List.set_cons_zero, List.set_cons_succ]
      refine wpAnyH_takesJ (i := 13) (v := (.slice yA ny yc)) (some 94) rfl rfl (by kernel_rfl) (by kernel_rfl) (by kernel_rfl) (fun _ _ _ h => h) (Or.inl ⟨by rfl, (by intro W9 hSw; (try dsimp only at hSw); go_simp; first | done | with_reducible rfl)⟩) (by assumption) ?_
      simp only [Act.put, List.setIfInBounds_toArray]; try simp only [List.set_cons_zero, List.set_cons_succ]
      refine wpAnyH_takesJ (i := 14) (v := (.pointer (some ⟨w3.heap.size, 3, none⟩))) (some 95) rfl rfl (by kernel_rfl) (by kernel_rfl) (by kernel_rfl) (fun _ _ _ h => h) (Or.inl ⟨by rfl, (by intro W9 hSw; (try dsimp only at hSw); go_simp; first | done | with_reducible rfl)⟩) (by assumption) ?_
      simp only [Act.put, List.setIfInBounds_toArray]; try simp only [List.set_cons_zero, List.set_cons_succ]
      refine wpAnyH_takesJ (i := 15) (v := (.slice (some ⟨fS, fO, none⟩) ns1 cs1)) (some 96) rfl rfl (by kernel_rfl) (by kernel_rfl) (by kernel_rfl) (fun _ _ _ h => h) (Or.inl ⟨by rfl, (by intro W9 hSw; (try dsimp only at hSw); go_simp; first | done | with_reducible rfl)⟩) (by assumption) ?_
      simp only [Act.put, List.setIfInBounds_toArray]; try simp only [List.set_cons_zero, List.set_cons_succ]
      refine wpAnyH_takesJ (i := 16) (v := (.int .i64 (m : Nat))) (some 97) rfl rfl (by kernel_rfl) (by kernel_rfl) (by kernel_rfl) (fun _ _ _ h => h) (Or.inl ⟨by rfl, (by intro W9 hSw; (try dsimp only at hSw); go_simp; first | done | with_reducible rfl)⟩) (by assumption) ?_
      simp only [Act.put, List.setIfInBounds_toArray]; try simp only [List.set_cons_zero, List.set_cons_succ]
      refine wpAnyH_takesJ (i := 17) (v := (.pointer (some ⟨fS, fO + m, none⟩))) (some 98) rfl rfl (by kernel_rfl) (by kernel_rfl) (by kernel_rfl) (fun _ _ _ h => h) (Or.inl ⟨by rfl, (by intro W9 hSw; (try dsimp only at hSw); go_simp; first | done | with_reducible rfl)⟩) (by assumption) ?_
      simp only [Act.put, List.setIfInBounds_toArray]; try simp only [List.set_cons_zero, List.set_cons_succ]
      refine wpAnyH_takesJ (i := 18) (v := (.slice xA nx xc)) (some 99) rfl rfl (by kernel_rfl) (by kernel_rfl) (by kernel_rfl) (fun _ _ _ h => h) (Or.inl ⟨by rfl, (by intro W9 hSw; (try dsimp only at hSw); go_simp; first | done | with_reducible rfl)⟩) (by assumption) ?_
      simp only [Act.put, List.setIfInBounds_toArray]; try simp only [List.set_cons_zero, List.set_cons_succ]
      refine wpAnyH_ready (rs := [19]) (by kernel_rfl) (by simp) ?_
      refine AllReadyH.cons rfl (fun K hK => ?_) AllReadyH.nil
      go_simp
      go_at_call 20
      refine (bag_row yA xA ny nx yc xc _ _ wo.drew HPR.out HY.out.drew HX.out.drew (by have := HNX4.out; omega)).mono ?_
      rintro e x2 ⟨rfl, hbx⟩
      have hb2 := hb1.trans (hbx.mono (by simp))
      refine hK.out _ _ (by exact ⟨keepcell hb2 hx3, keepcell hb2 ha3, keepcell hb2 hxc, keepcell hb2 hyc⟩) (fun hHeld => ?_)
      clear hK K hbx
      try dsimp only
      refine wpAnyH_takesJ (i := 20) (v := (.bool false)) (some 101) rfl rfl (by kernel_rfl) (by kernel_rfl) (by kernel_rfl) (fun _ _ _ h => h) (Or.inl ⟨by rfl, (by intro W9 hSw; (try dsimp only at hSw); go_simp; first | done | with_reducible rfl)⟩) (by assumption) ?_
      simp only [Act.put, List.setIfInBounds_toArray]; try simp only [List.set_cons_zero, List.set_cons_succ]
      refine wpAnyH_takesJ (i := 21) (v := (.bool false)) (some 102) rfl rfl (by kernel_rfl) (by kernel_rfl) (by kernel_rfl) (fun _ _ _ h => h) (Or.inl ⟨by rfl, (by intro W9 hSw; (try dsimp only at hSw); go_simp; first | done | with_reducible rfl)⟩) (by assumption) ?_
      simp only [Act.put, List.setIfInBounds_toArray]; try simp only [List.set_cons_zero, List.set_cons_succ]
      refine wpAnyH_done (by kernel_rfl) ?_ _
      have HC2 := Lib.hid (HA.out.trans (hb2.mono HA.out.size))
      clear hHeld hxc hyc hx3 ha3 l0 l2 z1 z2 hb1 hb2
      go_wp2_with fail
      go_roundw
      case rel => exact ⟨m + 1, by omega, by go_num, HC2⟩
      case measure => simp [intOf]; omega
    · obtain rfl : m = ns1 := by omega
      have hf := keepcell HA.out HF0.out
      have hg := keepcell HA.out HG0.out
      have HFW := Lib.hid (HFR.out.below HA.out)
      have HGW := Lib.hid (HGR.out.below HA.out)
      have BA := Lib.hid (held_trans BW6.out HA.out)
      have hQ1 := HQ.out.1
      have hn400 : nl ≤ 400 := hn4
      obtain ⟨kk, hkk⟩ : ∃ k, k = nl - mv := ⟨_, rfl⟩
      have w3' : IntKind.i64.wrap ((nl : Int) - (mv : Int)) = (kk : Int) := by rw [IntWalk.i64_in _ (by omega)]; omega
      have HKK := Lib.hid hkk
      have HXC := Lib.hid hx3
      have HAC := Lib.hid ha3
      have HFC := Lib.hid hf
      have HGC := Lib.hid hg
      clear hkk HA hQ1 hn400
      go_wp2_with fail
      clear w3'
      go_loopw [12] (fun i wr => ∃ c : Nat, c ≤ mv ∧ i = .int .i64 c ∧ Hid (Below wo.heap.size wo wr)) (fun i _ => mv - (intOf i).toNat)
      case atStart => exact ⟨0, Nat.zero_le _, rfl, Lib.hid (Below.refl _ _)⟩
      case round =>
        clear hx3 ha3 hf hg
        obtain ⟨c, hc, rfl, HC⟩ := hrel
        by_cases hcl : c < mv
        · have l1 : (c : Int) < (mv : Int) := by omega
          have hx3 := keepcell HC.out HXC.out
          have ha3 := keepcell HC.out HAC.out
          have hf := keepcell HC.out HFC.out
          have hg := keepcell HC.out HGC.out
          have hQ := HQ.out
          have hle : mv ≤ nd2 := hQ.2 (by omega)
          obtain ⟨d1, hd1⟩ : ∃ k, k = nd2 - mv := ⟨_, rfl⟩
          obtain ⟨p1, hp1⟩ : ∃ k, k = d1 + c := ⟨_, rfl⟩
          obtain ⟨p2, hp2⟩ : ∃ k, k = kk + c := ⟨_, rfl⟩
          have hkk := HKK.out
          have n1 : (0 : Int) ≤ (p1 : Int) := by omega
          have n2 : (p1 : Int) < (nd2 : Int) := by omega
          have n3 : (0 : Int) ≤ (p2 : Int) := by omega
          have n4 : (p2 : Int) < (nl : Int) := by omega
          have o1 : ¬ (nd2 : Int) < (mv : Int) := by omega
          have o2 : decide ((nd2 : Int) < (mv : Int)) = false := decide_eq_false o1
          have o3 : decide (nd2 < mv) = false := decide_eq_false (by omega)
          have o4 : IntKind.i64.wrap ((nd2 : Int) - (mv : Int)) = (d1 : Int) := by rw [IntWalk.i64_in _ (by omega)]; omega
          have o5 : IntKind.i64.wrap ((d1 : Int) + (c : Int)) = (p1 : Int) := by rw [IntWalk.i64_in _ (by omega)]; omega
          have o6 : IntKind.i64.wrap ((kk : Int) + (c : Int)) = (p2 : Int) := by rw [IntWalk.i64_in _ (by omega)]; omega
          obtain ⟨fb, fo, eF, _, hfc⟩ := (HFW.out.below HC.out).cells (by omega)
          obtain ⟨gb, go', eG, _, hgc⟩ := (HGW.out.below HC.out).cells (by omega)
          subst eF eG
          obtain ⟨y, hy⟩ : ∃ y, (r.rows[lg]?.getD [])[p2]? = some y := ⟨_, List.getElem?_eq_getElem (by have := HFW.out.len; omega)⟩
          have hy1 : (b1.rows[sd]?.getD [])[p1]? = some y := by
            have h := Jp.even_tail HNE.out (i := c) (by rw [← HMV.out]; exact hcl)
            rw [← HLG.out, ← HSD.out, ← HMV.out, ← show b1.rows = Jp.even r.rows from (by rw [HB1.out]), ← HNL.out, ← HND2.out] at h
            rw [show p1 = nd2 - mv + c by omega, h, show nl - mv + c = p2 by omega]
            exact hy
          have hcf := hfc p2 y hy
          have hcg := hgc p1 y hy1
          have HL1 := Lib.hid hcl
          clear hfc hgc hy hy1 hd1 hp1 hp2 hkk hle hQ hc hcl
          go_wp2_with fail
          refine wp_region_held_drew (S := fun w' => w'.cell? ⟨w3.heap.size, 3, none⟩ = some (.slice (some ⟨fS, fO, none⟩) m cs1) ∧ w'.cell? ⟨u6.heap.size, 3, none⟩ = some (.slice (some ⟨gS, gO, none⟩) ns6 cs6) ∧ w'.cell? ⟨fS, fO + lg, none⟩ = some (.slice (some ⟨fb, fo, none⟩) nl fc) ∧ w'.cell? ⟨gS, gO + sd, none⟩ = some (.slice (some ⟨gb, go', none⟩) nd2 gc) ∧ w'.cell? ⟨fb, fo + p2, none⟩ = some (.int .i64 y) ∧ w'.cell? ⟨gb, go' + p1, none⟩ = some (.int .i64 y)) (by kernel_rfl) ⟨hx3, ha3, hf, hg, hcf, hcg⟩ (fun hHeld => ?_)
          refine wpAnyH_takesJ (i := 0) (v := (.int .i64 (nd2 : Nat))) (some 122) rfl rfl (by kernel_rfl) (by kernel_rfl) (by kernel_rfl) (fun _ _ _ h => h) (Or.inl ⟨by rfl, (by intro W9 hSw; (try dsimp only at hSw); go_simp; first | done | with_reducible rfl)⟩) (by assumption) ?_
          simp only [Act.put, List.setIfInBounds_toArray]; try simp only [List.set_cons_zero, List.set_cons_succ]
          refine wpAnyH_takesJ (i := 1) (v := (.int .i64 (mv : Nat))) (some 123) rfl rfl (by kernel_rfl) (by kernel_rfl) (by kernel_rfl) (fun _ _ _ h => h) (Or.inl ⟨by rfl, (by intro W9 hSw; (try dsimp only at hSw); go_simp; first | done | with_reducible rfl)⟩) (by assumption) ?_
          simp only [Act.put, List.setIfInBounds_toArray]; try simp only [List.set_cons_zero, List.set_cons_succ]
          refine wpAnyH_takesJ (i := 2) (v := (.bool false)) (some 124) rfl rfl (by kernel_rfl) (by kernel_rfl) (by kernel_rfl) (fun _ _ _ h => h) (Or.inl ⟨by rfl, (by intro W9 hSw; (try dsimp only at hSw); go_simp; first | done | with_reducible rfl)⟩) (by assumption) ?_
          simp only [Act.put, List.setIfInBounds_toArray]; try simp only [List.set_cons_zero, List.set_cons_succ]
          refine wpAnyH_takesJ (i := 3) (v := (.bool false)) (some 125) rfl rfl (by kernel_rfl) (by kernel_rfl) (by kernel_rfl) (fun _ _ _ h => h) (Or.inl ⟨by rfl, (by intro W9 hSw; (try dsimp only at hSw); go_simp; first | done | with_reducible rfl)⟩) (by assumption) ?_
          simp only [Act.put, List.setIfInBounds_toArray]; try simp only [List.set_cons_zero, List.set_cons_succ]
          refine wpAnyH_takesJ (i := 4) (v := (.pointer (some ⟨u6.heap.size, 3, none⟩))) (some 126) rfl rfl (by kernel_rfl) (by kernel_rfl) (by kernel_rfl) (fun _ _ _ h => h) (Or.inl ⟨by rfl, (by intro W9 hSw; (try dsimp only at hSw); go_simp; first | done | with_reducible rfl)⟩) (by assumption) ?_
          simp only [Act.put, List.setIfInBounds_toArray]; try simp only [List.set_cons_zero, List.set_cons_succ]
          refine wpAnyH_takesJ (i := 5) (v := (.slice (some ⟨gS, gO, none⟩) ns6 cs6)) (some 127) rfl rfl (by kernel_rfl) (by kernel_rfl) (by kernel_rfl) (fun _ _ _ h => h) (Or.inl ⟨by rfl, (by intro W9 hSw; (try dsimp only at hSw); go_simp; first | done | with_reducible rfl)⟩) (by assumption) ?_
          simp only [Act.put, List.setIfInBounds_toArray]; try simp only [List.set_cons_zero, List.set_cons_succ]
          refine wpAnyH_takesJ (i := 6) (v := (.int .i64 (sd : Nat))) (some 128) rfl rfl (by kernel_rfl) (by kernel_rfl) (by kernel_rfl) (fun _ _ _ h => h) (Or.inl ⟨by rfl, (by intro W9 hSw; (try dsimp only at hSw); go_simp; first | done | with_reducible rfl)⟩) (by assumption) ?_
          simp only [Act.put, List.setIfInBounds_toArray]; try simp only [List.set_cons_zero, List.set_cons_succ]
          refine wpAnyH_takesJ (i := 7) (v := (.pointer (some ⟨gS, gO + sd, none⟩))) (some 129) rfl rfl (by kernel_rfl) (by kernel_rfl) (by kernel_rfl) (fun _ _ _ h => h) (Or.inl ⟨by rfl, (by intro W9 hSw; (try dsimp only at hSw); go_simp; first | done | with_reducible rfl)⟩) (by assumption) ?_
          simp only [Act.put, List.setIfInBounds_toArray]; try simp only [List.set_cons_zero, List.set_cons_succ]
          refine wpAnyH_takesJ (i := 8) (v := (.slice (some ⟨gb, go', none⟩) nd2 gc)) (some 130) rfl rfl (by kernel_rfl) (by kernel_rfl) (by kernel_rfl) (fun _ _ _ h => h) (Or.inl ⟨by rfl, (by intro W9 hSw; (try dsimp only at hSw); go_simp; first | done | with_reducible rfl)⟩) (by assumption) ?_
          simp only [Act.put, List.setIfInBounds_toArray]; try simp only [List.set_cons_zero, List.set_cons_succ]
          refine wpAnyH_takesJ (i := 9) (v := (.int .i64 (nd2 : Nat))) (some 131) rfl rfl (by kernel_rfl) (by kernel_rfl) (by kernel_rfl) (fun _ _ _ h => h) (Or.inl ⟨by rfl, (by intro W9 hSw; (try dsimp only at hSw); go_simp; first | done | with_reducible rfl)⟩) (by assumption) ?_
          simp only [Act.put, List.setIfInBounds_toArray]; try simp only [List.set_cons_zero, List.set_cons_succ]
          refine wpAnyH_takesJ (i := 10) (v := (.int .i64 (mv : Nat))) (some 132) rfl rfl (by kernel_rfl) (by kernel_rfl) (by kernel_rfl) (fun _ _ _ h => h) (Or.inl ⟨by rfl, (by intro W9 hSw; (try dsimp only at hSw); go_simp; first | done | with_reducible rfl)⟩) (by assumption) ?_
          simp only [Act.put, List.setIfInBounds_toArray]; try simp only [List.set_cons_zero, List.set_cons_succ]
          refine wpAnyH_takesJ (i := 11) (v := (.int .i64 (d1 : Nat))) (some 133) rfl rfl (by kernel_rfl) (by kernel_rfl) (by kernel_rfl) (fun _ _ _ h => h) (Or.inl ⟨by rfl, (by intro W9 hSw; (try dsimp only at hSw); go_simp; first | done | with_reducible rfl)⟩) (by assumption) ?_
          simp only [Act.put, List.setIfInBounds_toArray]; try simp only [List.set_cons_zero, List.set_cons_succ]
          refine wpAnyH_takesJ (i := 12) (v := (.int .i64 (c : Nat))) (some 134) rfl rfl (by kernel_rfl) (by kernel_rfl) (by kernel_rfl) (fun _ _ _ h => h) (Or.inl ⟨by rfl, (by intro W9 hSw; (try dsimp only at hSw); go_simp; first | done | with_reducible rfl)⟩) (by assumption) ?_
          simp only [Act.put, List.setIfInBounds_toArray]; try simp only [List.set_cons_zero, List.set_cons_succ]
          refine wpAnyH_takesJ (i := 13) (v := (.int .i64 (p1 : Nat))) (some 135) rfl rfl (by kernel_rfl) (by kernel_rfl) (by kernel_rfl) (fun _ _ _ h => h) (Or.inl ⟨by rfl, (by intro W9 hSw; (try dsimp only at hSw); go_simp; first | done | with_reducible rfl)⟩) (by assumption) ?_
          simp only [Act.put, List.setIfInBounds_toArray]; try simp only [List.set_cons_zero, List.set_cons_succ]
          refine wpAnyH_takesJ (i := 14) (v := (.pointer (some ⟨gb, go' + p1, none⟩))) (some 136) rfl rfl (by kernel_rfl) (by kernel_rfl) (by kernel_rfl) (fun _ _ _ h => h) (Or.inl ⟨by rfl, (by intro W9 hSw; (try dsimp only at hSw); go_simp; first | done | with_reducible rfl)⟩) (by assumption) ?_
          simp only [Act.put, List.setIfInBounds_toArray]; try simp only [List.set_cons_zero, List.set_cons_succ]
          refine wpAnyH_takesJ (i := 15) (v := (.int .i64 y)) (some 137) rfl rfl (by kernel_rfl) (by kernel_rfl) (by kernel_rfl) (fun _ _ _ h => h) (Or.inl ⟨by rfl, (by intro W9 hSw; (try dsimp only at hSw); go_simp; first | done | with_reducible rfl)⟩) (by assumption) ?_
          simp only [Act.put, List.setIfInBounds_toArray]; try simp only [List.set_cons_zero, List.set_cons_succ]
          refine wpAnyH_takesJ (i := 16) (v := (.pointer (some ⟨w3.heap.size, 3, none⟩))) (some 138) rfl rfl (by kernel_rfl) (by kernel_rfl) (by kernel_rfl) (fun _ _ _ h => h) (Or.inl ⟨by rfl, (by intro W9 hSw; (try dsimp only at hSw); go_simp; first | done | with_reducible rfl)⟩) (by assumption) ?_
          simp only [Act.put, List.setIfInBounds_toArray]; try simp only [List.set_cons_zero, List.set_cons_succ]
          refine wpAnyH_takesJ (i := 17) (v := (.slice (some ⟨fS, fO, none⟩) m cs1)) (some 139) rfl rfl (by kernel_rfl) (by kernel_rfl) (by kernel_rfl) (fun _ _ _ h => h) (Or.inl ⟨by rfl, (by intro W9 hSw; (try dsimp only at hSw); go_simp; first | done | with_reducible rfl)⟩) (by assumption) ?_
          simp only [Act.put, List.setIfInBounds_toArray]; try simp only [List.set_cons_zero, List.set_cons_succ]
          refine wpAnyH_takesJ (i := 18) (v := (.int .i64 (lg : Nat))) (some 140) rfl rfl (by kernel_rfl) (by kernel_rfl) (by kernel_rfl) (fun _ _ _ h => h) (Or.inl ⟨by rfl, (by intro W9 hSw; (try dsimp only at hSw); go_simp; first | done | with_reducible rfl)⟩) (by assumption) ?_
          simp only [Act.put, List.setIfInBounds_toArray]; try simp only [List.set_cons_zero, List.set_cons_succ]
          refine wpAnyH_takesJ (i := 19) (v := (.pointer (some ⟨fS, fO + lg, none⟩))) (some 141) rfl rfl (by kernel_rfl) (by kernel_rfl) (by kernel_rfl) (fun _ _ _ h => h) (Or.inl ⟨by rfl, (by intro W9 hSw; (try dsimp only at hSw); go_simp; first | done | with_reducible rfl)⟩) (by assumption) ?_
          simp only [Act.put, List.setIfInBounds_toArray]; try simp only [List.set_cons_zero, List.set_cons_succ]
          refine wpAnyH_takesJ (i := 20) (v := (.slice (some ⟨fb, fo, none⟩) nl fc)) (some 142) rfl rfl (by kernel_rfl) (by kernel_rfl) (by kernel_rfl) (fun _ _ _ h => h) (Or.inl ⟨by rfl, (by intro W9 hSw; (try dsimp only at hSw); go_simp; first | done | with_reducible rfl)⟩) (by assumption) ?_
          simp only [Act.put, List.setIfInBounds_toArray]; try simp only [List.set_cons_zero, List.set_cons_succ]
          refine wpAnyH_takesJ (i := 21) (v := (.int .i64 (kk : Nat))) (some 143) rfl rfl (by kernel_rfl) (by kernel_rfl) (by kernel_rfl) (fun _ _ _ h => h) (Or.inl ⟨by rfl, (by intro W9 hSw; (try dsimp only at hSw); go_simp; first | done | with_reducible rfl)⟩) (by assumption) ?_
          simp only [Act.put, List.setIfInBounds_toArray]; try simp only [List.set_cons_zero, List.set_cons_succ]
          refine wpAnyH_takesJ (i := 22) (v := (.int .i64 (c : Nat))) (some 144) rfl rfl (by kernel_rfl) (by kernel_rfl) (by kernel_rfl) (fun _ _ _ h => h) (Or.inl ⟨by rfl, (by intro W9 hSw; (try dsimp only at hSw); go_simp; first | done | with_reducible rfl)⟩) (by assumption) ?_
          simp only [Act.put, List.setIfInBounds_toArray]; try simp only [List.set_cons_zero, List.set_cons_succ]
          refine wpAnyH_takesJ (i := 23) (v := (.int .i64 (p2 : Nat))) (some 145) rfl rfl (by kernel_rfl) (by kernel_rfl) (by kernel_rfl) (fun _ _ _ h => h) (Or.inl ⟨by rfl, (by intro W9 hSw; (try dsimp only at hSw); go_simp; first | done | with_reducible rfl)⟩) (by assumption) ?_
          simp only [Act.put, List.setIfInBounds_toArray]; try simp only [List.set_cons_zero, List.set_cons_succ]
          refine wpAnyH_takesJ (i := 24) (v := (.pointer (some ⟨fb, fo + p2, none⟩))) (some 146) rfl rfl (by kernel_rfl) (by kernel_rfl) (by kernel_rfl) (fun _ _ _ h => h) (Or.inl ⟨by rfl, (by intro W9 hSw; (try dsimp only at hSw); go_simp; first | done | with_reducible rfl)⟩) (by assumption) ?_
          simp only [Act.put, List.setIfInBounds_toArray]; try simp only [List.set_cons_zero, List.set_cons_succ]
          refine wpAnyH_takesJ (i := 25) (v := (.int .i64 y)) (some 147) rfl rfl (by kernel_rfl) (by kernel_rfl) (by kernel_rfl) (fun _ _ _ h => h) (Or.inl ⟨by rfl, (by intro W9 hSw; (try dsimp only at hSw); go_simp; first | done | with_reducible rfl)⟩) (by assumption) ?_
          simp only [Act.put, List.setIfInBounds_toArray]; try simp only [List.set_cons_zero, List.set_cons_succ]
          refine wpAnyH_takesJ (i := 26) (v := (.bool false)) (some 148) rfl rfl (by kernel_rfl) (by kernel_rfl) (by kernel_rfl) (fun _ _ _ h => h) (Or.inl ⟨by rfl, (by intro W9 hSw; (try dsimp only at hSw); go_simp; first | done | with_reducible rfl)⟩) (by assumption) ?_
          simp only [Act.put, List.setIfInBounds_toArray]; try simp only [List.set_cons_zero, List.set_cons_succ]
          refine wpAnyH_takesJ (i := 27) (v := (.bool false)) (some 149) rfl rfl (by kernel_rfl) (by kernel_rfl) (by kernel_rfl) (fun _ _ _ h => h) (Or.inl ⟨by rfl, (by intro W9 hSw; (try dsimp only at hSw); go_simp; first | done | with_reducible rfl)⟩) (by assumption) ?_
          simp only [Act.put, List.setIfInBounds_toArray]; try simp only [List.set_cons_zero, List.set_cons_succ]
          refine wpAnyH_done (by kernel_rfl) ?_ _
          have HC2 := Lib.hid (HC.out.trans (((Below.refl wr.heap.size wr).drew).mono HC.out.size))
          have hcl := HL1.out
          clear hHeld hx3 ha3 hf hg hcf hcg n1 n2 n3 n4 o1 o2 o3 o4 o5 o6
          go_wp2_with fail
          go_roundw
          case rel => exact ⟨c + 1, by omega, by go_num, HC2⟩
          case measure => simp [intOf]; omega
        · have l1 : ¬ (c : Int) < (mv : Int) := by omega
          have BE := Lib.hid (held_trans BA.out HC.out)
          clear hc
          go_wp2_with fail
          go_ret
          exact ⟨rfl, BE.out⟩
set_option maxRecDepth 100000 in
theorem lifted (os : Os) (started : os.Started) (H : Type) (enc : TypeId × Value → H) :
    ReturnsInHanded {} Tryd.checked os 6 .any (fun w args => (Rows.balanceOthersSpec.pre enc Tryd.prog Tryd.f6 [] false w args ∧ laidMetH Tryd.prog laidList w) ∧ sizedMet enc Tryd.prog Tryd.f6 (OpenSpec.ofChange Rows.balanceOthersSpec) false w args)
      (Rows.balanceOthersSpec.post enc Tryd.prog Tryd.f6 false true false false) := by
  refine returnsInHanded_of_change_and (C := Tryd.checked) (X := fun w _ => laidMetH Tryd.prog laidList w) (fun _ _ _ hh h => h.of_heap hh) own started (by kernel_rfl) Tryd.func6
    (ChangeSpec.witness_shaped (enc := enc) (C := Tryd.checked) (os := os) (X := fun w _ => laidMetH Tryd.prog laidList w) false (World.doorLaid Tryd.prog 14 os) #[.agg #[.slice none 0 0, .int .i64 0, .slice none 0 0, .slice none 0 0, .int .u64 0]] 8 rfl (World.shaped_of_RefB (by kernel_rfl) (by kernel_rfl)) (by kernel_rfl) (by kernel_rfl) (by kernel_rfl) (door_met os _)) ?_
  intro W base args ds gs before hval0 hW _ _ hL _
  have hval : ∀ (j : Nat) t v, Tryd.f6.params[j]? = some t → args[j]? = some v → Value.okWide Tryd.prog W .any base t v := hval0
  have hW' := hW
  obtain ⟨p, q, hA0, hV, rfl, hfz, hnd⟩ := hW
  have hA : DataW.TrodAll enc Tryd.prog W 0 (fun _ => true) true Tryd.f6.params.toList args.toList ds p := hA0
  rw [Tryd.params6] at hA hval
  obtain ⟨v0, vs0, d0, ds0, p0, q0, hargs, rfl, rfl, h0, r0⟩ := trodAll_cons hA
  obtain ⟨rfl, rfl, rfl⟩ := trodAll_nil r0
  obtain rfl : args = #[v0] := by cases args; simp_all
  obtain ⟨rfl, rfl⟩ := trodVars_none hV
  have k0 := h0
  have lt0 : ∀ x ∈ p0, x.block < W.heap.size := by obtain ⟨m, hm⟩ := k0; exact DataW.trod_lt m _ _ _ hm
  obtain ⟨x0, y0, rfl, hr0⟩ := open_runs (hval 0 27 v0 rfl rfl) h0
  clear hA0 hval0
  refine (walk x0 y0 W hr0 (tab_of_laid hL)).mono fun e W' ⟨he, bel⟩ => ?_
  subst he
  exact ⟨_, rfl, _, _, _, [], _, [], hW', trodAll_mk1 (shut_bool Tryd.underlying4 _), (trodAll_cons_mk (Below.trod laidOut (by kernel_rfl) (of_decide_eq_true (by kernel_rfl)) k0 bel lt0) trodAll_mk0), rfl, bel.frame _, fun h => by cases h⟩
theorem over : Rows.BalanceOthersSaid :=
  OpenClaim.holds_of_wide 6 Tryd.f6 rfl rfl rfl rfl rfl rfl rfl ⟨rfl, rfl, rfl, rfl, rfl⟩ rfl rfl rfl rfl rfl (by kernel_rfl) Tryd.func6 (by kernel_rfl)
    (of_decide_eq_true (by kernel_rfl)) (by unfold Func.isWrapper; first | (rw [if_pos (by decide +kernel)]; kernel_rfl) | (rw [if_neg (by decide +kernel)]; exact ⟨rfl, rfl⟩))
    (fun os started H enc _ => lifted os started H enc)
theorem proved : Rows.BalanceOthersCardSaid :=
  Claim7.holds_tied_plain_at .later [] [.data] true Rows.balanceOthersCard.stood.harness false
    over (fun _ h => by cases h) (by kernel_rfl) (fun _ h => by cases h) balanceOthers_row_tie rfl ⟨rfl, rfl⟩ (by kernel_rfl) rfl
    (fun f fn hf hfn => by
      obtain rfl : f = 6 := Option.some.inj ((show Tryd.prog.funcNamed "catafalque/catafalquelaw19.BalanceOthers" = some 6 by kernel_rfl).symm.trans hf) |>.symm
      obtain rfl : fn = Tryd.f6 := (Option.some.inj (Tryd.func6.symm.trans hfn)).symm
      exact ⟨by kernel_rfl, fun j t ht => by
        rw [Tryd.params6] at ht
        have hm : t ∈ [27] := by simpa using Array.mem_of_getElem? ht
        have hall : ([27].all fun u => !Tryd.prog.wantsStandIn u) = true := by kernel_rfl
        exact (show Tryd.prog.wantsStandIn t = false by simpa using List.all_eq_true.1 hall t hm)⟩)
    (by kernel_rfl)
end Go.Proofs.YthbeldmgaioemaaDoor.balanceOthers

