/- BalanceKeeps: nothing is lost, rings stay as they were, and what may be stays so; the two rows are alike then, but for one: the call answers true and changes nothing that was there; for every input. (Written by wip/gen/gen_elaws.py: change that.) -/
import Derived.Test.YthbeldmgaioemaaDoorEShown
import Derived.Test.YthbeldmgaioemaaDoorM7
import Derived.Test.YthbeldmgaioemaaDoorERefEnds
import Derived.Test.YthbeldmgaioemaaDoorM10
import Derived.Test.YthbeldmgaioemaaDoorJMade
import Derived.Test.YthbeldmgaioemaaDoorJFew
import Derived.Test.YthbeldmgaioemaaDoorM9
import Derived.Test.YthbeldmgaioemaaDoorM6
import Derived.Test.YthbeldmgaioemaaDoorJMayL
import Derived.Test.YthbeldmgaioemaaDoorM1
namespace Go.Proofs.YthbeldmgaioemaaDoor.balanceKeeps
open Go.ChangeShapes Go.WideShapes Go.ChangeAt Go.RowKit
set_option linter.unusedVariables false

theorem yes_of {P : Prop} (h : P) : true = true ↔ P := ⟨fun _ => h, fun _ => rfl⟩
theorem bag_row (A B : Option Addr) (n m c d : Nat) (a b : List Int) (w : World) (hp : a.Perm b) (h : Row w A n c a) (hB : Row w B m d b) (hm : m ≤ 1000000) :
    Calls Tryd.prog 20 #[.slice A n c, .slice B m d] w fun e w' => e = .returned (.bool true) ∧ Below w.heap.size w w' := by
  have h1 := h.len
  have h2 := hB.len
  have h3 := hp.length_eq
  obtain rfl : n = m := by omega
  exact bag_any A B n c d a b w (Lib.hid hp) h hB (by omega)
set_option maxRecDepth 100000 in
set_option maxHeartbeats 4000000 in
theorem walk (d : Ad) (r : Jp.Rn) (w : World) (h : RMI (fun b => b < w.heap.size) w d r) (hT : Tab w) :
    Calls Tryd.prog 4 #[jv d r] w fun e w' => e = .returned (.bool true) ∧ Below w.heap.size w w' := by
  have HIN := Lib.hid h.2
  have HR := Lib.hid h.1
  have HTW := Lib.hid hT
  obtain ⟨A0, nt, ct, R, nr, cr, S, ns, cs⟩ := d
  obtain ⟨V, hV, hX, hB⟩ := B5.start w (.slice A0 nt ct) (.int .i64 r.size) (.slice R nr cr) (.slice S ns cs) (.int .u64 (r.on : Nat)) 27
  have E := Lib.hid hV
  have X0 := Lib.hid hX
  have B0 := Lib.hid hB
  have SH := Lib.hid (eshown_any V (hT.step hB))
  clear h hT hV hX hB
  unfold jv
  go_enter Tryd.func4, Tryd.ntmps4
  go_wp2_with (rw [← E.out])
  clear E
  refine SH.out.mono ?_
  rintro e w1 ⟨rfl, hb1⟩
  have X1 := Lib.hid (X0.out.step hb1)
  have B1 := Lib.hid (held_trans B0.out hb1)
  have p0 := X1.out.c0
  have p1 := X1.out.c1
  have p2 := X1.out.c2
  have p3 := X1.out.c3
  have p4 := X1.out.c4
  have hFW := fun T HT => few_any ⟨A0, nt, ct, R, nr, cr, S, ns, cs⟩ r T w1 HT (HR.out.below B1.out) HIN.out
  unfold jv at hFW
  simp only at hFW
  have FW := Lib.hid hFW
  clear hb1 SH X0 B0 hFW
  go_wp2_with fail
  by_cases hfew : ¬ FewP r
  · refine (FW.out false (Lib.hid (by simp [hfew]))).mono ?_
    rintro e w2 ⟨rfl, hb2⟩
    have BE := Lib.hid (held_trans B1.out hb2)
    go_wp2_with fail
    go_ret
    exact ⟨rfl, BE.out⟩
  have hfew := Classical.not_not.1 hfew
  have HFEW := Lib.hid hfew
  refine (FW.out true (Lib.hid (by simp [hfew]))).mono ?_
  rintro e w2a ⟨rfl, hb2⟩
  have X2a := Lib.hid (X1.out.step hb2)
  have B2a := Lib.hid (held_trans B1.out hb2)
  have p0 := X2a.out.c0
  have p1 := X2a.out.c1
  have p2 := X2a.out.c2
  have p3 := X2a.out.c3
  have p4 := X2a.out.c4
  obtain ⟨Tb, hTb⟩ : ∃ Tb : Bool, (Tb = true ↔ Jp.May r) := by
    by_cases h : Jp.May r
    · exact ⟨true, by simp [h]⟩
    · exact ⟨false, by simp [h]⟩
  have HTB := Lib.hid hTb
  have hMY := jrefMay_any ⟨A0, nt, ct, R, nr, cr, S, ns, cs⟩ r Tb w2a HTB (HR.out.below B2a.out) HFEW.out.low
  unfold jv at hMY
  simp only at hMY
  have MY := Lib.hid hMY
  clear hb2 FW X1 B1 hfew hMY hTb
  go_wp2_with fail
  refine MY.out.mono ?_
  rintro e w2 ⟨rfl, hb2⟩
  have X2 := Lib.hid (X2a.out.step hb2)
  have B2 := Lib.hid (held_trans B2a.out hb2)
  have p0 := X2.out.c0
  have p1 := X2.out.c1
  have p2 := X2.out.c2
  have p3 := X2.out.c3
  have p4 := X2.out.c4
  clear hb2 MY X2a B2a
  cases Tb
  · have BE := B2
    go_wp2_with fail
    go_ret
    exact ⟨rfl, BE.out⟩
  have HMAY := Lib.hid (HTB.out.1 rfl)
  clear HTB
  have hMD := jmade_any ⟨A0, nt, ct, R, nr, cr, S, ns, cs⟩ r w2 (HR.out.below B2.out) (fun b hb => Nat.lt_of_lt_of_le hb B2.out.size) HFEW.out.low
  unfold jv at hMD
  simp only at hMD
  have MD := Lib.hid hMD
  clear hMD
  go_wp2_with fail
  refine MD.out.mono ?_
  rintro e w3 ⟨⟨A1, nt1, ct1, R1, nr1, cr1, S1, ns1, cs1⟩, rfl, hm3, hb3⟩
  unfold jv
  simp only
  have hbn := below_new w3 (.cells #[.slice A1 nt1 ct1, .int .i64 r.size, .slice R1 nr1 cr1, .slice S1 ns1 cs1, .int .u64 (r.on : Nat)] 33)
  have hY := B5.new w3 (.slice A1 nt1 ct1) (.int .i64 r.size) (.slice R1 nr1 cr1) (.slice S1 ns1 cs1) (.int .u64 (r.on : Nat)) 33
  obtain ⟨V4, hV4⟩ : ∃ V4, V4 = w3.alloc (.cells #[.slice A1 nt1 ct1, .int .i64 r.size, .slice R1 nr1 cr1, .slice S1 ns1 cs1, .int .u64 (r.on : Nat)] 33) := ⟨_, rfl⟩
  rw [← hV4] at hbn hY
  have E4 := Lib.hid hV4
  have B4 := Lib.hid (held_trans (held_trans B2.out hb3) hbn)
  have P4 := Lib.hid ((X2.out.step hb3).step hbn)
  have Y4 := Lib.hid hY
  have M4 := Lib.hid (show RM (fun b => b < w3.heap.size) V4 ⟨A1, nt1, ct1, R1, nr1, cr1, S1, ns1, cs1⟩ r from (hm3.bound.mono (fun b hb => hb.2)).below hbn)
  have HX4 := Lib.hid (show w3.heap.size < V4.heap.size from hY.lt)
  have HWX := Lib.hid (show w.heap.size ≤ w3.heap.size from (held_trans B2.out hb3).size)
  clear hm3 hb3 hbn hY hV4 MD X2 B2 p0 p1 p2 p3 p4
  have YP4 := P4
  have YX4 := Y4
  have MX4 := M4
  have MP4 := Lib.hid (HR.out.below B4.out)
  have BW4 := B4
  have HLW := Lib.hid HFEW.out.low
  clear P4 Y4 M4 B4
  have hne := Jp.rows_some HMAY.out
  obtain ⟨lg, hlg⟩ : ∃ l, l = Jp.long r.rows := ⟨_, rfl⟩
  obtain ⟨sd, hsd⟩ : ∃ l, l = Jp.short r.rows := ⟨_, rfl⟩
  have hlgn := Jp.long_lt hne
  have hsdn := Jp.short_lt hne
  rw [← hlg] at hlgn
  rw [← hsd] at hsdn
  obtain ⟨mv, hmv⟩ : ∃ m, m = Jp.moved r.rows := ⟨_, rfl⟩
  obtain ⟨b1, hb1⟩ : ∃ x, x = (Jp.bal r).1 := ⟨_, rfl⟩
  have HBE := Lib.hid (show Jp.bal r = (b1, ((mv : Nat) : Int)) from by rw [hb1, hmv, Jp.bal_may HMAY.out, Jp.balOn_is])
  have HB1 := Lib.hid (show b1 = { r with rows := Jp.even r.rows } from by rw [hb1, Jp.bal_may HMAY.out, Jp.balOn_is])
  have HEN := Lib.hid (show Jp.ends r = ((lg : Int), (sd : Int)) from by unfold Jp.ends; rw [if_neg (fun h => hne (List.length_eq_zero_iff.1 h)), hlg, hsd])
  have HLA := Lib.hid (show Low b1 from by rw [hb1]; exact low_bal HLW.out)
  have HMB := Lib.hid (show Jp.May b1 from by rw [hb1]; exact Jp.bal_stays HMAY.out)
  have HPM := Lib.hid (show (Jp.all b1).Perm (Jp.all r) from by rw [hb1]; exact Jp.bal_all HMAY.out)
  have HLG := Lib.hid hlg
  have HSD := Lib.hid hsd
  have HLN := Lib.hid hlgn
  have HSN := Lib.hid hsdn
  have HMV := Lib.hid hmv
  have HNE := Lib.hid hne
  have HRL := Lib.hid (show b1.rows.length = r.rows.length from by rw [HB1.out]; exact Jp.even_length _)
  clear hne hlg hsd hlgn hsdn hmv hb1
  have hcc := balEnds_any ⟨A1, nt1, ct1, R1, nr1, cr1, S1, ns1, cs1⟩ r V4 MX4.out HLW.out
  rw [HEN.out] at hcc
  unfold jv at hcc
  simp only at hcc
  have C5 := Lib.hid hcc
  clear hcc
  have t0 := YX4.out.c0
  have t1 := YX4.out.c1
  have t2 := YX4.out.c2
  have t3 := YX4.out.c3
  have t4 := YX4.out.c4
  go_wp2_with (rw [← E4.out])
  clear E4
  refine C5.out.mono ?_
  rintro e V5 ⟨rfl, hb⟩
  have YP5 := Lib.hid (YP4.out.step hb)
  have MP5 := Lib.hid (MP4.out.below hb)
  have YX5 := Lib.hid (YX4.out.step hb)
  have MX5 := Lib.hid (MX4.out.below hb)
  have BW5 := Lib.hid (held_trans BW4.out hb)
  clear BW4 YP4 MP4 YX4 MX4 
  clear hb C5 t0 t1 t2 t3 t4
  have hcc := balBalance_any ⟨A1, nt1, ct1, R1, nr1, cr1, S1, ns1, cs1⟩ r V5 MX5.out (fun b hb => Nat.lt_trans hb YX5.out.lt) HLW.out (HTW.out.step BW5.out)
  rw [HBE.out] at hcc
  unfold jv at hcc
  simp only at hcc
  have C6 := Lib.hid hcc
  clear hcc
  have t0 := YX5.out.c0
  have t1 := YX5.out.c1
  have t2 := YX5.out.c2
  have t3 := YX5.out.c3
  have t4 := YX5.out.c4
  go_wp2_with fail
  refine C6.out.mono ?_
  rintro e u6 ⟨⟨T6, nt6, ct6, R6, nr6, cr6, S6, ns6, cs6⟩, rfl, hm, hb⟩
  unfold jv
  simp only
  have hbn := below_new u6 (.cells #[.slice T6 nt6 ct6, .int .i64 b1.size, .slice R6 nr6 cr6, .slice S6 ns6 cs6, .int .u64 (b1.on : Nat)] 33)
  have hY := B5.new u6 (.slice T6 nt6 ct6) (.int .i64 b1.size) (.slice R6 nr6 cr6) (.slice S6 ns6 cs6) (.int .u64 (b1.on : Nat)) 33
  obtain ⟨V6, hV⟩ : ∃ V6, V6 = u6.alloc (.cells #[.slice T6 nt6 ct6, .int .i64 b1.size, .slice R6 nr6 cr6, .slice S6 ns6 cs6, .int .u64 (b1.on : Nat)] 33) := ⟨_, rfl⟩
  rw [← hV] at hbn hY
  have E6 := Lib.hid hV
  have hbj := hb.trans (hbn.mono hb.size)
  have YP6 := Lib.hid (YP5.out.step hbj)
  have MP6 := Lib.hid (MP5.out.below hbj)
  have YX6 := Lib.hid (YX5.out.step hbj)
  have MX6 := Lib.hid (MX5.out.below hbj)
  have BW6 := Lib.hid (held_trans BW5.out hbj)
  clear BW5 YP5 MP5 YX5 MX5 
  have Ya6 := Lib.hid hY
  have Ma6 := Lib.hid ((hm.bound.mono (G := fun b => b < u6.heap.size) (fun b hb => hb.2)).below hbn)
  clear hV hY hbn hm hb hbj C6 t0 t1 t2 t3 t4
  have hnx := MX6.out.ns
  have hna := Ma6.out.ns
  simp only at hnx hna
  have e0 : ((ns6 : Int) != (ns1 : Int)) = false := by
    have h1 : ns6 = ns1 := by rw [← hna.1, ← hnx.1]; exact HRL.out
    rw [h1]; simp
  have HNX := Lib.hid hnx.1
  have HNA := Lib.hid (hna.1.symm.trans HRL.out)
  clear hnx hna
  have m1 : ¬ (lg : Int) < 0 := by omega
  have m2 : ¬ (sd : Int) < 0 := by omega
  have hl1 : lg < ns1 := by have := HLN.out; have := HNX.out; omega
  have hs1 : sd < ns1 := by have := HSN.out; have := HNX.out; omega
  have m3 : ¬ (ns1 : Int) ≤ (lg : Int) := by omega
  have m4 : ¬ (ns1 : Int) ≤ (sd : Int) := by omega
  have m5 : decide (ns1 ≤ lg) = false := decide_eq_false (by omega)
  have m6 : decide (ns1 ≤ sd) = false := decide_eq_false (by omega)
  have m7 : (0 : Int) ≤ (lg : Int) := by omega
  have m8 : (0 : Int) ≤ (sd : Int) := by omega
  have m9 : (lg : Int) < (ns1 : Int) := by omega
  have m10 : (sd : Int) < (ns1 : Int) := by omega
  have m11 : (lg : Int) < (ns6 : Int) := by have := HNA.out; have := HLN.out; omega
  have m12 : (sd : Int) < (ns6 : Int) := by have := HNA.out; have := HSN.out; omega
  have t3 := YX6.out.c3
  have s3 := Ya6.out.c3
  obtain ⟨nl, hnl⟩ : ∃ n, n = Jp.rlen r.rows lg := ⟨_, rfl⟩
  obtain ⟨nd, hnd⟩ : ∃ n, n = Jp.rlen r.rows sd := ⟨_, rfl⟩
  obtain ⟨nl2, hnl2⟩ : ∃ n, n = Jp.rlen b1.rows lg := ⟨_, rfl⟩
  obtain ⟨nd2, hnd2⟩ : ∃ n, n = Jp.rlen b1.rows sd := ⟨_, rfl⟩
  have hge : nd ≤ nl := by rw [hnl, hnd, HLG.out]; exact Jp.long_max HSN.out
  have hmv2 : mv = (nl - nd) / 2 := by rw [HMV.out, hnl, hnd, HLG.out, HSD.out]; rfl
  have hn4 : nl ≤ 400 := by rw [hnl]; exact HLW.out.row _ (List.mem_of_getElem? (Jp.row_at HLN.out))
  have hev : nl2 = nl - mv ∧ nd2 = nd + mv := by
    by_cases h0 : mv = 0
    · have h1 := Jp.even_zero (rows := r.rows) (by rw [← HMV.out]; exact h0)
      rw [hnl2, hnd2, HB1.out, hnl, hnd]
      simp only
      rw [h1, h0]
      exact ⟨rfl, rfl⟩
    · have h1 := Jp.even_lens HNE.out (by rw [← HMV.out]; exact h0)
      rw [hnl2, hnd2, HB1.out, hnl, hnd, HLG.out, HSD.out, HMV.out]
      exact h1
  obtain ⟨dd, hdd⟩ : ∃ d, d = nl - nd := ⟨_, rfl⟩
  obtain ⟨ee, hee⟩ : ∃ d, d = nl2 - nd2 := ⟨_, rfl⟩
  have w1' : IntKind.i64.wrap ((nl : Int) - (nd : Int)) = (dd : Int) := by rw [IntWalk.i64_in _ (by omega)]; omega
  have w2' : IntKind.i64.wrap ((nl2 : Int) - (nd2 : Int)) = (ee : Int) := by rw [IntWalk.i64_in _ (by omega)]; omega
  have HNL := Lib.hid hnl
  have HND := Lib.hid hnd
  have HNL2 := Lib.hid hnl2
  have HND2 := Lib.hid hnd2
  have HQ := Lib.hid (show mv = dd / 2 ∧ ee = dd - 2 * mv ∧ ee ≤ 1 ∧ dd ≤ 400 ∧ 2 * mv ≤ dd from by omega)
  clear hnl hnd hnl2 hnd2 hge hmv2 hev hdd hee hn4
  go_wp2_with (rw [← E6.out])
  clear E6
  clear t3 s3 e0 m1 m2 m3 m4 m5 m6
  obtain ⟨fS, fO, fA, fc, hfS, hf0, _⟩ := MX6.out.rowC (i := lg) (by have := HLN.out; have := HRL.out; omega)
  obtain ⟨fS2, fO2, fB, fd, hfS2, hf1, _⟩ := MX6.out.rowC (i := sd) (by have := HSN.out; have := HRL.out; omega)
  simp only at hfS hfS2
  rw [hfS] at hfS2
  injection hfS2 with hfS2
  injection hfS2 with e1 e2 _
  subst e1 e2
  rw [← HNL.out] at hf0
  rw [← HND.out] at hf1
  have t3 := YX6.out.c3
  rw [hfS] at t3
  have HfS := Lib.hid hfS
  clear hfS
  refine wp_region_held_drew (S := fun w' => w'.cell? ⟨w3.heap.size, 3, none⟩ = some (.slice (some ⟨fS, fO, none⟩) ns1 cs1) ∧ w'.cell? ⟨fS, fO + lg, none⟩ = some (.slice fA nl fc) ∧ w'.cell? ⟨fS, fO + sd, none⟩ = some (.slice fB nd fd)) (by kernel_rfl) ⟨t3, hf0, hf1⟩ (fun hHeld => ?_)
  refine wpAnyH_takesJ (i := 0) (v := (.pointer (some ⟨w3.heap.size, 3, none⟩))) (some 63) rfl rfl (by kernel_rfl) (by kernel_rfl) (by kernel_rfl) (fun _ _ _ h => h) (Or.inl ⟨by rfl, (by intro W9 hSw; (try dsimp only at hSw); go_simp; first | done | with_reducible rfl)⟩) (by assumption) ?_
  simp only [Act.put, List.setIfInBounds_toArray]; try simp only [List.set_cons_zero, List.set_cons_succ]
  refine wpAnyH_takesJ (i := 1) (v := (.slice (some ⟨fS, fO, none⟩) ns1 cs1)) (some 64) rfl rfl (by kernel_rfl) (by kernel_rfl) (by kernel_rfl) (fun _ _ _ h => h) (Or.inl ⟨by rfl, (by intro W9 hSw; (try dsimp only at hSw); go_simp; first | done | with_reducible rfl)⟩) (by assumption) ?_
  simp only [Act.put, List.setIfInBounds_toArray]; try simp only [List.set_cons_zero, List.set_cons_succ]
  refine wpAnyH_takesJ (i := 2) (v := (.int .i64 (lg : Nat))) (some 65) rfl rfl (by kernel_rfl) (by kernel_rfl) (by kernel_rfl) (fun _ _ _ h => h) (Or.inl ⟨by rfl, (by intro W9 hSw; (try dsimp only at hSw); go_simp; first | done | with_reducible rfl)⟩) (by assumption) ?_
  simp only [Act.put, List.setIfInBounds_toArray]; try simp only [List.set_cons_zero, List.set_cons_succ]
  refine wpAnyH_takesJ (i := 3) (v := (.pointer (some ⟨fS, fO + lg, none⟩))) (some 66) rfl rfl (by kernel_rfl) (by kernel_rfl) (by kernel_rfl) (fun _ _ _ h => h) (Or.inl ⟨by rfl, (by intro W9 hSw; (try dsimp only at hSw); go_simp; first | done | with_reducible rfl)⟩) (by assumption) ?_
  simp only [Act.put, List.setIfInBounds_toArray]; try simp only [List.set_cons_zero, List.set_cons_succ]
  refine wpAnyH_takesJ (i := 4) (v := (.slice fA nl fc)) (some 67) rfl rfl (by kernel_rfl) (by kernel_rfl) (by kernel_rfl) (fun _ _ _ h => h) (Or.inl ⟨by rfl, (by intro W9 hSw; (try dsimp only at hSw); go_simp; first | done | with_reducible rfl)⟩) (by assumption) ?_
  simp only [Act.put, List.setIfInBounds_toArray]; try simp only [List.set_cons_zero, List.set_cons_succ]
  refine wpAnyH_takesJ (i := 5) (v := (.int .i64 (nl : Nat))) (some 68) rfl rfl (by kernel_rfl) (by kernel_rfl) (by kernel_rfl) (fun _ _ _ h => h) (Or.inl ⟨by rfl, (by intro W9 hSw; (try dsimp only at hSw); go_simp; first | done | with_reducible rfl)⟩) (by assumption) ?_
  simp only [Act.put, List.setIfInBounds_toArray]; try simp only [List.set_cons_zero, List.set_cons_succ]
  refine wpAnyH_takesJ (i := 6) (v := (.pointer (some ⟨w3.heap.size, 3, none⟩))) (some 69) rfl rfl (by kernel_rfl) (by kernel_rfl) (by kernel_rfl) (fun _ _ _ h => h) (Or.inl ⟨by rfl, (by intro W9 hSw; (try dsimp only at hSw); go_simp; first | done | with_reducible rfl)⟩) (by assumption) ?_
  simp only [Act.put, List.setIfInBounds_toArray]; try simp only [List.set_cons_zero, List.set_cons_succ]
  refine wpAnyH_takesJ (i := 7) (v := (.slice (some ⟨fS, fO, none⟩) ns1 cs1)) (some 70) rfl rfl (by kernel_rfl) (by kernel_rfl) (by kernel_rfl) (fun _ _ _ h => h) (Or.inl ⟨by rfl, (by intro W9 hSw; (try dsimp only at hSw); go_simp; first | done | with_reducible rfl)⟩) (by assumption) ?_
  simp only [Act.put, List.setIfInBounds_toArray]; try simp only [List.set_cons_zero, List.set_cons_succ]
  refine wpAnyH_takesJ (i := 8) (v := (.int .i64 (sd : Nat))) (some 71) rfl rfl (by kernel_rfl) (by kernel_rfl) (by kernel_rfl) (fun _ _ _ h => h) (Or.inl ⟨by rfl, (by intro W9 hSw; (try dsimp only at hSw); go_simp; first | done | with_reducible rfl)⟩) (by assumption) ?_
  simp only [Act.put, List.setIfInBounds_toArray]; try simp only [List.set_cons_zero, List.set_cons_succ]
  refine wpAnyH_takesJ (i := 9) (v := (.pointer (some ⟨fS, fO + sd, none⟩))) (some 72) rfl rfl (by kernel_rfl) (by kernel_rfl) (by kernel_rfl) (fun _ _ _ h => h) (Or.inl ⟨by rfl, (by intro W9 hSw; (try dsimp only at hSw); go_simp; first | done | with_reducible rfl)⟩) (by assumption) ?_
  simp only [Act.put, List.setIfInBounds_toArray]; try simp only [List.set_cons_zero, List.set_cons_succ]
  refine wpAnyH_takesJ (i := 10) (v := (.slice fB nd fd)) (some 73) rfl rfl (by kernel_rfl) (by kernel_rfl) (by kernel_rfl) (fun _ _ _ h => h) (Or.inl ⟨by rfl, (by intro W9 hSw; (try dsimp only at hSw); go_simp; first | done | with_reducible rfl)⟩) (by assumption) ?_
  simp only [Act.put, List.setIfInBounds_toArray]; try simp only [List.set_cons_zero, List.set_cons_succ]
  refine wpAnyH_takesJ (i := 11) (v := (.int .i64 (nd : Nat))) (some 74) rfl rfl (by kernel_rfl) (by kernel_rfl) (by kernel_rfl) (fun _ _ _ h => h) (Or.inl ⟨by rfl, (by intro W9 hSw; (try dsimp only at hSw); go_simp; first | done | with_reducible rfl)⟩) (by assumption) ?_
  simp only [Act.put, List.setIfInBounds_toArray]; try simp only [List.set_cons_zero, List.set_cons_succ]
  refine wpAnyH_takesJ (i := 12) (v := (.int .i64 (dd : Nat))) (some 75) rfl rfl (by kernel_rfl) (by kernel_rfl) (by kernel_rfl) (fun _ _ _ h => h) (Or.inl ⟨by rfl, (by intro W9 hSw; (try dsimp only at hSw); go_simp; first | done | with_reducible rfl)⟩) (by assumption) ?_
  simp only [Act.put, List.setIfInBounds_toArray]; try simp only [List.set_cons_zero, List.set_cons_succ]
  refine wpAnyH_takesJ (i := 13) (v := (.int .i64 (dd : Nat))) (some 9) rfl rfl (by kernel_rfl) (by kernel_rfl) (by kernel_rfl) (fun _ _ _ h => h) (Or.inl ⟨by rfl, (by intro W9 hSw; (try dsimp only at hSw); go_simp; first | done | with_reducible rfl)⟩) (by assumption) ?_
  simp only [Act.put, List.setIfInBounds_toArray]; try simp only [List.set_cons_zero, List.set_cons_succ]
  refine wpAnyH_done (by kernel_rfl) ?_ _
  have hdr := (Below.refl V6.heap.size V6).drew
  obtain ⟨V7, hVd⟩ : ∃ V, V = V6.drew := ⟨_, rfl⟩
  rw [← hVd] at hdr ⊢
  clear hVd hHeld hf0 hf1 t3
  have YP7 := Lib.hid (YP6.out.step hdr)
  have MP7 := Lib.hid (MP6.out.below hdr)
  have YX7 := Lib.hid (YX6.out.step hdr)
  have MX7 := Lib.hid (MX6.out.below hdr)
  have Ya7 := Lib.hid (Ya6.out.step hdr)
  have Ma7 := Lib.hid (Ma6.out.below hdr)
  have BW7 := Lib.hid (held_trans BW6.out hdr)
  clear BW6 YP6 MP6 YX6 MX6 Ya6 Ma6 
  clear hdr
  go_wp2_with fail
  obtain ⟨gS, gO, gA, gc, hgS, hg0, _⟩ := Ma7.out.rowC (i := lg) (by have := HLN.out; have := HRL.out; omega)
  obtain ⟨gS2, gO2, gB, gd, hgS2, hg1, _⟩ := Ma7.out.rowC (i := sd) (by have := HSN.out; have := HRL.out; omega)
  simp only at hgS hgS2
  rw [hgS] at hgS2
  injection hgS2 with hgS2
  injection hgS2 with e1 e2 _
  subst e1 e2
  rw [← HNL2.out] at hg0
  rw [← HND2.out] at hg1
  have t3 := Ya7.out.c3
  rw [hgS] at t3
  have HgS := Lib.hid hgS
  clear hgS
  refine wp_region_held_drew (S := fun w' => w'.cell? ⟨u6.heap.size, 3, none⟩ = some (.slice (some ⟨gS, gO, none⟩) ns6 cs6) ∧ w'.cell? ⟨gS, gO + lg, none⟩ = some (.slice gA nl2 gc) ∧ w'.cell? ⟨gS, gO + sd, none⟩ = some (.slice gB nd2 gd)) (by kernel_rfl) ⟨t3, hg0, hg1⟩ (fun hHeld => ?_)
  refine wpAnyH_takesJ (i := 0) (v := (.pointer (some ⟨u6.heap.size, 3, none⟩))) (some 76) rfl rfl (by kernel_rfl) (by kernel_rfl) (by kernel_rfl) (fun _ _ _ h => h) (Or.inl ⟨by rfl, (by intro W9 hSw; (try dsimp only at hSw); go_simp; first | done | with_reducible rfl)⟩) (by assumption) ?_
  simp only [Act.put, List.setIfInBounds_toArray]; try simp only [List.set_cons_zero, List.set_cons_succ]
  refine wpAnyH_takesJ (i := 1) (v := (.slice (some ⟨gS, gO, none⟩) ns6 cs6)) (some 77) rfl rfl (by kernel_rfl) (by kernel_rfl) (by kernel_rfl) (fun _ _ _ h => h) (Or.inl ⟨by rfl, (by intro W9 hSw; (try dsimp only at hSw); go_simp; first | done | with_reducible rfl)⟩) (by assumption) ?_
  simp only [Act.put, List.setIfInBounds_toArray]; try simp only [List.set_cons_zero, List.set_cons_succ]
  refine wpAnyH_takesJ (i := 2) (v := (.int .i64 (lg : Nat))) (some 78) rfl rfl (by kernel_rfl) (by kernel_rfl) (by kernel_rfl) (fun _ _ _ h => h) (Or.inl ⟨by rfl, (by intro W9 hSw; (try dsimp only at hSw); go_simp; first | done | with_reducible rfl)⟩) (by assumption) ?_
  simp only [Act.put, List.setIfInBounds_toArray]; try simp only [List.set_cons_zero, List.set_cons_succ]
  refine wpAnyH_takesJ (i := 3) (v := (.pointer (some ⟨gS, gO + lg, none⟩))) (some 79) rfl rfl (by kernel_rfl) (by kernel_rfl) (by kernel_rfl) (fun _ _ _ h => h) (Or.inl ⟨by rfl, (by intro W9 hSw; (try dsimp only at hSw); go_simp; first | done | with_reducible rfl)⟩) (by assumption) ?_
  simp only [Act.put, List.setIfInBounds_toArray]; try simp only [List.set_cons_zero, List.set_cons_succ]
  refine wpAnyH_takesJ (i := 4) (v := (.slice gA nl2 gc)) (some 80) rfl rfl (by kernel_rfl) (by kernel_rfl) (by kernel_rfl) (fun _ _ _ h => h) (Or.inl ⟨by rfl, (by intro W9 hSw; (try dsimp only at hSw); go_simp; first | done | with_reducible rfl)⟩) (by assumption) ?_
  simp only [Act.put, List.setIfInBounds_toArray]; try simp only [List.set_cons_zero, List.set_cons_succ]
  refine wpAnyH_takesJ (i := 5) (v := (.int .i64 (nl2 : Nat))) (some 81) rfl rfl (by kernel_rfl) (by kernel_rfl) (by kernel_rfl) (fun _ _ _ h => h) (Or.inl ⟨by rfl, (by intro W9 hSw; (try dsimp only at hSw); go_simp; first | done | with_reducible rfl)⟩) (by assumption) ?_
  simp only [Act.put, List.setIfInBounds_toArray]; try simp only [List.set_cons_zero, List.set_cons_succ]
  refine wpAnyH_takesJ (i := 6) (v := (.pointer (some ⟨u6.heap.size, 3, none⟩))) (some 82) rfl rfl (by kernel_rfl) (by kernel_rfl) (by kernel_rfl) (fun _ _ _ h => h) (Or.inl ⟨by rfl, (by intro W9 hSw; (try dsimp only at hSw); go_simp; first | done | with_reducible rfl)⟩) (by assumption) ?_
  simp only [Act.put, List.setIfInBounds_toArray]; try simp only [List.set_cons_zero, List.set_cons_succ]
  refine wpAnyH_takesJ (i := 7) (v := (.slice (some ⟨gS, gO, none⟩) ns6 cs6)) (some 83) rfl rfl (by kernel_rfl) (by kernel_rfl) (by kernel_rfl) (fun _ _ _ h => h) (Or.inl ⟨by rfl, (by intro W9 hSw; (try dsimp only at hSw); go_simp; first | done | with_reducible rfl)⟩) (by assumption) ?_
  simp only [Act.put, List.setIfInBounds_toArray]; try simp only [List.set_cons_zero, List.set_cons_succ]
  refine wpAnyH_takesJ (i := 8) (v := (.int .i64 (sd : Nat))) (some 84) rfl rfl (by kernel_rfl) (by kernel_rfl) (by kernel_rfl) (fun _ _ _ h => h) (Or.inl ⟨by rfl, (by intro W9 hSw; (try dsimp only at hSw); go_simp; first | done | with_reducible rfl)⟩) (by assumption) ?_
  simp only [Act.put, List.setIfInBounds_toArray]; try simp only [List.set_cons_zero, List.set_cons_succ]
  refine wpAnyH_takesJ (i := 9) (v := (.pointer (some ⟨gS, gO + sd, none⟩))) (some 85) rfl rfl (by kernel_rfl) (by kernel_rfl) (by kernel_rfl) (fun _ _ _ h => h) (Or.inl ⟨by rfl, (by intro W9 hSw; (try dsimp only at hSw); go_simp; first | done | with_reducible rfl)⟩) (by assumption) ?_
  simp only [Act.put, List.setIfInBounds_toArray]; try simp only [List.set_cons_zero, List.set_cons_succ]
  refine wpAnyH_takesJ (i := 10) (v := (.slice gB nd2 gd)) (some 86) rfl rfl (by kernel_rfl) (by kernel_rfl) (by kernel_rfl) (fun _ _ _ h => h) (Or.inl ⟨by rfl, (by intro W9 hSw; (try dsimp only at hSw); go_simp; first | done | with_reducible rfl)⟩) (by assumption) ?_
  simp only [Act.put, List.setIfInBounds_toArray]; try simp only [List.set_cons_zero, List.set_cons_succ]
  refine wpAnyH_takesJ (i := 11) (v := (.int .i64 (nd2 : Nat))) (some 87) rfl rfl (by kernel_rfl) (by kernel_rfl) (by kernel_rfl) (fun _ _ _ h => h) (Or.inl ⟨by rfl, (by intro W9 hSw; (try dsimp only at hSw); go_simp; first | done | with_reducible rfl)⟩) (by assumption) ?_
  simp only [Act.put, List.setIfInBounds_toArray]; try simp only [List.set_cons_zero, List.set_cons_succ]
  refine wpAnyH_takesJ (i := 12) (v := (.int .i64 (ee : Nat))) (some 88) rfl rfl (by kernel_rfl) (by kernel_rfl) (by kernel_rfl) (fun _ _ _ h => h) (Or.inl ⟨by rfl, (by intro W9 hSw; (try dsimp only at hSw); go_simp; first | done | with_reducible rfl)⟩) (by assumption) ?_
  simp only [Act.put, List.setIfInBounds_toArray]; try simp only [List.set_cons_zero, List.set_cons_succ]
  refine wpAnyH_takesJ (i := 13) (v := (.int .i64 (ee : Nat))) (some 10) rfl rfl (by kernel_rfl) (by kernel_rfl) (by kernel_rfl) (fun _ _ _ h => h) (Or.inl ⟨by rfl, (by intro W9 hSw; (try dsimp only at hSw); go_simp; first | done | with_reducible rfl)⟩) (by assumption) ?_
  simp only [Act.put, List.setIfInBounds_toArray]; try simp only [List.set_cons_zero, List.set_cons_succ]
  refine wpAnyH_done (by kernel_rfl) ?_ _
  have hdr := (Below.refl V7.heap.size V7).drew
  obtain ⟨V8, hVd⟩ : ∃ V, V = V7.drew := ⟨_, rfl⟩
  rw [← hVd] at hdr ⊢
  clear hVd hHeld hg0 hg1 t3
  have YP8 := Lib.hid (YP7.out.step hdr)
  have MP8 := Lib.hid (MP7.out.below hdr)
  have YX8 := Lib.hid (YX7.out.step hdr)
  have MX8 := Lib.hid (MX7.out.below hdr)
  have Ya8 := Lib.hid (Ya7.out.step hdr)
  have Ma8 := Lib.hid (Ma7.out.below hdr)
  have BW8 := Lib.hid (held_trans BW7.out hdr)
  clear BW7 YP7 MP7 YX7 MX7 Ya7 Ma7 
  clear hdr
  clear w1' w2' m7 m8 m9 m10 m11 m12 hl1 hs1
  have hcc := fun W (hb : Below V8.heap.size V8 W) => jreal_any ⟨T6, nt6, ct6, R6, nr6, cr6, S6, ns6, cs6⟩ b1 W (Ma8.out.below hb) (fun b hb' => Nat.lt_of_lt_of_le (Nat.lt_trans hb' Ya8.out.lt) hb.size) HLA.out
  unfold jv at hcc
  simp only at hcc
  have RA := Lib.hid hcc
  clear hcc
  have t0 := Ya8.out.c0
  have t1 := Ya8.out.c1
  have t2 := Ya8.out.c2
  have t3 := Ya8.out.c3
  have t4 := Ya8.out.c4
  go_wp2_with fail
  refine (RA.out _ (Below.refl _ _)).mono ?_
  rintro e u9 ⟨⟨Az, nz, cz, Rz, nrz, crz, Sz, nsz, csz⟩, rfl, hmz, hbz⟩
  unfold jv
  simp only
  clear t0 t1 t2 t3 t4 RA
  have hbn := below_new u9 (.cells #[.slice Az nz cz, .int .i64 b1.size, .slice Rz nrz crz, .slice Sz nsz csz, .int .u64 (b1.on : Nat)] 27)
  have hY := C5.new u9 (.slice Az nz cz) (.int .i64 b1.size) (.slice Rz nrz crz) (.slice Sz nsz csz) (.int .u64 (b1.on : Nat)) 27
  obtain ⟨V9, hV⟩ : ∃ V, V = u9.alloc (.cells #[.slice Az nz cz, .int .i64 b1.size, .slice Rz nrz crz, .slice Sz nsz csz, .int .u64 (b1.on : Nat)] 27) := ⟨_, rfl⟩
  rw [← hV] at hbn hY
  have EZ := Lib.hid hV
  have hbj := hbz.trans (hbn.mono hbz.size)
  have hus : V8.heap.size ≤ u9.heap.size := hbz.size
  have CZ := Lib.hid hY
  have MZ := Lib.hid ((hmz.bound.mono (G := fun b => b < u9.heap.size) (fun b hb => hb.2)).below hbn)
  have hPlt := YP8.out.lt
  have hXlt := YX8.out.lt
  have halt := Ya8.out.lt
  have hwlt := BW8.out.size
  have YP9 := Lib.hid (YP8.out.step hbj)
  have MP9 := Lib.hid (MP8.out.below hbj)
  have YX9 := Lib.hid (YX8.out.step hbj)
  have MX9 := Lib.hid (MX8.out.below hbj)
  have Ya9 := Lib.hid (Ya8.out.step hbj)
  have Ma9 := Lib.hid (Ma8.out.below hbj)
  have BW9 := Lib.hid (held_trans BW8.out hbj)
  clear BW8 YP8 MP8 YX8 MX8 Ya8 Ma8 
  clear hV hbn hY hmz hbz hbj
  have p3 := YP9.out.c3
  have z3 := CZ.out.b5.c3
  have zf := CZ.out.f3
  go_upto_region 12 with fail
  rw [← EZ.out]
  clear EZ
  go_wp2_with fail
  clear p3 z3 zf
  obtain ⟨V10, hVs⟩ : ∃ V, V = V9.setCell ⟨u9.heap.size, 3, none⟩ (.slice S ns cs) := ⟨_, rfl⟩
  rw [← hVs]
  have YP10 := Lib.hid (show B5 V10 w.heap.size (.slice A0 nt ct) (.int .i64 r.size) (.slice R nr cr) (.slice S ns cs) (.int .u64 (r.on : Nat)) from by rw [hVs]; exact YP9.out.far (by first | omega | (simp only; omega) | (show ¬ _; omega) | (show ¬ (_ ∧ _); simp only; omega)))
  have MP10 := MP9.out.far (X := u9.heap.size) (by first | omega | (simp only; omega) | (show ¬ _; omega) | (show ¬ (_ ∧ _); simp only; omega)) 3 (.slice S ns cs)
  rw [← hVs] at MP10
  replace MP10 := Lib.hid MP10
  have YX10 := Lib.hid (show B5 V10 w3.heap.size (.slice A1 nt1 ct1) (.int .i64 r.size) (.slice R1 nr1 cr1) (.slice S1 ns1 cs1) (.int .u64 (r.on : Nat)) from by rw [hVs]; exact YX9.out.far (by first | omega | (simp only; omega) | (show ¬ _; omega) | (show ¬ (_ ∧ _); simp only; omega)))
  have MX10 := MX9.out.far (X := u9.heap.size) (by first | omega | (simp only; omega) | (show ¬ _; omega) | (show ¬ (_ ∧ _); simp only; omega)) 3 (.slice S ns cs)
  rw [← hVs] at MX10
  replace MX10 := Lib.hid MX10
  have Ya10 := Lib.hid (show B5 V10 u6.heap.size (.slice T6 nt6 ct6) (.int .i64 b1.size) (.slice R6 nr6 cr6) (.slice S6 ns6 cs6) (.int .u64 (b1.on : Nat)) from by rw [hVs]; exact Ya9.out.far (by first | omega | (simp only; omega) | (show ¬ _; omega) | (show ¬ (_ ∧ _); simp only; omega)))
  have Ma10 := Ma9.out.far (X := u9.heap.size) (by first | omega | (simp only; omega) | (show ¬ _; omega) | (show ¬ (_ ∧ _); simp only; omega)) 3 (.slice S ns cs)
  rw [← hVs] at Ma10
  replace Ma10 := Lib.hid Ma10
  have BW10 := Lib.hid (show Below w.heap.size w V10 from by rw [hVs]; exact BW9.out.setCell (by first | omega | (simp only; omega) | (show ¬ _; omega) | (show ¬ (_ ∧ _); simp only; omega)) _)
  have Yz10 := Lib.hid (show B5 V10 u9.heap.size (.slice Az nz cz) (.int .i64 b1.size) (.slice Rz nrz crz) (.slice S ns cs) (.int .u64 (b1.on : Nat)) from by rw [hVs]; exact (CZ.out.set3 (.slice S ns cs)).b5)
  have hz1 := MZ.out.far (X := u9.heap.size) (by first | omega | (simp only; omega) | (show ¬ _; omega) | (show ¬ (_ ∧ _); simp only; omega)) 3 (.slice S ns cs)
  rw [← hVs] at hz1
  have Mz10 := Lib.hid (show RM (fun _ => True) V10 ⟨Az, nz, cz, Rz, nrz, crz, S, ns, cs⟩ { b1 with rows := r.rows } from by
    have g1 := hz1.mono (G := fun _ => True) (fun _ _ => trivial)
    have g2 := MP10.out.mono (G := fun _ => True) (fun _ _ => trivial)
    exact ⟨g1.tlen, g1.tmax, g1.fit, g1.tree, g1.lie, g1.rings, g2.rows, g1.on, g1.size⟩)
  clear hVs hz1 MZ CZ YP9 MP9 hPlt YX9 MX9 hXlt Ya9 Ma9 halt BW9 hwlt hus
  have hcc := fun W (hb : Below V10.heap.size V10 W) => runsMay_any ⟨T6, nt6, ct6, R6, nr6, cr6, S6, ns6, cs6⟩ b1 true W (Lib.hid (yes_of HMB.out)) (Ma10.out.below hb) HLA.out (HTW.out.step (held_trans BW10.out hb))
  unfold jv at hcc
  simp only at hcc
  have MYA := Lib.hid hcc
  clear hcc
  have hcc := fun W (hb : Below V10.heap.size V10 W) => runsAll_any ⟨T6, nt6, ct6, R6, nr6, cr6, S6, ns6, cs6⟩ b1 W (Ma10.out.below hb) HLA.out
  unfold jv at hcc
  simp only at hcc
  have AA := Lib.hid hcc
  clear hcc
  have hcc := fun W (hb : Below V10.heap.size V10 W) => runsAll_any ⟨A1, nt1, ct1, R1, nr1, cr1, S1, ns1, cs1⟩ r W (MX10.out.below hb) HLW.out
  unfold jv at hcc
  simp only at hcc
  have AX := Lib.hid hcc
  clear hcc
  have hcc := fun W (hb : Below V10.heap.size V10 W) => jsame_any ⟨Az, nz, cz, Rz, nrz, crz, S, ns, cs⟩ ⟨A0, nt, ct, R, nr, cr, S, ns, cs⟩ { b1 with rows := r.rows } r W (Mz10.out.below hb) (MP10.out.below hb) (⟨by rw [HB1.out]; exact HLW.out.rings, HLW.out.rows, by rw [HB1.out]; exact HLW.out.ring, HLW.out.row, by rw [HB1.out]; exact HLW.out.tree, by rw [HB1.out]; exact HLW.out.fit⟩) (by rw [HB1.out]) rfl (by rw [HB1.out])
  unfold jv at hcc
  simp only at hcc
  have SZ := Lib.hid hcc
  clear hcc
  obtain ⟨q1, q2, q3, q4, q5⟩ := HQ.out
  obtain ⟨mm, hmm⟩ : ∃ m, m = 2 * mv := ⟨_, rfl⟩
  have s1 : Int.tdiv (dd : Int) 2 = (mv : Int) := by rw [q1]; rfl
  have s2 : IntKind.i64.wrap (2 * (mv : Int)) = (mm : Int) := by rw [IntWalk.i64_in _ (by omega)]; omega
  have s3 : IntKind.i64.wrap ((dd : Int) - (mm : Int)) = (ee : Int) := by rw [IntWalk.i64_in _ (by omega)]; omega
  have s4 : (0 : Int) ≤ (ee : Int) := by omega
  have s5 : (ee : Int) ≤ 1 := by omega
  have s6 : IntKind.i64.wrap (mv : Int) = (mv : Int) := IntWalk.i64_in _ (by omega)
  have s7 : decide ((ee : Int) ≤ 1) = true := decide_eq_true s5
  have s8 : ee ≤ 1 := q3
  clear q1 q2 q3 q4 q5 hmm HQ
  refine wp_region_held_drew (S := fun w' => B5 w' w.heap.size (.slice A0 nt ct) (.int .i64 r.size) (.slice R nr cr) (.slice S ns cs) (.int .u64 (r.on : Nat)) ∧ B5 w' w3.heap.size (.slice A1 nt1 ct1) (.int .i64 r.size) (.slice R1 nr1 cr1) (.slice S1 ns1 cs1) (.int .u64 (r.on : Nat)) ∧ B5 w' u6.heap.size (.slice T6 nt6 ct6) (.int .i64 b1.size) (.slice R6 nr6 cr6) (.slice S6 ns6 cs6) (.int .u64 (b1.on : Nat)) ∧ B5 w' u9.heap.size (.slice Az nz cz) (.int .i64 b1.size) (.slice Rz nrz crz) (.slice S ns cs) (.int .u64 (b1.on : Nat))) (by kernel_rfl) ⟨YP10.out.drew, YX10.out.drew, Ya10.out.drew, Yz10.out.drew⟩ (fun hHeld => ?_)
  refine wpAnyH_takesJ (i := 0) (v := (.bool true)) (some 94) rfl rfl (by kernel_rfl) (by kernel_rfl) (by kernel_rfl) (fun _ _ _ h => h) (Or.inl ⟨by rfl, (by intro W9 hSw; clear hSw; go_simp; first | done | with_reducible rfl)⟩) (by assumption) ?_
  simp only [Act.put, List.setIfInBounds_toArray]; try simp only [List.set_cons_zero, List.set_cons_succ]
  refine wpAnyH_takesJ (i := 1) (v := (.bool true)) (some 95) rfl rfl (by kernel_rfl) (by kernel_rfl) (by kernel_rfl) (fun _ _ _ h => h) (Or.inl ⟨by rfl, (by intro W9 hSw; clear hSw; go_simp; first | done | with_reducible rfl)⟩) (by assumption) ?_
  simp only [Act.put, List.setIfInBounds_toArray]; try simp only [List.set_cons_zero, List.set_cons_succ]
  refine wpAnyH_takesJ (i := 2) (v := (.agg #[.slice T6 nt6 ct6, .int .i64 b1.size, .slice R6 nr6 cr6, .slice S6 ns6 cs6, .int .u64 (b1.on : Nat)])) (some 96) rfl rfl (by kernel_rfl) (by kernel_rfl) (by kernel_rfl) (fun _ _ _ h => h) (Or.inl ⟨by rfl, (by intro W9 hSw; have s0 := (hSw.2.2.1).c0; have s1 := (hSw.2.2.1).c1; have s2 := (hSw.2.2.1).c2; have s3 := (hSw.2.2.1).c3; have s4 := (hSw.2.2.1).c4; clear hSw; go_simp; first | done | with_reducible rfl)⟩) (by assumption) ?_
  simp only [Act.put, List.setIfInBounds_toArray]; try simp only [List.set_cons_zero, List.set_cons_succ]
  refine wpAnyH_ready (rs := [3]) (by kernel_rfl) (by simp) ?_
  refine AllReadyH.cons rfl (fun K hK => ?_) AllReadyH.nil
  go_simp
  go_at_call 19
  refine (MYA.out _ (by exact (Below.refl _ _).drew)).mono ?_
  rintro e x1 ⟨rfl, hbx⟩
  have hb1 := (Below.refl V10.heap.size V10).drew.trans (hbx.mono (by simp))
  refine hK.out _ _ (by exact ⟨YP10.out.step hb1, YX10.out.step hb1, Ya10.out.step hb1, Yz10.out.step hb1⟩) (fun hHeld => ?_)
  clear hK K hbx
  try dsimp only
  refine wpAnyH_takesJ (i := 4) (v := (.bool true)) (some 98) rfl rfl (by kernel_rfl) (by kernel_rfl) (by kernel_rfl) (fun _ _ _ h => h) (Or.inl ⟨by rfl, (by intro W9 hSw; clear hSw; go_simp; first | done | with_reducible rfl)⟩) (by assumption) ?_
  simp only [Act.put, List.setIfInBounds_toArray]; try simp only [List.set_cons_zero, List.set_cons_succ]
  refine wpAnyH_takesJ (i := 5) (v := (.bool true)) (some 99) rfl rfl (by kernel_rfl) (by kernel_rfl) (by kernel_rfl) (fun _ _ _ h => h) (Or.inl ⟨by rfl, (by intro W9 hSw; clear hSw; go_simp; first | done | with_reducible rfl)⟩) (by assumption) ?_
  simp only [Act.put, List.setIfInBounds_toArray]; try simp only [List.set_cons_zero, List.set_cons_succ]
  refine wpAnyH_takesJ (i := 6) (v := (.agg #[.slice T6 nt6 ct6, .int .i64 b1.size, .slice R6 nr6 cr6, .slice S6 ns6 cs6, .int .u64 (b1.on : Nat)])) (some 100) rfl rfl (by kernel_rfl) (by kernel_rfl) (by kernel_rfl) (fun _ _ _ h => h) (Or.inl ⟨by rfl, (by intro W9 hSw; have s0 := (hSw.2.2.1).c0; have s1 := (hSw.2.2.1).c1; have s2 := (hSw.2.2.1).c2; have s3 := (hSw.2.2.1).c3; have s4 := (hSw.2.2.1).c4; clear hSw; go_simp; first | done | with_reducible rfl)⟩) (by assumption) ?_
  simp only [Act.put, List.setIfInBounds_toArray]; try simp only [List.set_cons_zero, List.set_cons_succ]
  refine wpAnyH_takesJ (i := 8) (v := (.agg #[.slice A1 nt1 ct1, .int .i64 r.size, .slice R1 nr1 cr1, .slice S1 ns1 cs1, .int .u64 (r.on : Nat)])) (some 102) rfl rfl (by kernel_rfl) (by kernel_rfl) (by kernel_rfl) (fun _ _ _ h => h) (Or.inl ⟨by rfl, (by intro W9 hSw; have s0 := (hSw.2.1).c0; have s1 := (hSw.2.1).c1; have s2 := (hSw.2.1).c2; have s3 := (hSw.2.1).c3; have s4 := (hSw.2.1).c4; clear hSw; go_simp; first | done | with_reducible rfl)⟩) (by assumption) ?_
  simp only [Act.put, List.setIfInBounds_toArray]; try simp only [List.set_cons_zero, List.set_cons_succ]
  refine wpAnyH_ready (rs := [7]) (by kernel_rfl) (by simp) ?_
  refine AllReadyH.cons rfl (fun K hK => ?_) AllReadyH.nil
  go_simp
  go_at_call 21
  refine (AA.out _ (by exact hb1)).mono ?_
  rintro e x2 ⟨Aq, nq, cq, rfl, hrq, _, hbx⟩
  have hb2 := hb1.trans (hbx.mono hb1.size)
  have RQ := Lib.hid hrq
  clear hrq
  refine hK.out _ _ (by exact ⟨YP10.out.step hb2, YX10.out.step hb2, Ya10.out.step hb2, Yz10.out.step hb2⟩) (fun hHeld => ?_)
  clear hK K hbx
  try dsimp only
  refine wpAnyH_ready (rs := [9]) (by kernel_rfl) (by simp) ?_
  refine AllReadyH.cons rfl (fun K hK => ?_) AllReadyH.nil
  go_simp
  go_at_call 21
  refine (AX.out _ (by exact hb2)).mono ?_
  rintro e x3 ⟨At, ntt, ctt, rfl, hrt, _, hbx⟩
  have hb3 := hb2.trans (hbx.mono hb2.size)
  have BG := Lib.hid (bag_row Aq At _ ntt cq ctt _ _ x3 HPM.out (RQ.out.below hbx) hrt (by have h7 := hrt.len; have h8 := all_le HLW.out; omega))
  clear hrt
  refine hK.out _ _ (by exact ⟨YP10.out.step hb3, YX10.out.step hb3, Ya10.out.step hb3, Yz10.out.step hb3⟩) (fun hHeld => ?_)
  clear hK K hbx
  try dsimp only
  refine wpAnyH_ready (rs := [10]) (by kernel_rfl) (by simp) ?_
  refine AllReadyH.cons rfl (fun K hK => ?_) AllReadyH.nil
  go_simp
  go_at_call 20
  refine (BG.out).mono ?_
  rintro e x4 ⟨rfl, hbx⟩
  have hb4 := hb3.trans (hbx.mono hb3.size)
  refine hK.out _ _ (by exact ⟨YP10.out.step hb4, YX10.out.step hb4, Ya10.out.step hb4, Yz10.out.step hb4⟩) (fun hHeld => ?_)
  clear hK K hbx
  try dsimp only
  refine wpAnyH_takesJ (i := 11) (v := (.bool true)) (some 105) rfl rfl (by kernel_rfl) (by kernel_rfl) (by kernel_rfl) (fun _ _ _ h => h) (Or.inl ⟨by rfl, (by intro W9 hSw; clear hSw; go_simp; first | done | with_reducible rfl)⟩) (by assumption) ?_
  simp only [Act.put, List.setIfInBounds_toArray]; try simp only [List.set_cons_zero, List.set_cons_succ]
  refine wpAnyH_takesJ (i := 12) (v := (.bool true)) (some 106) rfl rfl (by kernel_rfl) (by kernel_rfl) (by kernel_rfl) (fun _ _ _ h => h) (Or.inl ⟨by rfl, (by intro W9 hSw; clear hSw; go_simp; first | done | with_reducible rfl)⟩) (by assumption) ?_
  simp only [Act.put, List.setIfInBounds_toArray]; try simp only [List.set_cons_zero, List.set_cons_succ]
  refine wpAnyH_takesJ (i := 13) (v := (.agg #[.slice Az nz cz, .int .i64 b1.size, .slice Rz nrz crz, .slice S ns cs, .int .u64 (b1.on : Nat)])) (some 107) rfl rfl (by kernel_rfl) (by kernel_rfl) (by kernel_rfl) (fun _ _ _ h => h) (Or.inl ⟨by rfl, (by intro W9 hSw; have s0 := (hSw.2.2.2).c0; have s1 := (hSw.2.2.2).c1; have s2 := (hSw.2.2.2).c2; have s3 := (hSw.2.2.2).c3; have s4 := (hSw.2.2.2).c4; clear hSw; go_simp; first | done | with_reducible rfl)⟩) (by assumption) ?_
  simp only [Act.put, List.setIfInBounds_toArray]; try simp only [List.set_cons_zero, List.set_cons_succ]
  refine wpAnyH_takesJ (i := 14) (v := (.agg #[.slice A0 nt ct, .int .i64 r.size, .slice R nr cr, .slice S ns cs, .int .u64 (r.on : Nat)])) (some 108) rfl rfl (by kernel_rfl) (by kernel_rfl) (by kernel_rfl) (fun _ _ _ h => h) (Or.inl ⟨by rfl, (by intro W9 hSw; have s0 := (hSw.1).c0; have s1 := (hSw.1).c1; have s2 := (hSw.1).c2; have s3 := (hSw.1).c3; have s4 := (hSw.1).c4; clear hSw; go_simp; first | done | with_reducible rfl)⟩) (by assumption) ?_
  simp only [Act.put, List.setIfInBounds_toArray]; try simp only [List.set_cons_zero, List.set_cons_succ]
  refine wpAnyH_ready (rs := [15]) (by kernel_rfl) (by simp) ?_
  refine AllReadyH.cons rfl (fun K hK => ?_) AllReadyH.nil
  go_simp
  go_at_call 16
  refine (SZ.out _ (by exact hb4)).mono ?_
  rintro e x5 ⟨rfl, hbx⟩
  have hb5 := hb4.trans (hbx.mono hb4.size)
  refine hK.out _ _ (by exact ⟨YP10.out.step hb5, YX10.out.step hb5, Ya10.out.step hb5, Yz10.out.step hb5⟩) (fun hHeld => ?_)
  clear hK K hbx
  try dsimp only
  refine wpAnyH_takesJ (i := 16) (v := (.bool true)) (some 110) rfl rfl (by kernel_rfl) (by kernel_rfl) (by kernel_rfl) (fun _ _ _ h => h) (Or.inl ⟨by rfl, (by intro W9 hSw; clear hSw; go_simp; first | done | with_reducible rfl)⟩) (by assumption) ?_
  simp only [Act.put, List.setIfInBounds_toArray]; try simp only [List.set_cons_zero, List.set_cons_succ]
  refine wpAnyH_takesJ (i := 17) (v := (.bool true)) (some 111) rfl rfl (by kernel_rfl) (by kernel_rfl) (by kernel_rfl) (fun _ _ _ h => h) (Or.inl ⟨by rfl, (by intro W9 hSw; clear hSw; go_simp; first | done | with_reducible rfl)⟩) (by assumption) ?_
  simp only [Act.put, List.setIfInBounds_toArray]; try simp only [List.set_cons_zero, List.set_cons_succ]
  refine wpAnyH_takesJ (i := 18) (v := (.int .i64 (mv : Nat))) (some 112) rfl rfl (by kernel_rfl) (by kernel_rfl) (by kernel_rfl) (fun _ _ _ h => h) (Or.inl ⟨by rfl, (by intro W9 hSw; clear hSw; go_simp; first | done | with_reducible rfl)⟩) (by assumption) ?_
  simp only [Act.put, List.setIfInBounds_toArray]; try simp only [List.set_cons_zero, List.set_cons_succ]
  refine wpAnyH_takesJ (i := 19) (v := (.int .i64 (dd : Nat))) (some 113) rfl rfl (by kernel_rfl) (by kernel_rfl) (by kernel_rfl) (fun _ _ _ h => h) (Or.inl ⟨by rfl, (by intro W9 hSw; clear hSw; go_simp; first | done | with_reducible rfl)⟩) (by assumption) ?_
  simp only [Act.put, List.setIfInBounds_toArray]; try simp only [List.set_cons_zero, List.set_cons_succ]
  refine wpAnyH_takesJ (i := 20) (v := (.int .i64 (mv : Nat))) (some 114) rfl rfl (by kernel_rfl) (by kernel_rfl) (by kernel_rfl) (fun _ _ _ h => h) (Or.inl ⟨by rfl, (by intro W9 hSw; clear hSw; go_simp; first | done | with_reducible rfl)⟩) (by assumption) ?_
  simp only [Act.put, List.setIfInBounds_toArray]; try simp only [List.set_cons_zero, List.set_cons_succ]
  refine wpAnyH_takesJ (i := 21) (v := (.bool true)) (some 115) rfl rfl (by kernel_rfl) (by kernel_rfl) (by kernel_rfl) (fun _ _ _ h => h) (Or.inl ⟨by rfl, (by intro W9 hSw; clear hSw; go_simp; first | done | with_reducible rfl)⟩) (by assumption) ?_
  simp only [Act.put, List.setIfInBounds_toArray]; try simp only [List.set_cons_zero, List.set_cons_succ]
  refine wpAnyH_takesJ (i := 22) (v := (.bool true)) (some 116) rfl rfl (by kernel_rfl) (by kernel_rfl) (by kernel_rfl) (fun _ _ _ h => h) (Or.inl ⟨by rfl, (by intro W9 hSw; clear hSw; go_simp; first | done | with_reducible rfl)⟩) (by assumption) ?_
  simp only [Act.put, List.setIfInBounds_toArray]; try simp only [List.set_cons_zero, List.set_cons_succ]
  refine wpAnyH_takesJ (i := 23) (v := (.bool true)) (some 117) rfl rfl (by kernel_rfl) (by kernel_rfl) (by kernel_rfl) (fun _ _ _ h => h) (Or.inl ⟨by rfl, (by intro W9 hSw; clear hSw; go_simp; first | done | with_reducible rfl)⟩) (by assumption) ?_
  simp only [Act.put, List.setIfInBounds_toArray]; try simp only [List.set_cons_zero, List.set_cons_succ]
  refine wpAnyH_takesJ (i := 24) (v := (.int .i64 (ee : Nat))) (some 118) rfl rfl (by kernel_rfl) (by kernel_rfl) (by kernel_rfl) (fun _ _ _ h => h) (Or.inl ⟨by rfl, (by intro W9 hSw; clear hSw; go_simp; first | done | with_reducible rfl)⟩) (by assumption) ?_
  simp only [Act.put, List.setIfInBounds_toArray]; try simp only [List.set_cons_zero, List.set_cons_succ]
  refine wpAnyH_takesJ (i := 25) (v := (.bool true)) (some 119) rfl rfl (by kernel_rfl) (by kernel_rfl) (by kernel_rfl) (fun _ _ _ h => h) (Or.inl ⟨by rfl, (by intro W9 hSw; clear hSw; go_simp; first | done | with_reducible rfl)⟩) (by assumption) ?_
  simp only [Act.put, List.setIfInBounds_toArray]; try simp only [List.set_cons_zero, List.set_cons_succ]
  refine wpAnyH_takesJ (i := 26) (v := (.bool true)) (some 120) rfl rfl (by kernel_rfl) (by kernel_rfl) (by kernel_rfl) (fun _ _ _ h => h) (Or.inl ⟨by rfl, (by intro W9 hSw; clear hSw; go_simp; first | done | with_reducible rfl)⟩) (by assumption) ?_
  simp only [Act.put, List.setIfInBounds_toArray]; try simp only [List.set_cons_zero, List.set_cons_succ]
  refine wpAnyH_takesJ (i := 27) (v := (.bool true)) (some 121) rfl rfl (by kernel_rfl) (by kernel_rfl) (by kernel_rfl) (fun _ _ _ h => h) (Or.inl ⟨by rfl, (by intro W9 hSw; clear hSw; go_simp; first | done | with_reducible rfl)⟩) (by assumption) ?_
  simp only [Act.put, List.setIfInBounds_toArray]; try simp only [List.set_cons_zero, List.set_cons_succ]
  refine wpAnyH_takesJ (i := 28) (v := (.int .i64 (ee : Nat))) (some 122) rfl rfl (by kernel_rfl) (by kernel_rfl) (by kernel_rfl) (fun _ _ _ h => h) (Or.inl ⟨by rfl, (by intro W9 hSw; clear hSw; go_simp; first | done | with_reducible rfl)⟩) (by assumption) ?_
  simp only [Act.put, List.setIfInBounds_toArray]; try simp only [List.set_cons_zero, List.set_cons_succ]
  refine wpAnyH_takesJ (i := 29) (v := (.bool true)) (some 123) rfl rfl (by kernel_rfl) (by kernel_rfl) (by kernel_rfl) (fun _ _ _ h => h) (Or.inl ⟨by rfl, (by intro W9 hSw; clear hSw; go_simp; first | done | with_reducible rfl)⟩) (by assumption) ?_
  simp only [Act.put, List.setIfInBounds_toArray]; try simp only [List.set_cons_zero, List.set_cons_succ]
  refine wpAnyH_takesJ (i := 30) (v := (.bool true)) (some 124) rfl rfl (by kernel_rfl) (by kernel_rfl) (by kernel_rfl) (fun _ _ _ h => h) (Or.inl ⟨by rfl, (by intro W9 hSw; clear hSw; go_simp; first | done | with_reducible rfl)⟩) (by assumption) ?_
  simp only [Act.put, List.setIfInBounds_toArray]; try simp only [List.set_cons_zero, List.set_cons_succ]
  refine wpAnyH_takesJ (i := 31) (v := (.bool true)) (some 125) rfl rfl (by kernel_rfl) (by kernel_rfl) (by kernel_rfl) (fun _ _ _ h => h) (Or.inl ⟨by rfl, (by intro W9 hSw; clear hSw; go_simp; first | done | with_reducible rfl)⟩) (by assumption) ?_
  simp only [Act.put, List.setIfInBounds_toArray]; try simp only [List.set_cons_zero, List.set_cons_succ]
  refine wpAnyH_takesJ (i := 32) (v := (.int .i64 (ee : Nat))) (some 126) rfl rfl (by kernel_rfl) (by kernel_rfl) (by kernel_rfl) (fun _ _ _ h => h) (Or.inl ⟨by rfl, (by intro W9 hSw; clear hSw; go_simp; first | done | with_reducible rfl)⟩) (by assumption) ?_
  simp only [Act.put, List.setIfInBounds_toArray]; try simp only [List.set_cons_zero, List.set_cons_succ]
  refine wpAnyH_takesJ (i := 33) (v := (.int .i64 (dd : Nat))) (some 127) rfl rfl (by kernel_rfl) (by kernel_rfl) (by kernel_rfl) (fun _ _ _ h => h) (Or.inl ⟨by rfl, (by intro W9 hSw; clear hSw; go_simp; first | done | with_reducible rfl)⟩) (by assumption) ?_
  simp only [Act.put, List.setIfInBounds_toArray]; try simp only [List.set_cons_zero, List.set_cons_succ]
  refine wpAnyH_takesJ (i := 34) (v := (.int .i64 (mv : Nat))) (some 128) rfl rfl (by kernel_rfl) (by kernel_rfl) (by kernel_rfl) (fun _ _ _ h => h) (Or.inl ⟨by rfl, (by intro W9 hSw; clear hSw; go_simp; first | done | with_reducible rfl)⟩) (by assumption) ?_
  simp only [Act.put, List.setIfInBounds_toArray]; try simp only [List.set_cons_zero, List.set_cons_succ]
  refine wpAnyH_takesJ (i := 35) (v := (.int .i64 (mm : Nat))) (some 129) rfl rfl (by kernel_rfl) (by kernel_rfl) (by kernel_rfl) (fun _ _ _ h => h) (Or.inl ⟨by rfl, (by intro W9 hSw; clear hSw; go_simp; first | done | with_reducible rfl)⟩) (by assumption) ?_
  simp only [Act.put, List.setIfInBounds_toArray]; try simp only [List.set_cons_zero, List.set_cons_succ]
  refine wpAnyH_takesJ (i := 36) (v := (.int .i64 (ee : Nat))) (some 130) rfl rfl (by kernel_rfl) (by kernel_rfl) (by kernel_rfl) (fun _ _ _ h => h) (Or.inl ⟨by rfl, (by intro W9 hSw; clear hSw; go_simp; first | done | with_reducible rfl)⟩) (by assumption) ?_
  simp only [Act.put, List.setIfInBounds_toArray]; try simp only [List.set_cons_zero, List.set_cons_succ]
  refine wpAnyH_takesJ (i := 37) (v := (.bool true)) (some 131) rfl rfl (by kernel_rfl) (by kernel_rfl) (by kernel_rfl) (fun _ _ _ h => h) (Or.inl ⟨by rfl, (by intro W9 hSw; clear hSw; go_simp; first | done | with_reducible rfl)⟩) (by assumption) ?_
  simp only [Act.put, List.setIfInBounds_toArray]; try simp only [List.set_cons_zero, List.set_cons_succ]
  refine wpAnyH_takesJ (i := 38) (v := (.bool true)) (some 132) rfl rfl (by kernel_rfl) (by kernel_rfl) (by kernel_rfl) (fun _ _ _ h => h) (Or.inl ⟨by rfl, (by intro W9 hSw; clear hSw; go_simp; first | done | with_reducible rfl)⟩) (by assumption) ?_
  simp only [Act.put, List.setIfInBounds_toArray]; try simp only [List.set_cons_zero, List.set_cons_succ]
  refine wpAnyH_takesJ (i := 39) (v := (.bool true)) (some 2) rfl rfl (by kernel_rfl) (by kernel_rfl) (by kernel_rfl) (fun _ _ _ h => h) (Or.inl ⟨by rfl, (by intro W9 hSw; clear hSw; go_simp; first | done | with_reducible rfl)⟩) (by assumption) ?_
  simp only [Act.put, List.setIfInBounds_toArray]; try simp only [List.set_cons_zero, List.set_cons_succ]
  refine wpAnyH_done (by kernel_rfl) ?_ _
  have BE := Lib.hid (held_trans BW10.out hb5)
  clear hb1 hb2 hb3 hb4 hb5
  go_wp2_with fail
  go_ret
  exact ⟨rfl, BE.out⟩
set_option maxRecDepth 100000 in
theorem lifted (os : Os) (started : os.Started) (H : Type) (enc : TypeId × Value → H) :
    ReturnsInHanded {} Tryd.checked os 4 .any (fun w args => (Rows.balanceKeepsSpec.pre enc Tryd.prog Tryd.f4 [] false w args ∧ laidMetH Tryd.prog laidList w) ∧ sizedMet enc Tryd.prog Tryd.f4 (OpenSpec.ofChange Rows.balanceKeepsSpec) false w args)
      (Rows.balanceKeepsSpec.post enc Tryd.prog Tryd.f4 false true false false) := by
  refine returnsInHanded_of_change_and (C := Tryd.checked) (X := fun w _ => laidMetH Tryd.prog laidList w) (fun _ _ _ hh h => h.of_heap hh) own started (by kernel_rfl) Tryd.func4
    (ChangeSpec.witness_shaped (enc := enc) (C := Tryd.checked) (os := os) (X := fun w _ => laidMetH Tryd.prog laidList w) false (World.doorLaid Tryd.prog 14 os) #[.agg #[.slice none 0 0, .int .i64 0, .slice none 0 0, .slice none 0 0, .int .u64 0]] 8 rfl (World.shaped_of_RefB (by kernel_rfl) (by kernel_rfl)) (by kernel_rfl) (by kernel_rfl) (by kernel_rfl) (door_met os _)) ?_
  intro W base args ds gs before hval0 hW _ _ hL _
  have hval : ∀ (j : Nat) t v, Tryd.f4.params[j]? = some t → args[j]? = some v → Value.okWide Tryd.prog W .any base t v := hval0
  have hW' := hW
  obtain ⟨p, q, hA0, hV, rfl, hfz, hnd⟩ := hW
  have hA : DataW.TrodAll enc Tryd.prog W 0 (fun _ => true) true Tryd.f4.params.toList args.toList ds p := hA0
  rw [Tryd.params4] at hA hval
  obtain ⟨v0, vs0, d0, ds0, p0, q0, hargs, rfl, rfl, h0, r0⟩ := trodAll_cons hA
  obtain ⟨rfl, rfl, rfl⟩ := trodAll_nil r0
  obtain rfl : args = #[v0] := by cases args; simp_all
  obtain ⟨rfl, rfl⟩ := trodVars_none hV
  have k0 := h0
  have lt0 : ∀ x ∈ p0, x.block < W.heap.size := by obtain ⟨m, hm⟩ := k0; exact DataW.trod_lt m _ _ _ hm
  obtain ⟨x0, y0, rfl, hr0⟩ := open_runs (hval 0 27 v0 rfl rfl) h0
  clear hA0 hval0
  refine (walk x0 y0 W hr0 (tab_of_laid hL)).mono fun e W' ⟨he, bel⟩ => ?_
  subst he
  exact ⟨_, rfl, _, _, _, [], _, [], hW', trodAll_mk1 (shut_bool Tryd.underlying4 _), (trodAll_cons_mk (Below.trod laidOut (by kernel_rfl) (of_decide_eq_true (by kernel_rfl)) k0 bel lt0) trodAll_mk0), rfl, bel.frame _, fun h => by cases h⟩
theorem over : Rows.BalanceKeepsSaid :=
  OpenClaim.holds_of_wide 4 Tryd.f4 rfl rfl rfl rfl rfl rfl rfl ⟨rfl, rfl, rfl, rfl, rfl⟩ rfl rfl rfl rfl rfl (by kernel_rfl) Tryd.func4 (by kernel_rfl)
    (of_decide_eq_true (by kernel_rfl)) (by unfold Func.isWrapper; first | (rw [if_pos (by decide +kernel)]; kernel_rfl) | (rw [if_neg (by decide +kernel)]; exact ⟨rfl, rfl⟩))
    (fun os started H enc _ => lifted os started H enc)
theorem proved : Rows.BalanceKeepsCardSaid :=
  Claim7.holds_tied_plain_at .later [] [.data] true Rows.balanceKeepsCard.stood.harness false
    over (fun _ h => by cases h) (by kernel_rfl) (fun _ h => by cases h) balanceKeeps_row_tie rfl ⟨rfl, rfl⟩ (by kernel_rfl) rfl
    (fun f fn hf hfn => by
      obtain rfl : f = 4 := Option.some.inj ((show Tryd.prog.funcNamed "catafalque/catafalquelaw19.BalanceKeeps" = some 4 by kernel_rfl).symm.trans hf) |>.symm
      obtain rfl : fn = Tryd.f4 := (Option.some.inj (Tryd.func4.symm.trans hfn)).symm
      exact ⟨by kernel_rfl, fun j t ht => by
        rw [Tryd.params4] at ht
        have hm : t ∈ [27] := by simpa using Array.mem_of_getElem? ht
        have hall : ([27].all fun u => !Tryd.prog.wantsStandIn u) = true := by kernel_rfl
        exact (show Tryd.prog.wantsStandIn t = false by simpa using List.all_eq_true.1 hall t hm)⟩)
    (by kernel_rfl)
end Go.Proofs.YthbeldmgaioemaaDoor.balanceKeeps

