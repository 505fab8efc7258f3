/- The document's Balance, by its contract. -/
import Derived.Test.YthbeldmgaioemaaDoorERefEnds
import Derived.Test.YthbeldmgaioemaaDoorM7
import Derived.Test.YthbeldmgaioemaaDoorM6
import Derived.Test.YthbeldmgaioemaaDoorM8
namespace Go.Proofs.YthbeldmgaioemaaDoor
open Go.RowKit
set_option linter.unusedVariables false

set_option maxRecDepth 100000 in
set_option maxHeartbeats 2000000 in
theorem refBal_any {F : Nat → Prop} (d : Ad) (r : Jp.Rn) (w : World) (h : RM F w d r) (hF : ∀ b, F b → b < w.heap.size) (hlow : Low r) :
    Calls Tryd.prog 13 #[jv d r] w (TellJE F w (Jp.bal r)) := by
  obtain ⟨A0, nt, ct, R, nr, cr, S, ns, cs⟩ := d
  have H := Lib.hid h
  have HL := Lib.hid hlow
  have HFW := Lib.hid hF
  obtain ⟨hs1, hs2, hs3⟩ := h.ns
  have hs4 := hlow.rows
  simp only at hs1 hs2 hs3
  clear h hlow hF
  obtain ⟨V, hV, hX, hZ, hB, hsz⟩ := boxes2 w (.slice A0 nt ct) (.int .i64 r.size) (.slice R nr cr) (.slice S ns cs) (.int .u64 (r.on : Nat)) (.slice none 0 0) (.int .i64 0) (.slice none 0 0) (.slice none 0 0) (.int .u64 0) 27 27
  have E := Lib.hid hV
  have X0 := Lib.hid hX
  have Z0 := Lib.hid hZ
  have B0 := Lib.hid hB
  have SZ := Lib.hid hsz
  have hMY := fun T HT => jrefMay_any ⟨A0, nt, ct, R, nr, cr, S, ns, cs⟩ r T V HT (H.out.below B0.out) HL.out
  unfold jv at hMY
  simp only at hMY
  have MY := Lib.hid hMY
  clear hV hX hB hZ hMY hsz
  unfold jv
  go_enter Tryd.func13, Tryd.ntmps13
  go_wp2_with fail
  rw [← E.out]
  clear E
  by_cases hM : ¬ Jp.May r
  · refine (MY.out false (Lib.hid (by simp [hM]))).mono ?_
    rintro e w1 ⟨rfl, hb1⟩
    have X1 := X0.out.step hb1
    have Z1 := Z0.out.step hb1
    have B1 := held_trans B0.out hb1
    have HP := Lib.hid (Jp.bal_no hM)
    have d0 := (X1).c0
    have d1 := (X1).c1
    have d2 := (X1).c2
    have d3 := (X1).c3
    have d4 := (X1).c4
    have y0 := (Z1).b5.c0
    have y1 := (Z1).b5.c1
    have y2 := (Z1).b5.c2
    have y3 := (Z1).b5.c3
    have y4 := (Z1).b5.c4
    have g0 := (Z1).f0
    have g1 := (Z1).f1
    have g2 := (Z1).f2
    have g3 := (Z1).f3
    have g4 := (Z1).f4
    have HF := Lib.hid (TellJE.is (F := F) (w0 := w) (d := ⟨A0, nt, ct, R, nr, cr, S, ns, cs⟩) (r := r) (e := 0) (HP.out) ((H.out.below (below_put (b := w.heap.size + 1) B1 (by omega) (.slice A0 nt ct) (.int .i64 r.size) (.slice R nr cr) (.slice S ns cs) (.int .u64 (r.on : Nat)))).mono More.in) (below_put (b := w.heap.size + 1) B1 (by omega) (.slice A0 nt ct) (.int .i64 r.size) (.slice R nr cr) (.slice S ns cs) (.int .u64 (r.on : Nat))))
    obtain ⟨k0, k1, k2, k3, k4⟩ := put5_told (Z1) (.slice A0 nt ct) (.int .i64 r.size) (.slice R nr cr) (.slice S ns cs) (.int .u64 (r.on : Nat))
    unfold put5 at k0 k1 k2 k3 k4
    go_wp2_with fail
    refine bodyPost_ret ?_ rfl HF.out
    simp [results, Tryd.results13, go_sem, k0, k1, k2, k3, k4, jv]
  have hM := Classical.not_not.1 hM
  have HM := Lib.hid hM
  refine (MY.out true (Lib.hid (by simp [hM]))).mono ?_
  rintro e w1 ⟨rfl, hb1⟩
  have X1 := Lib.hid (X0.out.step hb1)
  have Z1 := Lib.hid (Z0.out.step hb1)
  have B1 := Lib.hid (held_trans B0.out hb1)
  have SZ1 := Lib.hid (Nat.lt_of_lt_of_le SZ.out hb1.size)
  have hEN := refEnds_any ⟨A0, nt, ct, R, nr, cr, S, ns, cs⟩ r w1 (H.out.below B1.out) HL.out
  have hne := Jp.rows_some hM
  obtain ⟨lg, hlg⟩ : ∃ l, l = Jp.long r.rows := ⟨_, rfl⟩
  obtain ⟨sd, hsd⟩ : ∃ l, l = Jp.short r.rows := ⟨_, rfl⟩
  have hlgn := Jp.long_lt hne
  have hsdn := Jp.short_lt hne
  rw [← hlg] at hlgn
  rw [← hsd] at hsdn
  have hE : Jp.ends r = ((lg : Int), (sd : Int)) := by unfold Jp.ends; rw [if_neg (fun h => hne (List.length_eq_zero_iff.1 h)), hlg, hsd]
  rw [hE] at hEN
  unfold jv at hEN
  simp only at hEN
  have EN := Lib.hid hEN
  have q0 := X1.out.c0
  have q1 := X1.out.c1
  have q2 := X1.out.c2
  have q3 := X1.out.c3
  have q4 := X1.out.c4
  clear hb1 X0 Z0 B0 MY hM hEN hE
  go_wp2_with fail
  refine EN.out.mono ?_
  rintro e w2 ⟨rfl, hb2⟩
  have X2 := Lib.hid (X1.out.step hb2)
  have Z2 := Lib.hid (Z1.out.step hb2)
  have B2 := Lib.hid (held_trans B1.out hb2)
  have SZ2 := Lib.hid (Nat.lt_of_lt_of_le SZ1.out hb2.size)
  clear hb2 EN q0 q1 q2 q3 q4 X1 Z1 B1
  obtain ⟨bS, oS, Al, cl, hS, cl0, hrl⟩ := (H.out.below B2.out).rowC (i := lg) hlgn
  obtain ⟨b3, o3, Ad, cd, hS3, cs0, hrd⟩ := (H.out.below B2.out).rowC (i := sd) hsdn
  obtain ⟨b4, o4, A4, n4, c4', hS4, hb4, c44w, hrow4, hlie4⟩ := H.out.rowAt2 (Jp.row_at hlgn)
  have c44 := keepcell B2.out c44w
  clear c44w
  simp only at hS hS3 hS4
  subst hS
  injection hS3 with hS3
  injection hS3 with e1 e2 _
  subst e1 e2
  injection hS4 with hS4
  injection hS4 with e1 e2 _
  subst e1 e2
  rw [cl0] at c44
  injection c44 with c44
  injection c44 with c441 c442 c443
  subst c441
  have HBS := Lib.hid hb4
  clear hb4
  have q3 := X2.out.c3
  obtain ⟨nl, hnl⟩ : ∃ n, n = Jp.rlen r.rows lg := ⟨_, rfl⟩
  obtain ⟨nd, hnd⟩ : ∃ n, n = Jp.rlen r.rows sd := ⟨_, rfl⟩
  obtain ⟨xl, hxl⟩ : ∃ x, x = r.rows[lg]?.getD [] := ⟨_, rfl⟩
  obtain ⟨xd, hxd⟩ : ∃ x, x = r.rows[sd]?.getD [] := ⟨_, rfl⟩
  obtain ⟨mv, hmv⟩ : ∃ m, m = Jp.moved r.rows := ⟨_, rfl⟩
  rw [← hnl] at cl0 hrl
  rw [← hnd] at cs0 hrd
  rw [← hxl] at hrl hlie4
  rw [← hxd] at hrd
  have hge : nd ≤ nl := by rw [hnl, hnd, hlg]; exact Jp.long_max hsdn
  have hmv2 : mv = (nl - nd) / 2 := by rw [hmv, hnl, hnd, hlg, hsd]; rfl
  have hn400 : nl ≤ 400 := by rw [← hrl.len, hxl]; exact HL.out.row _ (List.mem_of_getElem? (Jp.row_at hlgn))
  have HEV := Lib.hid (show Jp.even r.rows = (r.rows.set lg (xl.take (nl - mv))).set sd (xd ++ xl.drop (nl - mv)) by unfold Jp.even; rw [← hlg, ← hsd, ← hnl, ← hmv, ← hxl, ← hxd])
  have HBAL := Lib.hid (show Jp.bal r = ({ r with rows := Jp.even r.rows }, (mv : Int)) by rw [Jp.bal_may HM.out, Jp.balOn_is, hmv])
  have HBZ := Lib.hid (show mv = 0 → Jp.bal r = (r, 0) from fun h => by rw [Jp.bal_may HM.out]; unfold Jp.balOn; rw [← hmv, if_pos h])
  obtain ⟨dd, hdd⟩ : ∃ d, d = nl - nd := ⟨_, rfl⟩
  have e1 : IntKind.i64.wrap ((nl : Int) - (nd : Int)) = (dd : Int) := by rw [IntWalk.i64_in _ (by omega)]; omega
  have e2 : Int.tdiv (dd : Int) 2 = (mv : Int) := by rw [hmv2, ← hdd]; rfl
  have e3 : (dd : Int) / 2 = (mv : Int) := by omega
  have i0 : (0 : Int) ≤ (lg : Int) := by omega
  have i1 : (lg : Int) < (ns : Int) := by omega
  have i2 : (0 : Int) ≤ (sd : Int) := by omega
  have i3 : (sd : Int) < (ns : Int) := by omega
  have e4 : IntKind.i64.wrap (mv : Int) = (mv : Int) := IntWalk.i64_in _ (by omega)
  have HRL := Lib.hid hrl
  have HRD := Lib.hid hrd
  have HLIE := Lib.hid hlie4
  have HMV := Lib.hid hmv2
  have HND := Lib.hid (show nd ≤ 400 by omega)
  have HLN := Lib.hid hlgn
  have HSN := Lib.hid hsdn
  clear hrl hrd hlie4 hrow4 hxl hxd hnl hnd hmv hlg hsd hdd hmv2 hne hlgn hsdn c442 c443
  by_cases hm0 : mv = 0
  · subst hm0
    have z0 : (((0 : Nat) : Int) == 0) = true := rfl
    have HP := Lib.hid (HBZ.out rfl)
    clear HBZ HBAL
    have d0 := ((X2.out)).c0
    have d1 := ((X2.out)).c1
    have d2 := ((X2.out)).c2
    have d3 := ((X2.out)).c3
    have d4 := ((X2.out)).c4
    have y0 := ((Z2.out)).b5.c0
    have y1 := ((Z2.out)).b5.c1
    have y2 := ((Z2.out)).b5.c2
    have y3 := ((Z2.out)).b5.c3
    have y4 := ((Z2.out)).b5.c4
    have g0 := ((Z2.out)).f0
    have g1 := ((Z2.out)).f1
    have g2 := ((Z2.out)).f2
    have g3 := ((Z2.out)).f3
    have g4 := ((Z2.out)).f4
    have HF := Lib.hid (TellJE.is (F := F) (w0 := w) (d := ⟨A0, nt, ct, R, nr, cr, (some ⟨bS, oS, none⟩), ns, cs⟩) (r := r) (e := 0) (HP.out) ((H.out.below (below_put (b := w.heap.size + 1) (B2.out) (by omega) (.slice A0 nt ct) (.int .i64 r.size) (.slice R nr cr) (.slice (some ⟨bS, oS, none⟩) ns cs) (.int .u64 (r.on : Nat)))).mono More.in) (below_put (b := w.heap.size + 1) (B2.out) (by omega) (.slice A0 nt ct) (.int .i64 r.size) (.slice R nr cr) (.slice (some ⟨bS, oS, none⟩) ns cs) (.int .u64 (r.on : Nat))))
    obtain ⟨k0, k1, k2, k3, k4⟩ := put5_told ((Z2.out)) (.slice A0 nt ct) (.int .i64 r.size) (.slice R nr cr) (.slice (some ⟨bS, oS, none⟩) ns cs) (.int .u64 (r.on : Nat))
    unfold put5 at k0 k1 k2 k3 k4
    go_wp2_with fail
    refine bodyPost_ret ?_ rfl HF.out
    simp [results, Tryd.results13, go_sem, k0, k1, k2, k3, k4, jv]
  have z0 : ((mv : Int) == 0) = false := by rw [beq_eq_false_iff_ne]; omega
  have hm1 : 2 * mv ≤ nl := by have := HMV.out; omega
  obtain ⟨rs, hrs⟩ : ∃ n, n = nl - mv := ⟨_, rfl⟩
  rw [← hrs] at HEV
  have e5 : IntKind.i64.wrap ((nl : Int) - (mv : Int)) = (rs : Int) := by rw [IntWalk.i64_in _ (by omega)]; omega
  obtain ⟨bl, ol, rfl, _, _⟩ := HRL.out.cells (by omega)
  have hcl := HRL.out.cap
  have f1 : (0 : Int) ≤ (rs : Int) := by omega
  have f2 : (rs : Int) ≤ (nl : Int) := by omega
  have f3 : ¬ (nl : Int) < (rs : Int) := by omega
  have f4 : rs ≤ nl := by omega
  have f5 : ¬ cl = rs := by omega
  have f6 : (rs : Int) ≤ (cl : Int) := by omega
  have f7 : ¬ (cl : Int) < (rs : Int) := by omega
  have hsl := HRL.out.slice rs f4
  rw [if_neg f5] at hsl
  have HSL := Lib.hid hsl
  have HTK := Lib.hid (HRL.out.take rs f4)
  have HRS := Lib.hid hrs
  clear hsl hrs hge
  go_wp2_with fail
  refine wp_region_held_drew (S := fun w' => w'.cell? ⟨w.heap.size, 3, none⟩ = some (.slice (some ⟨bS, oS, none⟩) ns cs) ∧ w'.cell? ⟨bS, oS + lg, none⟩ = some (.slice (some ⟨bl, ol, none⟩) nl cl) ∧ w'.cell? ⟨bS, oS + sd, none⟩ = some (.slice Ad nd cd)) (by kernel_rfl) ⟨q3, cl0, cs0⟩ (fun hHeld => ?_)
  have hdr := (Below.refl w2.heap.size w2).drew
  obtain ⟨w3, hw3⟩ : ∃ V, V = w2.drew := ⟨_, rfl⟩
  rw [← hw3] at hdr hHeld ⊢
  clear hw3
  refine wpAnyH_takesJ (i := 0) (v := (.pointer (some ⟨w.heap.size, 3, none⟩))) (some 36) rfl rfl (by kernel_rfl) (by kernel_rfl) (by kernel_rfl) (fun _ _ _ h => h) (Or.inl ⟨by rfl, (by intro W9 hSw; (try dsimp only at hSw); go_simp; first | done | with_reducible rfl)⟩) (by assumption) ?_
  simp only [Act.put, List.setIfInBounds_toArray]; try simp only [List.set_cons_zero, List.set_cons_succ]
  refine wpAnyH_takesJ (i := 1) (v := (.slice (some ⟨bS, oS, none⟩) ns cs)) (some 37) rfl rfl (by kernel_rfl) (by kernel_rfl) (by kernel_rfl) (fun _ _ _ h => h) (Or.inl ⟨by rfl, (by intro W9 hSw; (try dsimp only at hSw); go_simp; first | done | with_reducible rfl)⟩) (by assumption) ?_
  simp only [Act.put, List.setIfInBounds_toArray]; try simp only [List.set_cons_zero, List.set_cons_succ]
  refine wpAnyH_takesJ (i := 2) (v := (.int .i64 (sd : Nat))) (some 38) rfl rfl (by kernel_rfl) (by kernel_rfl) (by kernel_rfl) (fun _ _ _ h => h) (Or.inl ⟨by rfl, (by intro W9 hSw; (try dsimp only at hSw); go_simp; first | done | with_reducible rfl)⟩) (by assumption) ?_
  simp only [Act.put, List.setIfInBounds_toArray]; try simp only [List.set_cons_zero, List.set_cons_succ]
  refine wpAnyH_takesJ (i := 3) (v := (.pointer (some ⟨bS, oS + sd, none⟩))) (some 39) rfl rfl (by kernel_rfl) (by kernel_rfl) (by kernel_rfl) (fun _ _ _ h => h) (Or.inl ⟨by rfl, (by intro W9 hSw; (try dsimp only at hSw); go_simp; first | done | with_reducible rfl)⟩) (by assumption) ?_
  simp only [Act.put, List.setIfInBounds_toArray]; try simp only [List.set_cons_zero, List.set_cons_succ]
  refine wpAnyH_takesJ (i := 4) (v := (.slice Ad nd cd)) (some 40) rfl rfl (by kernel_rfl) (by kernel_rfl) (by kernel_rfl) (fun _ _ _ h => h) (Or.inl ⟨by rfl, (by intro W9 hSw; (try dsimp only at hSw); go_simp; first | done | with_reducible rfl)⟩) (by assumption) ?_
  simp only [Act.put, List.setIfInBounds_toArray]; try simp only [List.set_cons_zero, List.set_cons_succ]
  refine wpAnyH_takesJ (i := 5) (v := (.pointer (some ⟨w.heap.size, 3, none⟩))) (some 41) rfl rfl (by kernel_rfl) (by kernel_rfl) (by kernel_rfl) (fun _ _ _ h => h) (Or.inl ⟨by rfl, (by intro W9 hSw; (try dsimp only at hSw); go_simp; first | done | with_reducible rfl)⟩) (by assumption) ?_
  simp only [Act.put, List.setIfInBounds_toArray]; try simp only [List.set_cons_zero, List.set_cons_succ]
  refine wpAnyH_takesJ (i := 6) (v := (.slice (some ⟨bS, oS, none⟩) ns cs)) (some 42) rfl rfl (by kernel_rfl) (by kernel_rfl) (by kernel_rfl) (fun _ _ _ h => h) (Or.inl ⟨by rfl, (by intro W9 hSw; (try dsimp only at hSw); go_simp; first | done | with_reducible rfl)⟩) (by assumption) ?_
  simp only [Act.put, List.setIfInBounds_toArray]; try simp only [List.set_cons_zero, List.set_cons_succ]
  refine wpAnyH_takesJ (i := 7) (v := (.int .i64 (lg : Nat))) (some 43) rfl rfl (by kernel_rfl) (by kernel_rfl) (by kernel_rfl) (fun _ _ _ h => h) (Or.inl ⟨by rfl, (by intro W9 hSw; (try dsimp only at hSw); go_simp; first | done | with_reducible rfl)⟩) (by assumption) ?_
  simp only [Act.put, List.setIfInBounds_toArray]; try simp only [List.set_cons_zero, List.set_cons_succ]
  refine wpAnyH_takesJ (i := 8) (v := (.pointer (some ⟨bS, oS + lg, none⟩))) (some 44) rfl rfl (by kernel_rfl) (by kernel_rfl) (by kernel_rfl) (fun _ _ _ h => h) (Or.inl ⟨by rfl, (by intro W9 hSw; (try dsimp only at hSw); go_simp; first | done | with_reducible rfl)⟩) (by assumption) ?_
  simp only [Act.put, List.setIfInBounds_toArray]; try simp only [List.set_cons_zero, List.set_cons_succ]
  refine wpAnyH_takesJ (i := 9) (v := (.slice (some ⟨bl, ol, none⟩) nl cl)) (some 45) rfl rfl (by kernel_rfl) (by kernel_rfl) (by kernel_rfl) (fun _ _ _ h => h) (Or.inl ⟨by rfl, (by intro W9 hSw; (try dsimp only at hSw); go_simp; first | done | with_reducible rfl)⟩) (by assumption) ?_
  simp only [Act.put, List.setIfInBounds_toArray]; try simp only [List.set_cons_zero, List.set_cons_succ]
  refine wpAnyH_takesJ (i := 10) (v := (.int .i64 (nl : Nat))) (some 46) rfl rfl (by kernel_rfl) (by kernel_rfl) (by kernel_rfl) (fun _ _ _ h => h) (Or.inl ⟨by rfl, (by intro W9 hSw; (try dsimp only at hSw); go_simp; first | done | with_reducible rfl)⟩) (by assumption) ?_
  simp only [Act.put, List.setIfInBounds_toArray]; try simp only [List.set_cons_zero, List.set_cons_succ]
  refine wpAnyH_takesJ (i := 11) (v := (.int .i64 (mv : Nat))) (some 47) rfl rfl (by kernel_rfl) (by kernel_rfl) (by kernel_rfl) (fun _ _ _ h => h) (Or.inl ⟨by rfl, (by intro W9 hSw; (try dsimp only at hSw); go_simp; first | done | with_reducible rfl)⟩) (by assumption) ?_
  simp only [Act.put, List.setIfInBounds_toArray]; try simp only [List.set_cons_zero, List.set_cons_succ]
  refine wpAnyH_takesJ (i := 12) (v := (.int .i64 (rs : Nat))) (some 48) rfl rfl (by kernel_rfl) (by kernel_rfl) (by kernel_rfl) (fun _ _ _ h => h) (Or.inl ⟨by rfl, (by intro W9 hSw; (try dsimp only at hSw); go_simp; first | done | with_reducible rfl)⟩) (by assumption) ?_
  simp only [Act.put, List.setIfInBounds_toArray]; try simp only [List.set_cons_zero, List.set_cons_succ]
  refine wpAnyH_takesJ (i := 13) (v := (.slice (some ⟨bl, ol + rs, none⟩) (nl - rs : Nat) (cl - rs : Nat))) (some 49) rfl rfl (by kernel_rfl) (by kernel_rfl) (by kernel_rfl) (fun _ _ _ h => h) (Or.inl ⟨by rfl, (by intro W9 hSw; (try dsimp only at hSw); go_simp; first | done | with_reducible rfl)⟩) (by assumption) ?_
  simp only [Act.put, List.setIfInBounds_toArray]; try simp only [List.set_cons_zero, List.set_cons_succ]
  refine wpAnyH_ready (rs := [14]) (by kernel_rfl) (by simp) ?_
  refine AllReadyH.cons rfl (fun K hK => ?_) AllReadyH.nil
  go_simp
  go_at_call 26
  refine (jbehind_any Ad (some ⟨bl, ol + rs, none⟩) nd cd (nl - rs) (cl - rs) xd (xl.drop rs) w3 (HRD.out.below hdr) (HSL.out.below hdr) (by have := HND.out; omega)).mono ?_
  rintro e w5 ⟨A5, m5, c5, rfl, hr5, hf5, hb5⟩
  have hb25 := hdr.trans (hb5.mono hdr.size)
  have X5 := Lib.hid (X2.out.step hb25)
  have Z5 := Lib.hid (Z2.out.step hb25)
  have B5h := Lib.hid (held_trans B2.out hb25)
  have R5 := Lib.hid hr5
  have F5 := Lib.hid (show From w2.heap.size A5 from hf5.mono hdr.size)
  have SZ5 := Lib.hid hb25.size
  have HTK5 := Lib.hid (HTK.out.below hb25)
  have cl5 := keepcell hb25 cl0
  have cs5 := keepcell hb25 cs0
  refine hK.out _ _ (by exact ⟨X5.out.c3, cl5, cs5⟩) (fun hHeld => ?_)
  clear hK K hb5 hr5 hf5 X2 Z2 B2 hdr hb25 q3 cl0 cs0 HTK
  try dsimp only
  refine wpAnyH_takesJ (i := 15) (v := (.slice A5 m5 c5)) (some 8) rfl rfl (by kernel_rfl) (by kernel_rfl) (by kernel_rfl) (fun _ _ _ h => h) (Or.inl ⟨by rfl, (by intro W9 hSw; (try dsimp only at hSw); go_simp; first | done | with_reducible rfl)⟩) (by assumption) ?_
  simp only [Act.put, List.setIfInBounds_toArray]; try simp only [List.set_cons_zero, List.set_cons_succ]
  refine wpAnyH_done (by kernel_rfl) ?_ _
  clear hHeld cs5
  go_wp2_with fail
  refine wp_region_held_drew (S := fun w' => (w'.cell? ⟨w.heap.size, 0, none⟩ = some (.slice A0 nt ct) ∧ w'.cell? ⟨w.heap.size, 1, none⟩ = some (.int .i64 r.size) ∧ w'.cell? ⟨w.heap.size, 2, none⟩ = some (.slice R nr cr) ∧ w'.cell? ⟨w.heap.size, 3, none⟩ = some (.slice (some ⟨bS, oS, none⟩) ns cs) ∧ w'.cell? ⟨w.heap.size, 4, none⟩ = some (.int .u64 (r.on : Nat))) ∧ w'.cell? ⟨bS, oS + lg, none⟩ = some (.slice (some ⟨bl, ol, none⟩) nl cl)) (by kernel_rfl) ⟨⟨X5.out.c0, X5.out.c1, X5.out.c2, X5.out.c3, X5.out.c4⟩, cl5⟩ (fun hHeld => ?_)
  have hdr := (Below.refl w5.heap.size w5).drew
  obtain ⟨w6, hw6⟩ : ∃ V, V = w5.drew := ⟨_, rfl⟩
  rw [← hw6] at hdr hHeld ⊢
  clear hw6
  refine wpAnyH_takesJ (i := 0) (v := (.agg #[.slice A0 nt ct, .int .i64 r.size, .slice R nr cr, .slice (some ⟨bS, oS, none⟩) ns cs, .int .u64 (r.on : Nat)])) (some 51) rfl rfl (by kernel_rfl) (by kernel_rfl) (by kernel_rfl) (fun _ _ _ h => h) (Or.inl ⟨by rfl, (by intro W9 hSw; (try dsimp only at hSw); go_simp; first | done | with_reducible rfl)⟩) (by assumption) ?_
  simp only [Act.put, List.setIfInBounds_toArray]; try simp only [List.set_cons_zero, List.set_cons_succ]
  refine wpAnyH_takesJ (i := 1) (v := (.int .i64 (lg : Nat))) (some 52) rfl rfl (by kernel_rfl) (by kernel_rfl) (by kernel_rfl) (fun _ _ _ h => h) (Or.inl ⟨by rfl, (by intro W9 hSw; (try dsimp only at hSw); go_simp; first | done | with_reducible rfl)⟩) (by assumption) ?_
  simp only [Act.put, List.setIfInBounds_toArray]; try simp only [List.set_cons_zero, List.set_cons_succ]
  refine wpAnyH_takesJ (i := 2) (v := (.pointer (some ⟨w.heap.size, 3, none⟩))) (some 53) rfl rfl (by kernel_rfl) (by kernel_rfl) (by kernel_rfl) (fun _ _ _ h => h) (Or.inl ⟨by rfl, (by intro W9 hSw; (try dsimp only at hSw); go_simp; first | done | with_reducible rfl)⟩) (by assumption) ?_
  simp only [Act.put, List.setIfInBounds_toArray]; try simp only [List.set_cons_zero, List.set_cons_succ]
  refine wpAnyH_takesJ (i := 3) (v := (.slice (some ⟨bS, oS, none⟩) ns cs)) (some 54) rfl rfl (by kernel_rfl) (by kernel_rfl) (by kernel_rfl) (fun _ _ _ h => h) (Or.inl ⟨by rfl, (by intro W9 hSw; (try dsimp only at hSw); go_simp; first | done | with_reducible rfl)⟩) (by assumption) ?_
  simp only [Act.put, List.setIfInBounds_toArray]; try simp only [List.set_cons_zero, List.set_cons_succ]
  refine wpAnyH_takesJ (i := 4) (v := (.int .i64 (lg : Nat))) (some 55) rfl rfl (by kernel_rfl) (by kernel_rfl) (by kernel_rfl) (fun _ _ _ h => h) (Or.inl ⟨by rfl, (by intro W9 hSw; (try dsimp only at hSw); go_simp; first | done | with_reducible rfl)⟩) (by assumption) ?_
  simp only [Act.put, List.setIfInBounds_toArray]; try simp only [List.set_cons_zero, List.set_cons_succ]
  refine wpAnyH_takesJ (i := 5) (v := (.pointer (some ⟨bS, oS + lg, none⟩))) (some 56) rfl rfl (by kernel_rfl) (by kernel_rfl) (by kernel_rfl) (fun _ _ _ h => h) (Or.inl ⟨by rfl, (by intro W9 hSw; (try dsimp only at hSw); go_simp; first | done | with_reducible rfl)⟩) (by assumption) ?_
  simp only [Act.put, List.setIfInBounds_toArray]; try simp only [List.set_cons_zero, List.set_cons_succ]
  refine wpAnyH_takesJ (i := 6) (v := (.slice (some ⟨bl, ol, none⟩) nl cl)) (some 57) rfl rfl (by kernel_rfl) (by kernel_rfl) (by kernel_rfl) (fun _ _ _ h => h) (Or.inl ⟨by rfl, (by intro W9 hSw; (try dsimp only at hSw); go_simp; first | done | with_reducible rfl)⟩) (by assumption) ?_
  simp only [Act.put, List.setIfInBounds_toArray]; try simp only [List.set_cons_zero, List.set_cons_succ]
  refine wpAnyH_takesJ (i := 7) (v := (.int .i64 (nl : Nat))) (some 58) rfl rfl (by kernel_rfl) (by kernel_rfl) (by kernel_rfl) (fun _ _ _ h => h) (Or.inl ⟨by rfl, (by intro W9 hSw; (try dsimp only at hSw); go_simp; first | done | with_reducible rfl)⟩) (by assumption) ?_
  simp only [Act.put, List.setIfInBounds_toArray]; try simp only [List.set_cons_zero, List.set_cons_succ]
  refine wpAnyH_takesJ (i := 8) (v := (.int .i64 (mv : Nat))) (some 59) rfl rfl (by kernel_rfl) (by kernel_rfl) (by kernel_rfl) (fun _ _ _ h => h) (Or.inl ⟨by rfl, (by intro W9 hSw; (try dsimp only at hSw); go_simp; first | done | with_reducible rfl)⟩) (by assumption) ?_
  simp only [Act.put, List.setIfInBounds_toArray]; try simp only [List.set_cons_zero, List.set_cons_succ]
  refine wpAnyH_takesJ (i := 9) (v := (.int .i64 (rs : Nat))) (some 60) rfl rfl (by kernel_rfl) (by kernel_rfl) (by kernel_rfl) (fun _ _ _ h => h) (Or.inl ⟨by rfl, (by intro W9 hSw; (try dsimp only at hSw); go_simp; first | done | with_reducible rfl)⟩) (by assumption) ?_
  simp only [Act.put, List.setIfInBounds_toArray]; try simp only [List.set_cons_zero, List.set_cons_succ]
  refine wpAnyH_takesJ (i := 10) (v := (.slice (some ⟨bl, ol, none⟩) rs cl)) (some 61) rfl rfl (by kernel_rfl) (by kernel_rfl) (by kernel_rfl) (fun _ _ _ h => h) (Or.inl ⟨by rfl, (by intro W9 hSw; (try dsimp only at hSw); go_simp; first | done | with_reducible rfl)⟩) (by assumption) ?_
  simp only [Act.put, List.setIfInBounds_toArray]; try simp only [List.set_cons_zero, List.set_cons_succ]
  refine wpAnyH_takesJ (i := 12) (v := (.int .i64 (sd : Nat))) (some 63) rfl rfl (by kernel_rfl) (by kernel_rfl) (by kernel_rfl) (fun _ _ _ h => h) (Or.inl ⟨by rfl, (by intro W9 hSw; (try dsimp only at hSw); go_simp; first | done | with_reducible rfl)⟩) (by assumption) ?_
  simp only [Act.put, List.setIfInBounds_toArray]; try simp only [List.set_cons_zero, List.set_cons_succ]
  refine wpAnyH_takesJ (i := 13) (v := (.slice A5 m5 c5)) (some 64) rfl rfl (by kernel_rfl) (by kernel_rfl) (by kernel_rfl) (fun _ _ _ h => h) (Or.inl ⟨by rfl, (by intro W9 hSw; (try dsimp only at hSw); go_simp; first | done | with_reducible rfl)⟩) (by assumption) ?_
  simp only [Act.put, List.setIfInBounds_toArray]; try simp only [List.set_cons_zero, List.set_cons_succ]
  refine wpAnyH_takesJ (i := 15) (v := (.int .i64 (mv : Nat))) (some 66) rfl rfl (by kernel_rfl) (by kernel_rfl) (by kernel_rfl) (fun _ _ _ h => h) (Or.inl ⟨by rfl, (by intro W9 hSw; (try dsimp only at hSw); go_simp; first | done | with_reducible rfl)⟩) (by assumption) ?_
  simp only [Act.put, List.setIfInBounds_toArray]; try simp only [List.set_cons_zero, List.set_cons_succ]
  refine wpAnyH_ready (rs := [11]) (by kernel_rfl) (by simp) ?_
  refine AllReadyH.cons rfl (fun K hK => ?_) AllReadyH.nil
  go_simp
  go_at_call 27
  refine (jrowed_any ⟨A0, nt, ct, R, nr, cr, some ⟨bS, oS, none⟩, ns, cs⟩ r lg (xl.take rs) (some ⟨bl, ol, none⟩) rs cl w6 ((H.out.below (held_trans B5h.out hdr)).mono (G := More F w2) More.in) (by have := HLN.out; simp only; omega) (by simp only; omega) (HTK5.out.below hdr) (fun _ ad e => by injection e with e; subst e; exact .inl (HLIE.out (fun e => by have := HRL.out.len; rw [e] at this; simp at this; omega) _ rfl))).mono ?_
  rintro e w7 ⟨⟨T7, nt7, ct7, R7, nr7, cr7, S7, ns7, cs7⟩, rfl, hm7, hb7⟩
  have hb57 := hdr.trans (hb7.mono hdr.size)
  obtain ⟨r1, hr1⟩ : ∃ x, x = Jp.rowed r lg (xl.take rs) := ⟨_, rfl⟩
  rw [← hr1] at hm7 ⊢
  have HR1 := Lib.hid hr1
  clear hr1
  unfold jv
  simp only
  have cl7 := keepcell hb57 cl5
  have X7 := Lib.hid (X5.out.step hb57)
  have Z7 := Lib.hid (Z5.out.step hb57)
  have B7 := Lib.hid (held_trans B5h.out hb57)
  have R7' := Lib.hid (R5.out.below hb57)
  have M7 := Lib.hid hm7
  have SZ7 := Lib.hid hb57.size
  have SZ6 := Lib.hid hdr.size
  refine hK.out _ _ (by exact ⟨⟨X7.out.c0, X7.out.c1, X7.out.c2, X7.out.c3, X7.out.c4⟩, cl7⟩) (fun hHeld => ?_)
  clear hK K hb7 hm7 X5 Z5 B5h R5 cl5 hb57 hdr
  try dsimp only
  have hns7 := M7.out.ns
  simp only at hns7
  have hn7 : ns7 = ns := by rw [← hns7.1, HR1.out]; show (r.rows.set lg (xl.take rs)).length = ns; rw [List.length_set]; exact hs1
  have hle7 : ns7 ≤ 1000 := by omega
  have hsd7 : sd < ns7 := by have := HSN.out; omega
  clear hn7 hns7
  refine wpAnyH_ready (rs := [14]) (by kernel_rfl) (by simp) ?_
  refine AllReadyH.cons rfl (fun K hK => ?_) AllReadyH.nil
  go_simp
  go_at_call 27
  refine (jrowed_any ⟨T7, nt7, ct7, R7, nr7, cr7, S7, ns7, cs7⟩ r1 sd (xd ++ xl.drop rs) A5 m5 c5 w7 (M7.out.mono (G := fun b => F b ∨ w2.heap.size ≤ b) (fun b hb => by
    rcases hb with (h | h) | h
    · exact .inl h
    · exact .inr h
    · exact .inr (by have := SZ5.out; have := SZ6.out; omega))) hsd7 hle7 R7'.out (fun _ ad e => .inr (F5.out ad e))).mono ?_
  rintro e w8 ⟨⟨T8, nt8, ct8, R8, nr8, cr8, S8, ns8, cs8⟩, rfl, hm8, hb8⟩
  obtain ⟨re, hre⟩ : ∃ x, x = Jp.rowed r1 sd (xd ++ xl.drop rs) := ⟨_, rfl⟩
  rw [← hre] at hm8 ⊢
  have HP := Lib.hid (show Jp.bal r = (re, (mv : Int)) by rw [HBAL.out, hre, HR1.out, HEV.out]; rfl)
  have HRE := Lib.hid hre
  unfold jv
  simp only
  have cl8 := keepcell hb8 cl7
  have X8 := Lib.hid (X7.out.step hb8)
  have Z8 := Lib.hid (Z7.out.step hb8)
  have B8 := Lib.hid (held_trans B7.out hb8)
  have M8 := Lib.hid hm8
  have SZ8 := Lib.hid hb8.size
  refine hK.out _ _ (by exact ⟨⟨X8.out.c0, X8.out.c1, X8.out.c2, X8.out.c3, X8.out.c4⟩, cl8⟩) (fun hHeld => ?_)
  clear hK K hb8 hm8 X7 Z7 B7 cl7 hre
  try dsimp only
  have y0 := Z8.out.b5.c0
  have y1 := Z8.out.b5.c1
  have y2 := Z8.out.b5.c2
  have y3 := Z8.out.b5.c3
  have y4 := Z8.out.b5.c4
  have g0 := Z8.out.f0
  have g1 := Z8.out.f1
  have g2 := Z8.out.f2
  have g3 := Z8.out.f3
  have g4 := Z8.out.f4
  refine wpAnyH_ready (rs := [16]) (by kernel_rfl) (by simp) ?_
  refine AllReadyH.cons rfl (fun K hK => ?_) AllReadyH.nil
  go_simp
  have hbS : bS ≠ w.heap.size + 1 := fun e => by have := HBS.out; omega
  have hXZ : w.heap.size ≠ w.heap.size + 1 := by omega
  refine hK.out _ _ (by exact ⟨⟨far5 hXZ X8.out.c0, far5 hXZ X8.out.c1, far5 hXZ X8.out.c2, far5 hXZ X8.out.c3, far5 hXZ X8.out.c4⟩, far5 hbS cl8⟩) (fun hHeld => ?_)
  clear hK K y0 y1 y2 y3 y4 g0 g1 g2 g3 g4
  try dsimp only
  refine wpAnyH_takesJ (i := 17) (v := (.int .i64 (mv : Nat))) (some 3) rfl rfl (by kernel_rfl) (by kernel_rfl) (by kernel_rfl) (fun _ _ _ h => h) (Or.inl ⟨by rfl, (by intro W9 hSw; (try dsimp only at hSw); go_simp; first | done | with_reducible rfl)⟩) (by assumption) ?_
  simp only [Act.put, List.setIfInBounds_toArray]; try simp only [List.set_cons_zero, List.set_cons_succ]
  refine wpAnyH_done (by kernel_rfl) ?_ _
  obtain ⟨k0, k1, k2, k3, k4⟩ := put5_told Z8.out (.slice T8 nt8 ct8) (.int .i64 re.size) (.slice R8 nr8 cr8) (.slice S8 ns8 cs8) (.int .u64 (re.on : Nat))
  have B9 := below_put (b := w.heap.size + 1) B8.out (by omega) (.slice T8 nt8 ct8) (.int .i64 re.size) (.slice R8 nr8 cr8) (.slice S8 ns8 cs8) (.int .u64 (re.on : Nat))
  have hX : ¬ More (fun b => F b ∨ w2.heap.size ≤ b) w7 (w.heap.size + 1) := fun h => by
    rcases h with (h | h) | h
    · have := HFW.out _ h; omega
    · have := SZ2.out; omega
    · have := SZ2.out; have := SZ5.out; have := SZ7.out; omega
  have M9 := (M8.out.put hX (.slice T8 nt8 ct8) (.int .i64 re.size) (.slice R8 nr8 cr8) (.slice S8 ns8 cs8) (.int .u64 (re.on : Nat))).mono (G := More F w) (fun b h => by
    rcases h with (h | h) | h
    · exact .inl h
    · exact .inr (by have := SZ2.out; omega)
    · exact .inr (by have := SZ2.out; have := SZ5.out; have := SZ7.out; omega))
  have HF := Lib.hid (TellJE.is (F := F) (e := (mv : Int)) HP.out M9 B9)
  unfold put5 at k0 k1 k2 k3 k4
  clear M9 B9 hX
  go_wp2_with fail
  refine bodyPost_ret ?_ rfl HF.out
  simp [results, Tryd.results13, go_sem, k0, k1, k2, k3, k4, jv]
end Go.Proofs.YthbeldmgaioemaaDoor

