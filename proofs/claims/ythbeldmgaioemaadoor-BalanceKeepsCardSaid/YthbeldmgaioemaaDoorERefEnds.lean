/- The document's Ends, by its contract. -/
import Derived.Test.YthbeldmgaioemaaDoorM7
import Derived.Test.YthbeldmgaioemaaDoorM6
import Derived.Test.YthbeldmgaioemaaDoorJRefMay
namespace Go.Proofs.YthbeldmgaioemaaDoor
open Go.RowKit
set_option linter.unusedVariables false

/-- Row i of the rows, where they lie. -/
theorem RM.rowC {F : Nat → Prop} {w : World} {d : Ad} {r : Jp.Rn} (h : RM F w d r) {i : Nat} (hi : i < r.rows.length) :
    ∃ b off A c, d.S = some ⟨b, off, none⟩ ∧ w.cell? ⟨b, off + i, none⟩ = some (.slice A (Jp.rlen r.rows i) c) ∧ Row w A (Jp.rlen r.rows i) c (r.rows[i]?.getD []) := by
  obtain ⟨b, off, A, n, c, h1, _, h2, h3⟩ := h.rowAt (Jp.row_at hi)
  have h4 := h3.len
  have h5 : Jp.rlen r.rows i = n := h4
  subst h5
  exact ⟨b, off, A, c, h1, h2, h3⟩
set_option maxRecDepth 100000 in
set_option maxHeartbeats 2000000 in
theorem refEnds_any {F : Nat → Prop} (d : Ad) (r : Jp.Rn) (w : World) (h : RM F w d r) (hlow : Low r) :
    Calls Tryd.prog 15 #[jv d r] w fun e w' => e = .returned (.tuple #[.int .i64 (Jp.ends r).1, .int .i64 (Jp.ends r).2]) ∧ Below w.heap.size w w' := by
  obtain ⟨A0, nt, ct, R, nr, cr, S, ns, cs⟩ := d
  have H := Lib.hid h
  obtain ⟨hs1, hs2, hs3⟩ := h.ns
  have hs4 := hlow.rows
  simp only at hs1 hs2 hs3
  obtain ⟨V, hV, hX, hB⟩ := B5.start w (.slice A0 nt ct) (.int .i64 r.size) (.slice R nr cr) (.slice S ns cs) (.int .u64 (r.on : Nat)) 27
  have E := Lib.hid hV
  have X0 := Lib.hid hX
  have B0 := Lib.hid hB
  have q3 := hX.c3
  clear hV hX hB h hlow
  unfold jv
  go_enter Tryd.func15, Tryd.ntmps15
  by_cases h0 : ns = 0
  · subst h0
    have HE := Lib.hid (show Jp.ends r = (-1, -1) by unfold Jp.ends; rw [if_pos hs1])
    go_wp2_with (rw [← E.out])
    refine bodyPost_ret (v := .tuple #[.int .i64 (-1), .int .i64 (-1)]) (by simp [results, Tryd.results15, go_sem]) rfl ?_
    exact ⟨by rw [HE.out], B0.out⟩
  have HE := Lib.hid (show Jp.ends r = (((Jp.longTo r.rows (ns - 1) : Nat) : Int), ((Jp.shortTo r.rows (ns - 1) : Nat) : Int)) by unfold Jp.ends Jp.long Jp.short; rw [if_neg (by omega), hs1])
  have z0 : ((ns : Int) == 0) = false := by rw [beq_eq_false_iff_ne]; omega
  go_wp2_with (rw [← E.out])
  clear E
  go_loopw [4, 5, 6] (fun l s i wr => ∃ k : Nat, 1 ≤ k ∧ k ≤ ns ∧ l = .int .i64 (Jp.longTo r.rows (k - 1) : Nat) ∧ s = .int .i64 (Jp.shortTo r.rows (k - 1) : Nat) ∧ i = .int .i64 k ∧ Hid (Below V.heap.size V wr)) (fun _ _ i _ => ns - (intOf i).toNat)
  case atStart => exact ⟨1, Nat.le_refl _, by omega, rfl, rfl, rfl, Lib.hid (Below.refl _ _)⟩
  case round =>
    clear q3
    obtain ⟨k, hk1, hk2, rfl, rfl, rfl, HW⟩ := hrel
    obtain ⟨lg, hlg⟩ : ∃ l, l = Jp.longTo r.rows (k - 1) := ⟨_, rfl⟩
    obtain ⟨sd, hsd⟩ : ∃ l, l = Jp.shortTo r.rows (k - 1) := ⟨_, rfl⟩
    have hle := Jp.longTo_le r.rows (k - 1)
    have hse := Jp.shortTo_le r.rows (k - 1)
    rw [← hlg, ← hsd]
    rw [← hlg] at hle
    rw [← hsd] at hse
    have HLG := Lib.hid hlg
    have HSD := Lib.hid hsd
    obtain ⟨V4, hV4⟩ : ∃ V, V = wr := ⟨_, rfl⟩
    rw [← hV4] at HW
    have HVR := Lib.hid hV4
    have BV4 := HW
    have q3 := (X0.out.step HW.out).c3
    clear hV4 hlg hsd
    by_cases hlt : k < ns
    · have M4 := H.out.below (held_trans B0.out HW.out)
      obtain ⟨bS, oS, Ak, ck, hS, ck0, _⟩ := M4.rowC (i := k) (by omega)
      obtain ⟨b2, o2, Al, cl, hS2, cl0, _⟩ := M4.rowC (i := lg) (by omega)
      obtain ⟨b3, o3, Ad, cd, hS3, cs0, _⟩ := M4.rowC (i := sd) (by omega)
      simp only at hS hS2 hS3
      subst hS
      injection hS2 with hS2
      injection hS2 with e1 e2 _
      subst e1 e2
      injection hS3 with hS3
      injection hS3 with e1 e2 _
      subst e1 e2
      obtain ⟨nk, hnk⟩ : ∃ n, n = Jp.rlen r.rows k := ⟨_, rfl⟩
      obtain ⟨nl, hnl⟩ : ∃ n, n = Jp.rlen r.rows lg := ⟨_, rfl⟩
      obtain ⟨nd, hnd⟩ : ∃ n, n = Jp.rlen r.rows sd := ⟨_, rfl⟩
      rw [← hnk] at ck0
      rw [← hnl] at cl0
      rw [← hnd] at cs0
      have HNK := Lib.hid hnk
      have HNL := Lib.hid (show nl = Jp.rlen r.rows (Jp.longTo r.rows (k - 1)) by rw [hnl, HLG.out])
      have HND := Lib.hid (show nd = Jp.rlen r.rows (Jp.shortTo r.rows (k - 1)) by rw [hnd, HSD.out])
      have i0 : (0 : Int) ≤ (k : Int) := by omega
      have i1 : (k : Int) < (ns : Int) := by omega
      have i2 : (0 : Int) ≤ (lg : Int) := by omega
      have i3 : (lg : Int) < (ns : Int) := by omega
      have i4 : (0 : Int) ≤ (sd : Int) := by omega
      have i5 : (sd : Int) < (ns : Int) := by omega
      have wk : IntKind.i64.wrap ((k : Int) + 1) = ((k + 1 : Nat) : Int) := by
        rw [show ((k + 1 : Nat) : Int) = (k : Int) + 1 by omega]
        exact IntWalk.i64_in _ (by omega)
      clear hnk hnl hnd hle hse M4
      by_cases h1 : nl < nk
      · have s0 : (nl : Int) < (nk : Int) := by omega
        have HLO := Lib.hid (show Jp.longTo r.rows (k + 1 - 1) = k from by
          obtain ⟨k', rfl⟩ : ∃ k', k = k' + 1 := ⟨k - 1, by omega⟩
          show (if Jp.rlen r.rows (Jp.longTo r.rows k') < Jp.rlen r.rows (k' + 1) then k' + 1 else Jp.longTo r.rows k') = k' + 1
          have e1 := HNL.out
          rw [show k' + 1 - 1 = k' from rfl] at e1
          rw [if_pos (by rw [← HNK.out, ← e1]; exact h1)])
        go_wp2_with (rw [← HVR.out])
        refine wp_region_held_drew (S := fun w' => w'.cell? ⟨w.heap.size, 3, none⟩ = some (.slice (some ⟨bS, oS, none⟩) ns cs) ∧ w'.cell? ⟨bS, oS + k, none⟩ = some (.slice Ak nk ck) ∧ w'.cell? ⟨bS, oS + lg, none⟩ = some (.slice Al nl cl)) (by kernel_rfl) ⟨q3, ck0, cl0⟩ (fun hHeld => ?_)
        refine wpAnyH_takesJ (i := 0) (v := (.pointer (some ⟨w.heap.size, 3, none⟩))) (some 18) rfl rfl (by kernel_rfl) (by kernel_rfl) (by kernel_rfl) (fun _ _ _ h => h) (Or.inl ⟨by rfl, (by intro W9 hSw; (try dsimp only at hSw); go_simp; first | done | with_reducible rfl)⟩) (by assumption) ?_
        simp only [Act.put, List.setIfInBounds_toArray]; try simp only [List.set_cons_zero, List.set_cons_succ]
        refine wpAnyH_takesJ (i := 1) (v := (.slice (some ⟨bS, oS, none⟩) ns cs)) (some 19) rfl rfl (by kernel_rfl) (by kernel_rfl) (by kernel_rfl) (fun _ _ _ h => h) (Or.inl ⟨by rfl, (by intro W9 hSw; (try dsimp only at hSw); go_simp; first | done | with_reducible rfl)⟩) (by assumption) ?_
        simp only [Act.put, List.setIfInBounds_toArray]; try simp only [List.set_cons_zero, List.set_cons_succ]
        refine wpAnyH_takesJ (i := 2) (v := (.int .i64 (k : Nat))) (some 20) rfl rfl (by kernel_rfl) (by kernel_rfl) (by kernel_rfl) (fun _ _ _ h => h) (Or.inl ⟨by rfl, (by intro W9 hSw; (try dsimp only at hSw); go_simp; first | done | with_reducible rfl)⟩) (by assumption) ?_
        simp only [Act.put, List.setIfInBounds_toArray]; try simp only [List.set_cons_zero, List.set_cons_succ]
        refine wpAnyH_takesJ (i := 3) (v := (.pointer (some ⟨bS, oS + k, none⟩))) (some 21) rfl rfl (by kernel_rfl) (by kernel_rfl) (by kernel_rfl) (fun _ _ _ h => h) (Or.inl ⟨by rfl, (by intro W9 hSw; (try dsimp only at hSw); go_simp; first | done | with_reducible rfl)⟩) (by assumption) ?_
        simp only [Act.put, List.setIfInBounds_toArray]; try simp only [List.set_cons_zero, List.set_cons_succ]
        refine wpAnyH_takesJ (i := 4) (v := (.slice Ak nk ck)) (some 22) rfl rfl (by kernel_rfl) (by kernel_rfl) (by kernel_rfl) (fun _ _ _ h => h) (Or.inl ⟨by rfl, (by intro W9 hSw; (try dsimp only at hSw); go_simp; first | done | with_reducible rfl)⟩) (by assumption) ?_
        simp only [Act.put, List.setIfInBounds_toArray]; try simp only [List.set_cons_zero, List.set_cons_succ]
        refine wpAnyH_takesJ (i := 5) (v := (.int .i64 (nk : Nat))) (some 23) rfl rfl (by kernel_rfl) (by kernel_rfl) (by kernel_rfl) (fun _ _ _ h => h) (Or.inl ⟨by rfl, (by intro W9 hSw; (try dsimp only at hSw); go_simp; first | done | with_reducible rfl)⟩) (by assumption) ?_
        simp only [Act.put, List.setIfInBounds_toArray]; try simp only [List.set_cons_zero, List.set_cons_succ]
        refine wpAnyH_takesJ (i := 6) (v := (.pointer (some ⟨w.heap.size, 3, none⟩))) (some 24) rfl rfl (by kernel_rfl) (by kernel_rfl) (by kernel_rfl) (fun _ _ _ h => h) (Or.inl ⟨by rfl, (by intro W9 hSw; (try dsimp only at hSw); go_simp; first | done | with_reducible rfl)⟩) (by assumption) ?_
        simp only [Act.put, List.setIfInBounds_toArray]; try simp only [List.set_cons_zero, List.set_cons_succ]
        refine wpAnyH_takesJ (i := 7) (v := (.slice (some ⟨bS, oS, none⟩) ns cs)) (some 25) rfl rfl (by kernel_rfl) (by kernel_rfl) (by kernel_rfl) (fun _ _ _ h => h) (Or.inl ⟨by rfl, (by intro W9 hSw; (try dsimp only at hSw); go_simp; first | done | with_reducible rfl)⟩) (by assumption) ?_
        simp only [Act.put, List.setIfInBounds_toArray]; try simp only [List.set_cons_zero, List.set_cons_succ]
        refine wpAnyH_takesJ (i := 8) (v := (.int .i64 (lg : Nat))) (some 26) rfl rfl (by kernel_rfl) (by kernel_rfl) (by kernel_rfl) (fun _ _ _ h => h) (Or.inl ⟨by rfl, (by intro W9 hSw; (try dsimp only at hSw); go_simp; first | done | with_reducible rfl)⟩) (by assumption) ?_
        simp only [Act.put, List.setIfInBounds_toArray]; try simp only [List.set_cons_zero, List.set_cons_succ]
        refine wpAnyH_takesJ (i := 9) (v := (.pointer (some ⟨bS, oS + lg, none⟩))) (some 27) rfl rfl (by kernel_rfl) (by kernel_rfl) (by kernel_rfl) (fun _ _ _ h => h) (Or.inl ⟨by rfl, (by intro W9 hSw; (try dsimp only at hSw); go_simp; first | done | with_reducible rfl)⟩) (by assumption) ?_
        simp only [Act.put, List.setIfInBounds_toArray]; try simp only [List.set_cons_zero, List.set_cons_succ]
        refine wpAnyH_takesJ (i := 10) (v := (.slice Al nl cl)) (some 28) rfl rfl (by kernel_rfl) (by kernel_rfl) (by kernel_rfl) (fun _ _ _ h => h) (Or.inl ⟨by rfl, (by intro W9 hSw; (try dsimp only at hSw); go_simp; first | done | with_reducible rfl)⟩) (by assumption) ?_
        simp only [Act.put, List.setIfInBounds_toArray]; try simp only [List.set_cons_zero, List.set_cons_succ]
        refine wpAnyH_takesJ (i := 11) (v := (.int .i64 (nl : Nat))) (some 29) rfl rfl (by kernel_rfl) (by kernel_rfl) (by kernel_rfl) (fun _ _ _ h => h) (Or.inl ⟨by rfl, (by intro W9 hSw; (try dsimp only at hSw); go_simp; first | done | with_reducible rfl)⟩) (by assumption) ?_
        simp only [Act.put, List.setIfInBounds_toArray]; try simp only [List.set_cons_zero, List.set_cons_succ]
        refine wpAnyH_takesJ (i := 12) (v := (.bool true)) (some 30) rfl rfl (by kernel_rfl) (by kernel_rfl) (by kernel_rfl) (fun _ _ _ h => h) (Or.inl ⟨by rfl, (by intro W9 hSw; (try dsimp only at hSw); go_simp; first | done | with_reducible rfl)⟩) (by assumption) ?_
        simp only [Act.put, List.setIfInBounds_toArray]; try simp only [List.set_cons_zero, List.set_cons_succ]
        refine wpAnyH_done (by kernel_rfl) ?_ _
        have hdr := (Below.refl V4.heap.size V4).drew
        obtain ⟨V5, hV⟩ : ∃ V, V = V4.drew := ⟨_, rfl⟩
        rw [← hV] at hdr ⊢
        have q3 := keepcell hdr q3
        have ck0 := keepcell hdr ck0
        have cl0 := keepcell hdr cl0
        have cs0 := keepcell hdr cs0
        have BV5 := Lib.hid (BV4.out.trans (hdr.mono BV4.out.size))
        clear hV hdr hHeld
        by_cases h2 : nk < nd
        · have s1 : (nk : Int) < (nd : Int) := by omega
          have HS := Lib.hid (show Jp.shortTo r.rows (k + 1 - 1) = k from by
            obtain ⟨k', rfl⟩ : ∃ k', k = k' + 1 := ⟨k - 1, by omega⟩
            show (if Jp.rlen r.rows (k' + 1) < Jp.rlen r.rows (Jp.shortTo r.rows k') then k' + 1 else Jp.shortTo r.rows k') = k' + 1
            have e1 := HND.out
            rw [show k' + 1 - 1 = k' from rfl] at e1
            rw [if_pos (by rw [← HNK.out, ← e1]; exact h2)])
          go_wp2_with fail
          refine wp_region_held_drew (S := fun w' => w'.cell? ⟨w.heap.size, 3, none⟩ = some (.slice (some ⟨bS, oS, none⟩) ns cs) ∧ w'.cell? ⟨bS, oS + k, none⟩ = some (.slice Ak nk ck) ∧ w'.cell? ⟨bS, oS + sd, none⟩ = some (.slice Ad nd cd)) (by kernel_rfl) ⟨q3, ck0, cs0⟩ (fun hHeld => ?_)
          refine wpAnyH_takesJ (i := 0) (v := (.pointer (some ⟨w.heap.size, 3, none⟩))) (some 32) rfl rfl (by kernel_rfl) (by kernel_rfl) (by kernel_rfl) (fun _ _ _ h => h) (Or.inl ⟨by rfl, (by intro W9 hSw; (try dsimp only at hSw); go_simp; first | done | with_reducible rfl)⟩) (by assumption) ?_
          simp only [Act.put, List.setIfInBounds_toArray]; try simp only [List.set_cons_zero, List.set_cons_succ]
          refine wpAnyH_takesJ (i := 1) (v := (.slice (some ⟨bS, oS, none⟩) ns cs)) (some 33) rfl rfl (by kernel_rfl) (by kernel_rfl) (by kernel_rfl) (fun _ _ _ h => h) (Or.inl ⟨by rfl, (by intro W9 hSw; (try dsimp only at hSw); go_simp; first | done | with_reducible rfl)⟩) (by assumption) ?_
          simp only [Act.put, List.setIfInBounds_toArray]; try simp only [List.set_cons_zero, List.set_cons_succ]
          refine wpAnyH_takesJ (i := 2) (v := (.int .i64 (k : Nat))) (some 34) rfl rfl (by kernel_rfl) (by kernel_rfl) (by kernel_rfl) (fun _ _ _ h => h) (Or.inl ⟨by rfl, (by intro W9 hSw; (try dsimp only at hSw); go_simp; first | done | with_reducible rfl)⟩) (by assumption) ?_
          simp only [Act.put, List.setIfInBounds_toArray]; try simp only [List.set_cons_zero, List.set_cons_succ]
          refine wpAnyH_takesJ (i := 3) (v := (.pointer (some ⟨bS, oS + k, none⟩))) (some 35) rfl rfl (by kernel_rfl) (by kernel_rfl) (by kernel_rfl) (fun _ _ _ h => h) (Or.inl ⟨by rfl, (by intro W9 hSw; (try dsimp only at hSw); go_simp; first | done | with_reducible rfl)⟩) (by assumption) ?_
          simp only [Act.put, List.setIfInBounds_toArray]; try simp only [List.set_cons_zero, List.set_cons_succ]
          refine wpAnyH_takesJ (i := 4) (v := (.slice Ak nk ck)) (some 36) rfl rfl (by kernel_rfl) (by kernel_rfl) (by kernel_rfl) (fun _ _ _ h => h) (Or.inl ⟨by rfl, (by intro W9 hSw; (try dsimp only at hSw); go_simp; first | done | with_reducible rfl)⟩) (by assumption) ?_
          simp only [Act.put, List.setIfInBounds_toArray]; try simp only [List.set_cons_zero, List.set_cons_succ]
          refine wpAnyH_takesJ (i := 5) (v := (.int .i64 (nk : Nat))) (some 37) rfl rfl (by kernel_rfl) (by kernel_rfl) (by kernel_rfl) (fun _ _ _ h => h) (Or.inl ⟨by rfl, (by intro W9 hSw; (try dsimp only at hSw); go_simp; first | done | with_reducible rfl)⟩) (by assumption) ?_
          simp only [Act.put, List.setIfInBounds_toArray]; try simp only [List.set_cons_zero, List.set_cons_succ]
          refine wpAnyH_takesJ (i := 6) (v := (.pointer (some ⟨w.heap.size, 3, none⟩))) (some 38) rfl rfl (by kernel_rfl) (by kernel_rfl) (by kernel_rfl) (fun _ _ _ h => h) (Or.inl ⟨by rfl, (by intro W9 hSw; (try dsimp only at hSw); go_simp; first | done | with_reducible rfl)⟩) (by assumption) ?_
          simp only [Act.put, List.setIfInBounds_toArray]; try simp only [List.set_cons_zero, List.set_cons_succ]
          refine wpAnyH_takesJ (i := 7) (v := (.slice (some ⟨bS, oS, none⟩) ns cs)) (some 39) rfl rfl (by kernel_rfl) (by kernel_rfl) (by kernel_rfl) (fun _ _ _ h => h) (Or.inl ⟨by rfl, (by intro W9 hSw; (try dsimp only at hSw); go_simp; first | done | with_reducible rfl)⟩) (by assumption) ?_
          simp only [Act.put, List.setIfInBounds_toArray]; try simp only [List.set_cons_zero, List.set_cons_succ]
          refine wpAnyH_takesJ (i := 8) (v := (.int .i64 (sd : Nat))) (some 40) rfl rfl (by kernel_rfl) (by kernel_rfl) (by kernel_rfl) (fun _ _ _ h => h) (Or.inl ⟨by rfl, (by intro W9 hSw; (try dsimp only at hSw); go_simp; first | done | with_reducible rfl)⟩) (by assumption) ?_
          simp only [Act.put, List.setIfInBounds_toArray]; try simp only [List.set_cons_zero, List.set_cons_succ]
          refine wpAnyH_takesJ (i := 9) (v := (.pointer (some ⟨bS, oS + sd, none⟩))) (some 41) rfl rfl (by kernel_rfl) (by kernel_rfl) (by kernel_rfl) (fun _ _ _ h => h) (Or.inl ⟨by rfl, (by intro W9 hSw; (try dsimp only at hSw); go_simp; first | done | with_reducible rfl)⟩) (by assumption) ?_
          simp only [Act.put, List.setIfInBounds_toArray]; try simp only [List.set_cons_zero, List.set_cons_succ]
          refine wpAnyH_takesJ (i := 10) (v := (.slice Ad nd cd)) (some 42) rfl rfl (by kernel_rfl) (by kernel_rfl) (by kernel_rfl) (fun _ _ _ h => h) (Or.inl ⟨by rfl, (by intro W9 hSw; (try dsimp only at hSw); go_simp; first | done | with_reducible rfl)⟩) (by assumption) ?_
          simp only [Act.put, List.setIfInBounds_toArray]; try simp only [List.set_cons_zero, List.set_cons_succ]
          refine wpAnyH_takesJ (i := 11) (v := (.int .i64 (nd : Nat))) (some 43) rfl rfl (by kernel_rfl) (by kernel_rfl) (by kernel_rfl) (fun _ _ _ h => h) (Or.inl ⟨by rfl, (by intro W9 hSw; (try dsimp only at hSw); go_simp; first | done | with_reducible rfl)⟩) (by assumption) ?_
          simp only [Act.put, List.setIfInBounds_toArray]; try simp only [List.set_cons_zero, List.set_cons_succ]
          refine wpAnyH_takesJ (i := 12) (v := (.bool true)) (some 44) rfl rfl (by kernel_rfl) (by kernel_rfl) (by kernel_rfl) (fun _ _ _ h => h) (Or.inl ⟨by rfl, (by intro W9 hSw; (try dsimp only at hSw); go_simp; first | done | with_reducible rfl)⟩) (by assumption) ?_
          simp only [Act.put, List.setIfInBounds_toArray]; try simp only [List.set_cons_zero, List.set_cons_succ]
          refine wpAnyH_done (by kernel_rfl) ?_ _
          have hdr := (Below.refl V5.heap.size V5).drew
          obtain ⟨V6, hV⟩ : ∃ V, V = V5.drew := ⟨_, rfl⟩
          rw [← hV] at hdr ⊢
          have q3 := keepcell hdr q3
          have ck0 := keepcell hdr ck0
          have cl0 := keepcell hdr cl0
          have cs0 := keepcell hdr cs0
          have BV6 := Lib.hid (BV5.out.trans (hdr.mono BV5.out.size))
          clear hV hdr hHeld
          go_wp2_with fail
          go_roundw
          case rel => exact ⟨k + 1, by omega, by omega, by rw [HLO.out], by rw [HS.out], by first | exact wk | rw [wk] | go_num, BV6⟩
          case measure => simp [intOf]; omega
        · have s1 : ¬ (nk : Int) < (nd : Int) := by omega
          have HS := Lib.hid (show Jp.shortTo r.rows (k + 1 - 1) = sd from by
            obtain ⟨k', rfl⟩ : ∃ k', k = k' + 1 := ⟨k - 1, by omega⟩
            show (if Jp.rlen r.rows (k' + 1) < Jp.rlen r.rows (Jp.shortTo r.rows k') then k' + 1 else Jp.shortTo r.rows k') = sd
            have e1 := HND.out
            rw [show k' + 1 - 1 = k' from rfl] at e1
            rw [if_neg (by rw [← HNK.out, ← e1]; exact h2)]
            exact HSD.out.symm)
          go_wp2_with fail
          refine wp_region_held_drew (S := fun w' => w'.cell? ⟨w.heap.size, 3, none⟩ = some (.slice (some ⟨bS, oS, none⟩) ns cs) ∧ w'.cell? ⟨bS, oS + k, none⟩ = some (.slice Ak nk ck) ∧ w'.cell? ⟨bS, oS + sd, none⟩ = some (.slice Ad nd cd)) (by kernel_rfl) ⟨q3, ck0, cs0⟩ (fun hHeld => ?_)
          refine wpAnyH_takesJ (i := 0) (v := (.pointer (some ⟨w.heap.size, 3, none⟩))) (some 32) rfl rfl (by kernel_rfl) (by kernel_rfl) (by kernel_rfl) (fun _ _ _ h => h) (Or.inl ⟨by rfl, (by intro W9 hSw; (try dsimp only at hSw); go_simp; first | done | with_reducible rfl)⟩) (by assumption) ?_
          simp only [Act.put, List.setIfInBounds_toArray]; try simp only [List.set_cons_zero, List.set_cons_succ]
          refine wpAnyH_takesJ (i := 1) (v := (.slice (some ⟨bS, oS, none⟩) ns cs)) (some 33) rfl rfl (by kernel_rfl) (by kernel_rfl) (by kernel_rfl) (fun _ _ _ h => h) (Or.inl ⟨by rfl, (by intro W9 hSw; (try dsimp only at hSw); go_simp; first | done | with_reducible rfl)⟩) (by assumption) ?_
          simp only [Act.put, List.setIfInBounds_toArray]; try simp only [List.set_cons_zero, List.set_cons_succ]
          refine wpAnyH_takesJ (i := 2) (v := (.int .i64 (k : Nat))) (some 34) rfl rfl (by kernel_rfl) (by kernel_rfl) (by kernel_rfl) (fun _ _ _ h => h) (Or.inl ⟨by rfl, (by intro W9 hSw; (try dsimp only at hSw); go_simp; first | done | with_reducible rfl)⟩) (by assumption) ?_
          simp only [Act.put, List.setIfInBounds_toArray]; try simp only [List.set_cons_zero, List.set_cons_succ]
          refine wpAnyH_takesJ (i := 3) (v := (.pointer (some ⟨bS, oS + k, none⟩))) (some 35) rfl rfl (by kernel_rfl) (by kernel_rfl) (by kernel_rfl) (fun _ _ _ h => h) (Or.inl ⟨by rfl, (by intro W9 hSw; (try dsimp only at hSw); go_simp; first | done | with_reducible rfl)⟩) (by assumption) ?_
          simp only [Act.put, List.setIfInBounds_toArray]; try simp only [List.set_cons_zero, List.set_cons_succ]
          refine wpAnyH_takesJ (i := 4) (v := (.slice Ak nk ck)) (some 36) rfl rfl (by kernel_rfl) (by kernel_rfl) (by kernel_rfl) (fun _ _ _ h => h) (Or.inl ⟨by rfl, (by intro W9 hSw; (try dsimp only at hSw); go_simp; first | done | with_reducible rfl)⟩) (by assumption) ?_
          simp only [Act.put, List.setIfInBounds_toArray]; try simp only [List.set_cons_zero, List.set_cons_succ]
          refine wpAnyH_takesJ (i := 5) (v := (.int .i64 (nk : Nat))) (some 37) rfl rfl (by kernel_rfl) (by kernel_rfl) (by kernel_rfl) (fun _ _ _ h => h) (Or.inl ⟨by rfl, (by intro W9 hSw; (try dsimp only at hSw); go_simp; first | done | with_reducible rfl)⟩) (by assumption) ?_
          simp only [Act.put, List.setIfInBounds_toArray]; try simp only [List.set_cons_zero, List.set_cons_succ]
          refine wpAnyH_takesJ (i := 6) (v := (.pointer (some ⟨w.heap.size, 3, none⟩))) (some 38) rfl rfl (by kernel_rfl) (by kernel_rfl) (by kernel_rfl) (fun _ _ _ h => h) (Or.inl ⟨by rfl, (by intro W9 hSw; (try dsimp only at hSw); go_simp; first | done | with_reducible rfl)⟩) (by assumption) ?_
          simp only [Act.put, List.setIfInBounds_toArray]; try simp only [List.set_cons_zero, List.set_cons_succ]
          refine wpAnyH_takesJ (i := 7) (v := (.slice (some ⟨bS, oS, none⟩) ns cs)) (some 39) rfl rfl (by kernel_rfl) (by kernel_rfl) (by kernel_rfl) (fun _ _ _ h => h) (Or.inl ⟨by rfl, (by intro W9 hSw; (try dsimp only at hSw); go_simp; first | done | with_reducible rfl)⟩) (by assumption) ?_
          simp only [Act.put, List.setIfInBounds_toArray]; try simp only [List.set_cons_zero, List.set_cons_succ]
          refine wpAnyH_takesJ (i := 8) (v := (.int .i64 (sd : Nat))) (some 40) rfl rfl (by kernel_rfl) (by kernel_rfl) (by kernel_rfl) (fun _ _ _ h => h) (Or.inl ⟨by rfl, (by intro W9 hSw; (try dsimp only at hSw); go_simp; first | done | with_reducible rfl)⟩) (by assumption) ?_
          simp only [Act.put, List.setIfInBounds_toArray]; try simp only [List.set_cons_zero, List.set_cons_succ]
          refine wpAnyH_takesJ (i := 9) (v := (.pointer (some ⟨bS, oS + sd, none⟩))) (some 41) rfl rfl (by kernel_rfl) (by kernel_rfl) (by kernel_rfl) (fun _ _ _ h => h) (Or.inl ⟨by rfl, (by intro W9 hSw; (try dsimp only at hSw); go_simp; first | done | with_reducible rfl)⟩) (by assumption) ?_
          simp only [Act.put, List.setIfInBounds_toArray]; try simp only [List.set_cons_zero, List.set_cons_succ]
          refine wpAnyH_takesJ (i := 10) (v := (.slice Ad nd cd)) (some 42) rfl rfl (by kernel_rfl) (by kernel_rfl) (by kernel_rfl) (fun _ _ _ h => h) (Or.inl ⟨by rfl, (by intro W9 hSw; (try dsimp only at hSw); go_simp; first | done | with_reducible rfl)⟩) (by assumption) ?_
          simp only [Act.put, List.setIfInBounds_toArray]; try simp only [List.set_cons_zero, List.set_cons_succ]
          refine wpAnyH_takesJ (i := 11) (v := (.int .i64 (nd : Nat))) (some 43) rfl rfl (by kernel_rfl) (by kernel_rfl) (by kernel_rfl) (fun _ _ _ h => h) (Or.inl ⟨by rfl, (by intro W9 hSw; (try dsimp only at hSw); go_simp; first | done | with_reducible rfl)⟩) (by assumption) ?_
          simp only [Act.put, List.setIfInBounds_toArray]; try simp only [List.set_cons_zero, List.set_cons_succ]
          refine wpAnyH_takesJ (i := 12) (v := (.bool false)) (some 44) rfl rfl (by kernel_rfl) (by kernel_rfl) (by kernel_rfl) (fun _ _ _ h => h) (Or.inl ⟨by rfl, (by intro W9 hSw; (try dsimp only at hSw); go_simp; first | done | with_reducible rfl)⟩) (by assumption) ?_
          simp only [Act.put, List.setIfInBounds_toArray]; try simp only [List.set_cons_zero, List.set_cons_succ]
          refine wpAnyH_done (by kernel_rfl) ?_ _
          have hdr := (Below.refl V5.heap.size V5).drew
          obtain ⟨V6, hV⟩ : ∃ V, V = V5.drew := ⟨_, rfl⟩
          rw [← hV] at hdr ⊢
          have q3 := keepcell hdr q3
          have ck0 := keepcell hdr ck0
          have cl0 := keepcell hdr cl0
          have cs0 := keepcell hdr cs0
          have BV6 := Lib.hid (BV5.out.trans (hdr.mono BV5.out.size))
          clear hV hdr hHeld
          go_wp2_with fail
          go_roundw
          case rel => exact ⟨k + 1, by omega, by omega, by rw [HLO.out], by rw [HS.out], by first | exact wk | rw [wk] | go_num, BV6⟩
          case measure => simp [intOf]; omega
      · have s0 : ¬ (nl : Int) < (nk : Int) := by omega
        have HLO := Lib.hid (show Jp.longTo r.rows (k + 1 - 1) = lg from by
          obtain ⟨k', rfl⟩ : ∃ k', k = k' + 1 := ⟨k - 1, by omega⟩
          show (if Jp.rlen r.rows (Jp.longTo r.rows k') < Jp.rlen r.rows (k' + 1) then k' + 1 else Jp.longTo r.rows k') = lg
          have e1 := HNL.out
          rw [show k' + 1 - 1 = k' from rfl] at e1
          rw [if_neg (by rw [← HNK.out, ← e1]; exact h1)]
          exact HLG.out.symm)
        go_wp2_with (rw [← HVR.out])
        refine wp_region_held_drew (S := fun w' => w'.cell? ⟨w.heap.size, 3, none⟩ = some (.slice (some ⟨bS, oS, none⟩) ns cs) ∧ w'.cell? ⟨bS, oS + k, none⟩ = some (.slice Ak nk ck) ∧ w'.cell? ⟨bS, oS + lg, none⟩ = some (.slice Al nl cl)) (by kernel_rfl) ⟨q3, ck0, cl0⟩ (fun hHeld => ?_)
        refine wpAnyH_takesJ (i := 0) (v := (.pointer (some ⟨w.heap.size, 3, none⟩))) (some 18) rfl rfl (by kernel_rfl) (by kernel_rfl) (by kernel_rfl) (fun _ _ _ h => h) (Or.inl ⟨by rfl, (by intro W9 hSw; (try dsimp only at hSw); go_simp; first | done | with_reducible rfl)⟩) (by assumption) ?_
        simp only [Act.put, List.setIfInBounds_toArray]; try simp only [List.set_cons_zero, List.set_cons_succ]
        refine wpAnyH_takesJ (i := 1) (v := (.slice (some ⟨bS, oS, none⟩) ns cs)) (some 19) rfl rfl (by kernel_rfl) (by kernel_rfl) (by kernel_rfl) (fun _ _ _ h => h) (Or.inl ⟨by rfl, (by intro W9 hSw; (try dsimp only at hSw); go_simp; first | done | with_reducible rfl)⟩) (by assumption) ?_
        simp only [Act.put, List.setIfInBounds_toArray]; try simp only [List.set_cons_zero, List.set_cons_succ]
        refine wpAnyH_takesJ (i := 2) (v := (.int .i64 (k : Nat))) (some 20) rfl rfl (by kernel_rfl) (by kernel_rfl) (by kernel_rfl) (fun _ _ _ h => h) (Or.inl ⟨by rfl, (by intro W9 hSw; (try dsimp only at hSw); go_simp; first | done | with_reducible rfl)⟩) (by assumption) ?_
        simp only [Act.put, List.setIfInBounds_toArray]; try simp only [List.set_cons_zero, List.set_cons_succ]
        refine wpAnyH_takesJ (i := 3) (v := (.pointer (some ⟨bS, oS + k, none⟩))) (some 21) rfl rfl (by kernel_rfl) (by kernel_rfl) (by kernel_rfl) (fun _ _ _ h => h) (Or.inl ⟨by rfl, (by intro W9 hSw; (try dsimp only at hSw); go_simp; first | done | with_reducible rfl)⟩) (by assumption) ?_
        simp only [Act.put, List.setIfInBounds_toArray]; try simp only [List.set_cons_zero, List.set_cons_succ]
        refine wpAnyH_takesJ (i := 4) (v := (.slice Ak nk ck)) (some 22) rfl rfl (by kernel_rfl) (by kernel_rfl) (by kernel_rfl) (fun _ _ _ h => h) (Or.inl ⟨by rfl, (by intro W9 hSw; (try dsimp only at hSw); go_simp; first | done | with_reducible rfl)⟩) (by assumption) ?_
        simp only [Act.put, List.setIfInBounds_toArray]; try simp only [List.set_cons_zero, List.set_cons_succ]
        refine wpAnyH_takesJ (i := 5) (v := (.int .i64 (nk : Nat))) (some 23) rfl rfl (by kernel_rfl) (by kernel_rfl) (by kernel_rfl) (fun _ _ _ h => h) (Or.inl ⟨by rfl, (by intro W9 hSw; (try dsimp only at hSw); go_simp; first | done | with_reducible rfl)⟩) (by assumption) ?_
        simp only [Act.put, List.setIfInBounds_toArray]; try simp only [List.set_cons_zero, List.set_cons_succ]
        refine wpAnyH_takesJ (i := 6) (v := (.pointer (some ⟨w.heap.size, 3, none⟩))) (some 24) rfl rfl (by kernel_rfl) (by kernel_rfl) (by kernel_rfl) (fun _ _ _ h => h) (Or.inl ⟨by rfl, (by intro W9 hSw; (try dsimp only at hSw); go_simp; first | done | with_reducible rfl)⟩) (by assumption) ?_
        simp only [Act.put, List.setIfInBounds_toArray]; try simp only [List.set_cons_zero, List.set_cons_succ]
        refine wpAnyH_takesJ (i := 7) (v := (.slice (some ⟨bS, oS, none⟩) ns cs)) (some 25) rfl rfl (by kernel_rfl) (by kernel_rfl) (by kernel_rfl) (fun _ _ _ h => h) (Or.inl ⟨by rfl, (by intro W9 hSw; (try dsimp only at hSw); go_simp; first | done | with_reducible rfl)⟩) (by assumption) ?_
        simp only [Act.put, List.setIfInBounds_toArray]; try simp only [List.set_cons_zero, List.set_cons_succ]
        refine wpAnyH_takesJ (i := 8) (v := (.int .i64 (lg : Nat))) (some 26) rfl rfl (by kernel_rfl) (by kernel_rfl) (by kernel_rfl) (fun _ _ _ h => h) (Or.inl ⟨by rfl, (by intro W9 hSw; (try dsimp only at hSw); go_simp; first | done | with_reducible rfl)⟩) (by assumption) ?_
        simp only [Act.put, List.setIfInBounds_toArray]; try simp only [List.set_cons_zero, List.set_cons_succ]
        refine wpAnyH_takesJ (i := 9) (v := (.pointer (some ⟨bS, oS + lg, none⟩))) (some 27) rfl rfl (by kernel_rfl) (by kernel_rfl) (by kernel_rfl) (fun _ _ _ h => h) (Or.inl ⟨by rfl, (by intro W9 hSw; (try dsimp only at hSw); go_simp; first | done | with_reducible rfl)⟩) (by assumption) ?_
        simp only [Act.put, List.setIfInBounds_toArray]; try simp only [List.set_cons_zero, List.set_cons_succ]
        refine wpAnyH_takesJ (i := 10) (v := (.slice Al nl cl)) (some 28) rfl rfl (by kernel_rfl) (by kernel_rfl) (by kernel_rfl) (fun _ _ _ h => h) (Or.inl ⟨by rfl, (by intro W9 hSw; (try dsimp only at hSw); go_simp; first | done | with_reducible rfl)⟩) (by assumption) ?_
        simp only [Act.put, List.setIfInBounds_toArray]; try simp only [List.set_cons_zero, List.set_cons_succ]
        refine wpAnyH_takesJ (i := 11) (v := (.int .i64 (nl : Nat))) (some 29) rfl rfl (by kernel_rfl) (by kernel_rfl) (by kernel_rfl) (fun _ _ _ h => h) (Or.inl ⟨by rfl, (by intro W9 hSw; (try dsimp only at hSw); go_simp; first | done | with_reducible rfl)⟩) (by assumption) ?_
        simp only [Act.put, List.setIfInBounds_toArray]; try simp only [List.set_cons_zero, List.set_cons_succ]
        refine wpAnyH_takesJ (i := 12) (v := (.bool false)) (some 30) rfl rfl (by kernel_rfl) (by kernel_rfl) (by kernel_rfl) (fun _ _ _ h => h) (Or.inl ⟨by rfl, (by intro W9 hSw; (try dsimp only at hSw); go_simp; first | done | with_reducible rfl)⟩) (by assumption) ?_
        simp only [Act.put, List.setIfInBounds_toArray]; try simp only [List.set_cons_zero, List.set_cons_succ]
        refine wpAnyH_done (by kernel_rfl) ?_ _
        have hdr := (Below.refl V4.heap.size V4).drew
        obtain ⟨V5, hV⟩ : ∃ V, V = V4.drew := ⟨_, rfl⟩
        rw [← hV] at hdr ⊢
        have q3 := keepcell hdr q3
        have ck0 := keepcell hdr ck0
        have cl0 := keepcell hdr cl0
        have cs0 := keepcell hdr cs0
        have BV5 := Lib.hid (BV4.out.trans (hdr.mono BV4.out.size))
        clear hV hdr hHeld
        by_cases h2 : nk < nd
        · have s1 : (nk : Int) < (nd : Int) := by omega
          have HS := Lib.hid (show Jp.shortTo r.rows (k + 1 - 1) = k from by
            obtain ⟨k', rfl⟩ : ∃ k', k = k' + 1 := ⟨k - 1, by omega⟩
            show (if Jp.rlen r.rows (k' + 1) < Jp.rlen r.rows (Jp.shortTo r.rows k') then k' + 1 else Jp.shortTo r.rows k') = k' + 1
            have e1 := HND.out
            rw [show k' + 1 - 1 = k' from rfl] at e1
            rw [if_pos (by rw [← HNK.out, ← e1]; exact h2)])
          go_wp2_with fail
          refine wp_region_held_drew (S := fun w' => w'.cell? ⟨w.heap.size, 3, none⟩ = some (.slice (some ⟨bS, oS, none⟩) ns cs) ∧ w'.cell? ⟨bS, oS + k, none⟩ = some (.slice Ak nk ck) ∧ w'.cell? ⟨bS, oS + sd, none⟩ = some (.slice Ad nd cd)) (by kernel_rfl) ⟨q3, ck0, cs0⟩ (fun hHeld => ?_)
          refine wpAnyH_takesJ (i := 0) (v := (.pointer (some ⟨w.heap.size, 3, none⟩))) (some 32) rfl rfl (by kernel_rfl) (by kernel_rfl) (by kernel_rfl) (fun _ _ _ h => h) (Or.inl ⟨by rfl, (by intro W9 hSw; (try dsimp only at hSw); go_simp; first | done | with_reducible rfl)⟩) (by assumption) ?_
          simp only [Act.put, List.setIfInBounds_toArray]; try simp only [List.set_cons_zero, List.set_cons_succ]
          refine wpAnyH_takesJ (i := 1) (v := (.slice (some ⟨bS, oS, none⟩) ns cs)) (some 33) rfl rfl (by kernel_rfl) (by kernel_rfl) (by kernel_rfl) (fun _ _ _ h => h) (Or.inl ⟨by rfl, (by intro W9 hSw; (try dsimp only at hSw); go_simp; first | done | with_reducible rfl)⟩) (by assumption) ?_
          simp only [Act.put, List.setIfInBounds_toArray]; try simp only [List.set_cons_zero, List.set_cons_succ]
          refine wpAnyH_takesJ (i := 2) (v := (.int .i64 (k : Nat))) (some 34) rfl rfl (by kernel_rfl) (by kernel_rfl) (by kernel_rfl) (fun _ _ _ h => h) (Or.inl ⟨by rfl, (by intro W9 hSw; (try dsimp only at hSw); go_simp; first | done | with_reducible rfl)⟩) (by assumption) ?_
          simp only [Act.put, List.setIfInBounds_toArray]; try simp only [List.set_cons_zero, List.set_cons_succ]
          refine wpAnyH_takesJ (i := 3) (v := (.pointer (some ⟨bS, oS + k, none⟩))) (some 35) rfl rfl (by kernel_rfl) (by kernel_rfl) (by kernel_rfl) (fun _ _ _ h => h) (Or.inl ⟨by rfl, (by intro W9 hSw; (try dsimp only at hSw); go_simp; first | done | with_reducible rfl)⟩) (by assumption) ?_
          simp only [Act.put, List.setIfInBounds_toArray]; try simp only [List.set_cons_zero, List.set_cons_succ]
          refine wpAnyH_takesJ (i := 4) (v := (.slice Ak nk ck)) (some 36) rfl rfl (by kernel_rfl) (by kernel_rfl) (by kernel_rfl) (fun _ _ _ h => h) (Or.inl ⟨by rfl, (by intro W9 hSw; (try dsimp only at hSw); go_simp; first | done | with_reducible rfl)⟩) (by assumption) ?_
          simp only [Act.put, List.setIfInBounds_toArray]; try simp only [List.set_cons_zero, List.set_cons_succ]
          refine wpAnyH_takesJ (i := 5) (v := (.int .i64 (nk : Nat))) (some 37) rfl rfl (by kernel_rfl) (by kernel_rfl) (by kernel_rfl) (fun _ _ _ h => h) (Or.inl ⟨by rfl, (by intro W9 hSw; (try dsimp only at hSw); go_simp; first | done | with_reducible rfl)⟩) (by assumption) ?_
          simp only [Act.put, List.setIfInBounds_toArray]; try simp only [List.set_cons_zero, List.set_cons_succ]
          refine wpAnyH_takesJ (i := 6) (v := (.pointer (some ⟨w.heap.size, 3, none⟩))) (some 38) rfl rfl (by kernel_rfl) (by kernel_rfl) (by kernel_rfl) (fun _ _ _ h => h) (Or.inl ⟨by rfl, (by intro W9 hSw; (try dsimp only at hSw); go_simp; first | done | with_reducible rfl)⟩) (by assumption) ?_
          simp only [Act.put, List.setIfInBounds_toArray]; try simp only [List.set_cons_zero, List.set_cons_succ]
          refine wpAnyH_takesJ (i := 7) (v := (.slice (some ⟨bS, oS, none⟩) ns cs)) (some 39) rfl rfl (by kernel_rfl) (by kernel_rfl) (by kernel_rfl) (fun _ _ _ h => h) (Or.inl ⟨by rfl, (by intro W9 hSw; (try dsimp only at hSw); go_simp; first | done | with_reducible rfl)⟩) (by assumption) ?_
          simp only [Act.put, List.setIfInBounds_toArray]; try simp only [List.set_cons_zero, List.set_cons_succ]
          refine wpAnyH_takesJ (i := 8) (v := (.int .i64 (sd : Nat))) (some 40) rfl rfl (by kernel_rfl) (by kernel_rfl) (by kernel_rfl) (fun _ _ _ h => h) (Or.inl ⟨by rfl, (by intro W9 hSw; (try dsimp only at hSw); go_simp; first | done | with_reducible rfl)⟩) (by assumption) ?_
          simp only [Act.put, List.setIfInBounds_toArray]; try simp only [List.set_cons_zero, List.set_cons_succ]
          refine wpAnyH_takesJ (i := 9) (v := (.pointer (some ⟨bS, oS + sd, none⟩))) (some 41) rfl rfl (by kernel_rfl) (by kernel_rfl) (by kernel_rfl) (fun _ _ _ h => h) (Or.inl ⟨by rfl, (by intro W9 hSw; (try dsimp only at hSw); go_simp; first | done | with_reducible rfl)⟩) (by assumption) ?_
          simp only [Act.put, List.setIfInBounds_toArray]; try simp only [List.set_cons_zero, List.set_cons_succ]
          refine wpAnyH_takesJ (i := 10) (v := (.slice Ad nd cd)) (some 42) rfl rfl (by kernel_rfl) (by kernel_rfl) (by kernel_rfl) (fun _ _ _ h => h) (Or.inl ⟨by rfl, (by intro W9 hSw; (try dsimp only at hSw); go_simp; first | done | with_reducible rfl)⟩) (by assumption) ?_
          simp only [Act.put, List.setIfInBounds_toArray]; try simp only [List.set_cons_zero, List.set_cons_succ]
          refine wpAnyH_takesJ (i := 11) (v := (.int .i64 (nd : Nat))) (some 43) rfl rfl (by kernel_rfl) (by kernel_rfl) (by kernel_rfl) (fun _ _ _ h => h) (Or.inl ⟨by rfl, (by intro W9 hSw; (try dsimp only at hSw); go_simp; first | done | with_reducible rfl)⟩) (by assumption) ?_
          simp only [Act.put, List.setIfInBounds_toArray]; try simp only [List.set_cons_zero, List.set_cons_succ]
          refine wpAnyH_takesJ (i := 12) (v := (.bool true)) (some 44) rfl rfl (by kernel_rfl) (by kernel_rfl) (by kernel_rfl) (fun _ _ _ h => h) (Or.inl ⟨by rfl, (by intro W9 hSw; (try dsimp only at hSw); go_simp; first | done | with_reducible rfl)⟩) (by assumption) ?_
          simp only [Act.put, List.setIfInBounds_toArray]; try simp only [List.set_cons_zero, List.set_cons_succ]
          refine wpAnyH_done (by kernel_rfl) ?_ _
          have hdr := (Below.refl V5.heap.size V5).drew
          obtain ⟨V6, hV⟩ : ∃ V, V = V5.drew := ⟨_, rfl⟩
          rw [← hV] at hdr ⊢
          have q3 := keepcell hdr q3
          have ck0 := keepcell hdr ck0
          have cl0 := keepcell hdr cl0
          have cs0 := keepcell hdr cs0
          have BV6 := Lib.hid (BV5.out.trans (hdr.mono BV5.out.size))
          clear hV hdr hHeld
          go_wp2_with fail
          go_roundw
          case rel => exact ⟨k + 1, by omega, by omega, by rw [HLO.out], by rw [HS.out], by first | exact wk | rw [wk] | go_num, BV6⟩
          case measure => simp [intOf]; omega
        · have s1 : ¬ (nk : Int) < (nd : Int) := by omega
          have HS := Lib.hid (show Jp.shortTo r.rows (k + 1 - 1) = sd from by
            obtain ⟨k', rfl⟩ : ∃ k', k = k' + 1 := ⟨k - 1, by omega⟩
            show (if Jp.rlen r.rows (k' + 1) < Jp.rlen r.rows (Jp.shortTo r.rows k') then k' + 1 else Jp.shortTo r.rows k') = sd
            have e1 := HND.out
            rw [show k' + 1 - 1 = k' from rfl] at e1
            rw [if_neg (by rw [← HNK.out, ← e1]; exact h2)]
            exact HSD.out.symm)
          go_wp2_with fail
          refine wp_region_held_drew (S := fun w' => w'.cell? ⟨w.heap.size, 3, none⟩ = some (.slice (some ⟨bS, oS, none⟩) ns cs) ∧ w'.cell? ⟨bS, oS + k, none⟩ = some (.slice Ak nk ck) ∧ w'.cell? ⟨bS, oS + sd, none⟩ = some (.slice Ad nd cd)) (by kernel_rfl) ⟨q3, ck0, cs0⟩ (fun hHeld => ?_)
          refine wpAnyH_takesJ (i := 0) (v := (.pointer (some ⟨w.heap.size, 3, none⟩))) (some 32) rfl rfl (by kernel_rfl) (by kernel_rfl) (by kernel_rfl) (fun _ _ _ h => h) (Or.inl ⟨by rfl, (by intro W9 hSw; (try dsimp only at hSw); go_simp; first | done | with_reducible rfl)⟩) (by assumption) ?_
          simp only [Act.put, List.setIfInBounds_toArray]; try simp only [List.set_cons_zero, List.set_cons_succ]
          refine wpAnyH_takesJ (i := 1) (v := (.slice (some ⟨bS, oS, none⟩) ns cs)) (some 33) rfl rfl (by kernel_rfl) (by kernel_rfl) (by kernel_rfl) (fun _ _ _ h => h) (Or.inl ⟨by rfl, (by intro W9 hSw; (try dsimp only at hSw); go_simp; first | done | with_reducible rfl)⟩) (by assumption) ?_
          simp only [Act.put, List.setIfInBounds_toArray]; try simp only [List.set_cons_zero, List.set_cons_succ]
          refine wpAnyH_takesJ (i := 2) (v := (.int .i64 (k : Nat))) (some 34) rfl rfl (by kernel_rfl) (by kernel_rfl) (by kernel_rfl) (fun _ _ _ h => h) (Or.inl ⟨by rfl, (by intro W9 hSw; (try dsimp only at hSw); go_simp; first | done | with_reducible rfl)⟩) (by assumption) ?_
          simp only [Act.put, List.setIfInBounds_toArray]; try simp only [List.set_cons_zero, List.set_cons_succ]
          refine wpAnyH_takesJ (i := 3) (v := (.pointer (some ⟨bS, oS + k, none⟩))) (some 35) rfl rfl (by kernel_rfl) (by kernel_rfl) (by kernel_rfl) (fun _ _ _ h => h) (Or.inl ⟨by rfl, (by intro W9 hSw; (try dsimp only at hSw); go_simp; first | done | with_reducible rfl)⟩) (by assumption) ?_
          simp only [Act.put, List.setIfInBounds_toArray]; try simp only [List.set_cons_zero, List.set_cons_succ]
          refine wpAnyH_takesJ (i := 4) (v := (.slice Ak nk ck)) (some 36) rfl rfl (by kernel_rfl) (by kernel_rfl) (by kernel_rfl) (fun _ _ _ h => h) (Or.inl ⟨by rfl, (by intro W9 hSw; (try dsimp only at hSw); go_simp; first | done | with_reducible rfl)⟩) (by assumption) ?_
          simp only [Act.put, List.setIfInBounds_toArray]; try simp only [List.set_cons_zero, List.set_cons_succ]
          refine wpAnyH_takesJ (i := 5) (v := (.int .i64 (nk : Nat))) (some 37) rfl rfl (by kernel_rfl) (by kernel_rfl) (by kernel_rfl) (fun _ _ _ h => h) (Or.inl ⟨by rfl, (by intro W9 hSw; (try dsimp only at hSw); go_simp; first | done | with_reducible rfl)⟩) (by assumption) ?_
          simp only [Act.put, List.setIfInBounds_toArray]; try simp only [List.set_cons_zero, List.set_cons_succ]
          refine wpAnyH_takesJ (i := 6) (v := (.pointer (some ⟨w.heap.size, 3, none⟩))) (some 38) rfl rfl (by kernel_rfl) (by kernel_rfl) (by kernel_rfl) (fun _ _ _ h => h) (Or.inl ⟨by rfl, (by intro W9 hSw; (try dsimp only at hSw); go_simp; first | done | with_reducible rfl)⟩) (by assumption) ?_
          simp only [Act.put, List.setIfInBounds_toArray]; try simp only [List.set_cons_zero, List.set_cons_succ]
          refine wpAnyH_takesJ (i := 7) (v := (.slice (some ⟨bS, oS, none⟩) ns cs)) (some 39) rfl rfl (by kernel_rfl) (by kernel_rfl) (by kernel_rfl) (fun _ _ _ h => h) (Or.inl ⟨by rfl, (by intro W9 hSw; (try dsimp only at hSw); go_simp; first | done | with_reducible rfl)⟩) (by assumption) ?_
          simp only [Act.put, List.setIfInBounds_toArray]; try simp only [List.set_cons_zero, List.set_cons_succ]
          refine wpAnyH_takesJ (i := 8) (v := (.int .i64 (sd : Nat))) (some 40) rfl rfl (by kernel_rfl) (by kernel_rfl) (by kernel_rfl) (fun _ _ _ h => h) (Or.inl ⟨by rfl, (by intro W9 hSw; (try dsimp only at hSw); go_simp; first | done | with_reducible rfl)⟩) (by assumption) ?_
          simp only [Act.put, List.setIfInBounds_toArray]; try simp only [List.set_cons_zero, List.set_cons_succ]
          refine wpAnyH_takesJ (i := 9) (v := (.pointer (some ⟨bS, oS + sd, none⟩))) (some 41) rfl rfl (by kernel_rfl) (by kernel_rfl) (by kernel_rfl) (fun _ _ _ h => h) (Or.inl ⟨by rfl, (by intro W9 hSw; (try dsimp only at hSw); go_simp; first | done | with_reducible rfl)⟩) (by assumption) ?_
          simp only [Act.put, List.setIfInBounds_toArray]; try simp only [List.set_cons_zero, List.set_cons_succ]
          refine wpAnyH_takesJ (i := 10) (v := (.slice Ad nd cd)) (some 42) rfl rfl (by kernel_rfl) (by kernel_rfl) (by kernel_rfl) (fun _ _ _ h => h) (Or.inl ⟨by rfl, (by intro W9 hSw; (try dsimp only at hSw); go_simp; first | done | with_reducible rfl)⟩) (by assumption) ?_
          simp only [Act.put, List.setIfInBounds_toArray]; try simp only [List.set_cons_zero, List.set_cons_succ]
          refine wpAnyH_takesJ (i := 11) (v := (.int .i64 (nd : Nat))) (some 43) rfl rfl (by kernel_rfl) (by kernel_rfl) (by kernel_rfl) (fun _ _ _ h => h) (Or.inl ⟨by rfl, (by intro W9 hSw; (try dsimp only at hSw); go_simp; first | done | with_reducible rfl)⟩) (by assumption) ?_
          simp only [Act.put, List.setIfInBounds_toArray]; try simp only [List.set_cons_zero, List.set_cons_succ]
          refine wpAnyH_takesJ (i := 12) (v := (.bool false)) (some 44) rfl rfl (by kernel_rfl) (by kernel_rfl) (by kernel_rfl) (fun _ _ _ h => h) (Or.inl ⟨by rfl, (by intro W9 hSw; (try dsimp only at hSw); go_simp; first | done | with_reducible rfl)⟩) (by assumption) ?_
          simp only [Act.put, List.setIfInBounds_toArray]; try simp only [List.set_cons_zero, List.set_cons_succ]
          refine wpAnyH_done (by kernel_rfl) ?_ _
          have hdr := (Below.refl V5.heap.size V5).drew
          obtain ⟨V6, hV⟩ : ∃ V, V = V5.drew := ⟨_, rfl⟩
          rw [← hV] at hdr ⊢
          have q3 := keepcell hdr q3
          have ck0 := keepcell hdr ck0
          have cl0 := keepcell hdr cl0
          have cs0 := keepcell hdr cs0
          have BV6 := Lib.hid (BV5.out.trans (hdr.mono BV5.out.size))
          clear hV hdr hHeld
          go_wp2_with fail
          go_roundw
          case rel => exact ⟨k + 1, by omega, by omega, by rw [HLO.out], by rw [HS.out], by first | exact wk | rw [wk] | go_num, BV6⟩
          case measure => simp [intOf]; omega
    · obtain rfl : k = ns := by omega
      have HF := Lib.hid (show ((lg : Nat) : Int) = (Jp.ends r).1 ∧ ((sd : Nat) : Int) = (Jp.ends r).2 by rw [HE.out, HLG.out, HSD.out]; exact ⟨rfl, rfl⟩)
      have BE := Lib.hid (held_trans B0.out HW.out)
      go_wp2_with (rw [← HVR.out])
      refine bodyPost_ret (v := .tuple #[.int .i64 (lg : Nat), .int .i64 (sd : Nat)]) (by simp [results, Tryd.results15, go_sem]) rfl ?_
      exact ⟨by rw [← HF.out.1, ← HF.out.2], BE.out⟩
end Go.Proofs.YthbeldmgaioemaaDoor

