/- balance.Ends, by its contract. -/
import Derived.Test.YthbeldmgaioemaaDoorM7
import Derived.Test.YthbeldmgaioemaaDoorERefEnds
namespace Go.Proofs.YthbeldmgaioemaaDoor
open Go.RowKit
set_option linter.unusedVariables false

set_option maxRecDepth 100000 in
set_option maxHeartbeats 2000000 in
theorem balEnds_any {F : Nat → Prop} (d : Ad) (r : Jp.Rn) (w : World) (h : RM F w d r) (hlow : Low r) :
    Calls Tryd.prog 14 #[jv d r] w fun e w' => e = .returned (.tuple #[.int .i64 (Jp.ends r).1, .int .i64 (Jp.ends r).2]) ∧ Below w.heap.size w w' := by
  obtain ⟨A0, nt, ct, R, nr, cr, S, ns, cs⟩ := d
  have H := Lib.hid h
  obtain ⟨hs1, hs2, hs3⟩ := h.ns
  have hs4 := hlow.rows
  simp only at hs1 hs2 hs3
  obtain ⟨V, hV, hX, hB⟩ := B5.start w (.slice A0 nt ct) (.int .i64 r.size) (.slice R nr cr) (.slice S ns cs) (.int .u64 (r.on : Nat)) 33
  have E := Lib.hid hV
  have X0 := Lib.hid hX
  have B0 := Lib.hid hB
  have q3 := hX.c3
  clear hV hX hB h hlow
  unfold jv
  go_enter Tryd.func14, Tryd.ntmps14
  go_wp2_with (rw [← E.out])
  clear E
  go_loopw [4, 5, 11] (fun l s i wr => ∃ k : Nat, k ≤ ns ∧ i = .int .i64 k ∧ (k = 0 → l = .int .i64 (-1) ∧ s = .int .i64 (-1)) ∧ (0 < k → l = .int .i64 (Jp.longTo r.rows (k - 1) : Nat) ∧ s = .int .i64 (Jp.shortTo r.rows (k - 1) : Nat)) ∧ wr = V) (fun _ _ i _ => ns - (intOf i).toNat)
  case atStart => exact ⟨0, Nat.zero_le _, rfl, fun _ => ⟨rfl, rfl⟩, fun h => absurd h (Nat.lt_irrefl _), rfl⟩
  case round =>
    obtain ⟨k, hk2, rfl, hz, hp, rfl⟩ := hrel
    by_cases hk0 : k = 0
    · subst hk0
      obtain ⟨rfl, rfl⟩ := hz rfl
      clear hz hp
      by_cases hn0 : ns = 0
      · subst hn0
        have HE := Lib.hid (show Jp.ends r = (-1, -1) by unfold Jp.ends; rw [if_pos hs1])
        go_wp2_with fail
        refine bodyPost_ret (v := .tuple #[.int .i64 (-1), .int .i64 (-1)]) (by simp [results, Tryd.results14, go_sem]) rfl ?_
        exact ⟨by rw [HE.out], B0.out⟩
      · obtain ⟨bS, oS, Ak, ck, hS, ck0, _⟩ := (H.out.below B0.out).rowC (i := 0) (by omega)
        simp only at hS
        subst hS
        rw [Nat.add_zero] at ck0
        have i1 : (0 : Int) < (ns : Int) := by omega
        have i2 : 0 < ns := by omega
        go_wp2_with fail
        go_roundw
        case rel => exact ⟨1, by omega, rfl, fun h => absurd h (by decide), fun _ => ⟨rfl, rfl⟩, by first | rfl | trivial⟩
        case measure => simp [intOf]; omega
    · obtain ⟨rfl, rfl⟩ := hp (by omega)
      clear hz hp
      obtain ⟨lg, hlg⟩ : ∃ l, l = Jp.longTo r.rows (k - 1) := ⟨_, rfl⟩
      obtain ⟨sd, hsd⟩ : ∃ l, l = Jp.shortTo r.rows (k - 1) := ⟨_, rfl⟩
      have hle := Jp.longTo_le r.rows (k - 1)
      have hse := Jp.shortTo_le r.rows (k - 1)
      rw [← hlg, ← hsd]
      rw [← hlg] at hle
      rw [← hsd] at hse
      have HLG := Lib.hid hlg
      have HSD := Lib.hid hsd
      clear hlg hsd
      have g0 : ¬ (lg : Int) < 0 := by omega
      have g1 : ¬ (sd : Int) < 0 := by omega
      have g2 : decide ((lg : Int) < 0) = false := decide_eq_false g0
      have g3 : decide ((sd : Int) < 0) = false := decide_eq_false g1
      by_cases hlt : k < ns
      · have M4 := H.out.below B0.out
        obtain ⟨bS, oS, Ak, ck, hS, ck0, _⟩ := M4.rowC (i := k) (by omega)
        obtain ⟨b2, o2, Al, cl, hS2, cl0, _⟩ := M4.rowC (i := lg) (by omega)
        obtain ⟨b3, o3, Ad, cd, hS3, cs0, _⟩ := M4.rowC (i := sd) (by omega)
        simp only at hS hS2 hS3
        subst hS
        injection hS2 with hS2
        injection hS2 with e1 e2 _
        subst e1 e2
        injection hS3 with hS3
        injection hS3 with e1 e2 _
        subst e1 e2
        obtain ⟨nk, hnk⟩ : ∃ n, n = Jp.rlen r.rows k := ⟨_, rfl⟩
        obtain ⟨nl, hnl⟩ : ∃ n, n = Jp.rlen r.rows lg := ⟨_, rfl⟩
        obtain ⟨nd, hnd⟩ : ∃ n, n = Jp.rlen r.rows sd := ⟨_, rfl⟩
        rw [← hnk] at ck0
        rw [← hnl] at cl0
        rw [← hnd] at cs0
        have HNK := Lib.hid hnk
        have HNL := Lib.hid hnl
        have HND := Lib.hid hnd
        have i0 : (0 : Int) ≤ (k : Int) := by omega
        have i1 : (k : Int) < (ns : Int) := by omega
        have i2 : (0 : Int) ≤ (lg : Int) := by omega
        have i3 : (lg : Int) < (ns : Int) := by omega
        have i4 : (0 : Int) ≤ (sd : Int) := by omega
        have i5 : (sd : Int) < (ns : Int) := by omega
        have i6 : lg < ns := by omega
        have i7 : sd < ns := by omega
        have wk : IntKind.i64.wrap ((k : Int) + 1) = ((k + 1 : Nat) : Int) := by
          rw [show ((k + 1 : Nat) : Int) = (k : Int) + 1 by omega]
          exact IntWalk.i64_in _ (by omega)
        have HLO := Lib.hid (show Jp.longTo r.rows (k + 1 - 1) = if nl < nk then k else lg from by
          obtain ⟨k', rfl⟩ : ∃ k', k = k' + 1 := ⟨k - 1, by omega⟩
          show (if Jp.rlen r.rows (Jp.longTo r.rows k') < Jp.rlen r.rows (k' + 1) then k' + 1 else Jp.longTo r.rows k') = _
          have e1 := HLG.out
          rw [show k' + 1 - 1 = k' from rfl] at e1
          rw [hnk, hnl, e1])
        have HSO := Lib.hid (show Jp.shortTo r.rows (k + 1 - 1) = if nk < nd then k else sd from by
          obtain ⟨k', rfl⟩ : ∃ k', k = k' + 1 := ⟨k - 1, by omega⟩
          show (if Jp.rlen r.rows (k' + 1) < Jp.rlen r.rows (Jp.shortTo r.rows k') then k' + 1 else Jp.shortTo r.rows k') = _
          have e1 := HSD.out
          rw [show k' + 1 - 1 = k' from rfl] at e1
          rw [hnk, hnd, e1])
        clear hnk hnl hnd hle hse M4
        by_cases h1 : nl < nk
        · have s0 : (nl : Int) < (nk : Int) := by omega
          have s1 : decide (nl < nk) = true := decide_eq_true h1
          by_cases h2 : nk < nd
          · have s2 : (nk : Int) < (nd : Int) := by omega
            have s3 : decide (nk < nd) = true := decide_eq_true h2
            rw [if_pos h1] at HLO
            rw [if_pos h2] at HSO
            go_wp2_with fail
            go_roundw
            case rel => exact ⟨k + 1, by omega, by first | exact wk | rw [wk] | go_num, fun h => absurd h (by omega), fun _ => ⟨by rw [HLO.out], by rw [HSO.out]⟩, by first | rfl | trivial⟩
            case measure => simp [intOf]; omega
          · have s2 : ¬ (nk : Int) < (nd : Int) := by omega
            have s3 : decide (nk < nd) = false := decide_eq_false h2
            rw [if_pos h1] at HLO
            rw [if_neg h2] at HSO
            go_wp2_with fail
            go_roundw
            case rel => exact ⟨k + 1, by omega, by first | exact wk | rw [wk] | go_num, fun h => absurd h (by omega), fun _ => ⟨by rw [HLO.out], by rw [HSO.out]⟩, by first | rfl | trivial⟩
            case measure => simp [intOf]; omega
        · have s0 : ¬ (nl : Int) < (nk : Int) := by omega
          have s1 : decide (nl < nk) = false := decide_eq_false h1
          by_cases h2 : nk < nd
          · have s2 : (nk : Int) < (nd : Int) := by omega
            have s3 : decide (nk < nd) = true := decide_eq_true h2
            rw [if_neg h1] at HLO
            rw [if_pos h2] at HSO
            go_wp2_with fail
            go_roundw
            case rel => exact ⟨k + 1, by omega, by first | exact wk | rw [wk] | go_num, fun h => absurd h (by omega), fun _ => ⟨by rw [HLO.out], by rw [HSO.out]⟩, by first | rfl | trivial⟩
            case measure => simp [intOf]; omega
          · have s2 : ¬ (nk : Int) < (nd : Int) := by omega
            have s3 : decide (nk < nd) = false := decide_eq_false h2
            rw [if_neg h1] at HLO
            rw [if_neg h2] at HSO
            go_wp2_with fail
            go_roundw
            case rel => exact ⟨k + 1, by omega, by first | exact wk | rw [wk] | go_num, fun h => absurd h (by omega), fun _ => ⟨by rw [HLO.out], by rw [HSO.out]⟩, by first | rfl | trivial⟩
            case measure => simp [intOf]; omega
      · obtain rfl : k = ns := by omega
        have HF := Lib.hid (show ((lg : Nat) : Int) = (Jp.ends r).1 ∧ ((sd : Nat) : Int) = (Jp.ends r).2 by
          unfold Jp.ends Jp.long Jp.short
          rw [if_neg (by omega), hs1, HLG.out, HSD.out]
          exact ⟨rfl, rfl⟩)
        go_wp2_with fail
        refine bodyPost_ret (v := .tuple #[.int .i64 (lg : Nat), .int .i64 (sd : Nat)]) (by simp [results, Tryd.results14, go_sem]) rfl ?_
        exact ⟨by rw [← HF.out.1, ← HF.out.2], B0.out⟩
end Go.Proofs.YthbeldmgaioemaaDoor

