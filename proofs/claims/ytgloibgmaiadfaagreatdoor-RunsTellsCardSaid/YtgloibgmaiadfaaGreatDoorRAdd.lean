/- ring.Add, by its contract. -/
import Derived.Test.YtgloibgmaiadfaaGreatDoorM1
namespace Go.Proofs.YtgloibgmaiadfaaGreatDoor
open Go.RowKit
set_option linter.unusedVariables false

/-- What a call leaves that has made a ring and a row. -/
def MadeRL (w0 : World) (r : (Int × List Int) × List Int) (e : Ending) (w' : World) : Prop :=
  ∃ A n c B m d, e = .returned (.tuple #[.agg #[.int .i64 r.1.1, .slice A n c], .slice B m d]) ∧ Row w' A n c r.1.2 ∧ From w0.heap.size A ∧ Row w' B m d r.2 ∧ From w0.heap.size B ∧ Below w0.heap.size w0 w'
/-- The end: the ring is told by its place, and the row. -/
theorem made_rl {w W2 : World} {r : (Int × List Int) × List Int} {A B : Option Addr} {n m c d : Nat} {x : Int} {u v : Value} (hx : x = r.1.1) (ha : Row W2 A n c r.1.2) (fa : From (w.heap.size + 2) A) (hb : Row W2 B m d r.2) (fb : From (w.heap.size + 2) B) (hbe : Below w.heap.size w W2) :
    MadeRL w r (.returned (.tuple #[.agg #[.int .i64 x, .slice A n c], .slice B m d])) ((W2.setCell ⟨w.heap.size + 1, 0, none⟩ u).setCell ⟨w.heap.size + 1, 1, none⟩ v) := by
  subst hx
  exact ⟨A, n, c, B, m, d, rfl, (ha.set fa).set fa, fa.mono (by omega), (hb.set fb).set fb, fb.mono (by omega), (hbe.setCell (by simp) _).setCell (by simp) _⟩
set_option maxHeartbeats 1600000 in
theorem add_any (x : Int) (A : Option Addr) (n c : Nat) (zs : List Int) (g s : Int) (w : World) (h : Row w A n c zs) (hn : n ≤ 100000) :
    Calls Tryz.prog 59 #[.agg #[.int .i64 x, .slice A n c], .int .i64 g, .int .i64 s] w (MadeRL w (Rp.add (x, zs) g s)) := by
  have h1 := h.cap
  have h2 := h.most
  have H := Lib.hid h
  clear h
  obtain ⟨W0, hW0, hX0⟩ := Bx.start w (.int .i64 x) (.slice A n c) (.int .i64 0) (.slice none 0 0) 55 55
  have c0 := hX0.c0
  have c1 := hX0.c1
  have X0 := Lib.hid hX0
  have E0 := Lib.hid hW0
  clear hX0 hW0
  rcases Int.lt_trichotomy s 2 with hs | hs | hs
  · have hz : Rp.sz s = 2 := Rp.sz_low hs
    by_cases hlt : n < 2
    · skip
      have HR := Lib.hid (show Rp.add (x, zs) g s = ((x, zs ++ [g]), []) by unfold Rp.add; rw [if_pos (by rw [hz, H.out.len]; exact hlt)])
      go_enter Tryz.func59, Tryz.ntmps59
      go_wp2_with fail
      rw [← E0.out]
      clear E0
      go_region_held3 (fun w' => w'.cell? ⟨w.heap.size, 0, none⟩ = some (.int .i64 x) ∧ w'.cell? ⟨w.heap.size, 1, none⟩ = some (.slice A n c))
        (first | (refine ⟨?_, ?_⟩ <;> assumption) | go_keep)
        (first | (go_at_call 77; refine (behind_any A n c zs g _ (by exact H.out.below (X0.out.drew).below) (by omega)).mono ?_; rintro e w2 ⟨A2, n2, c2, rfl, hr2, hf2, hb2⟩; have X2 := X0.out.drew.step hb2; have d0 := X2.c0; have d1 := X2.c1; have d2 := X2.r0; have d3 := X2.r1; have d4 := X2.f0; have d5 := X2.f1))
      have HM := made_rl (r := ((x, zs ++ [g]), [])) (x := x) (m := 0) (u := .int .i64 x) (v := .slice A2 n2 c2) (w := w) rfl hr2 (hf2.mono X0.out.size) (Row.nothing _) (From.none _) X2.below
      rw [← HR.out] at HM
      have HM := Lib.hid HM
      obtain ⟨k0, k1⟩ := told2 (u := .int .i64 x) (v := .slice A2 n2 c2) d2 d3
      clear d0 d1 d2 d3 d4 d5 hr2 hf2 hb2 HR c0 c1
      go_wp2_with fail
      refine bodyPost_ret (v := .tuple #[.agg #[.int .i64 x, .slice A2 n2 c2], .slice none 0 0]) ?_ rfl ?_
      · simp [results, Tryz.results59, go_sem, k0, k1]
      exact HM.out
    · have t1 : 1 ≤ n := by omega
      have t2 : (1 : Int) ≤ (c : Int) := by omega
      have HR := Lib.hid (show Rp.add (x, zs) g s = ((x, zs.drop (1)), zs.take (1) ++ [g]) by unfold Rp.add; rw [if_neg (by rw [hz, H.out.len]; exact hlt), hz] <;> first | rfl | rw [← Hk.out])
      go_enter Tryz.func59, Tryz.ntmps59
      go_wp2_with fail
      rw [← E0.out]
      clear E0
      go_region_held3 (fun w' => w'.cell? ⟨w.heap.size, 0, none⟩ = some (.int .i64 x) ∧ w'.cell? ⟨w.heap.size, 1, none⟩ = some (.slice A n c))
        (first | (refine ⟨?_, ?_⟩ <;> assumption) | go_keep)
        (first
          | (go_at_call 58; refine (left_at A n c zs (1) _ _ (by first | rfl | omega) (by first | exact H.out.below (X0.out.drew).below | exact H.out.below XB.below) (by omega) (by omega)).mono ?_; rintro e wL ⟨AL, nL, cL, rfl, hrL, hfL, hbL⟩; have XL : Bx w wL (.int .i64 x) (.slice A n c) (.int .i64 0) (.slice none 0 0) := (by first | exact X0.out.drew.step hbL | exact XB.step hbL); have fL : From (w.heap.size + 2) AL := (by first | exact hfL.mono X0.out.size | exact hfL.mono XB.size); have l0 := XL.c0; have l1 := XL.c1; have l2 := XL.r0; have l3 := XL.r1; have l4 := XL.f0; have l5 := XL.f1)
          | (go_at_call 77; refine (behind_any A (1) c (zs.take (1)) g _ (by first | exact (H.out.below (X0.out.drew).below).take _ (by omega) | exact (H.out.below XL.below).take _ (by omega)) (by omega)).mono ?_; rintro e wB ⟨AB, nB, cB, rfl, hrB, hfB, hbB⟩; have XB : Bx w wB (.int .i64 x) (.slice A n c) (.int .i64 0) (.slice none 0 0) := (by first | exact X0.out.drew.step hbB | exact XL.step hbB); have fB : From (w.heap.size + 2) AB := (by first | exact hfB.mono X0.out.size | exact hfB.mono XL.size); have b0 := XB.c0; have b1 := XB.c1; have b2 := XB.r0; have b3 := XB.r1; have b4 := XB.f0; have b5 := XB.f1))
      all_goals
        first
          | (have HM := made_rl (r := ((x, zs.drop (1)), zs.take (1) ++ [g])) (x := x) (u := .int .i64 x) (v := .slice AL nL cL) (w := w) rfl (hrL.below hbB) fL hrB fB XB.below; obtain ⟨k0, k1⟩ := told2 (u := .int .i64 x) (v := .slice AL nL cL) b2 b3)
          | (have HM := made_rl (r := ((x, zs.drop (1)), zs.take (1) ++ [g])) (x := x) (u := .int .i64 x) (v := .slice AL nL cL) (w := w) rfl hrL fL (hrB.below hbL) fB XL.below; obtain ⟨k0, k1⟩ := told2 (u := .int .i64 x) (v := .slice AL nL cL) l2 l3)
        rw [← HR.out] at HM
        have HM := Lib.hid HM
        clear b0 b1 b2 b3 b4 b5 l0 l1 l2 l3 l4 l5 hrB hfB hbB hrL hfL hbL HR c0 c1
        go_wp2_with fail
        refine bodyPost_ret (v := .tuple #[.agg #[.int .i64 x, .slice AL nL cL], .slice AB nB cB]) ?_ rfl ?_
        · simp [results, Tryz.results59, go_sem, k0, k1]
        exact HM.out
  · subst hs
    have hz : Rp.sz 2 = 2 := rfl
    by_cases hlt : n < 2
    · skip
      have HR := Lib.hid (show Rp.add (x, zs) g 2 = ((x, zs ++ [g]), []) by unfold Rp.add; rw [if_pos (by rw [hz, H.out.len]; exact hlt)])
      go_enter Tryz.func59, Tryz.ntmps59
      go_wp2_with fail
      rw [← E0.out]
      clear E0
      go_region_held3 (fun w' => w'.cell? ⟨w.heap.size, 0, none⟩ = some (.int .i64 x) ∧ w'.cell? ⟨w.heap.size, 1, none⟩ = some (.slice A n c))
        (first | (refine ⟨?_, ?_⟩ <;> assumption) | go_keep)
        (first | (go_at_call 77; refine (behind_any A n c zs g _ (by exact H.out.below (X0.out.drew).below) (by omega)).mono ?_; rintro e w2 ⟨A2, n2, c2, rfl, hr2, hf2, hb2⟩; have X2 := X0.out.drew.step hb2; have d0 := X2.c0; have d1 := X2.c1; have d2 := X2.r0; have d3 := X2.r1; have d4 := X2.f0; have d5 := X2.f1))
      have HM := made_rl (r := ((x, zs ++ [g]), [])) (x := x) (m := 0) (u := .int .i64 x) (v := .slice A2 n2 c2) (w := w) rfl hr2 (hf2.mono X0.out.size) (Row.nothing _) (From.none _) X2.below
      rw [← HR.out] at HM
      have HM := Lib.hid HM
      obtain ⟨k0, k1⟩ := told2 (u := .int .i64 x) (v := .slice A2 n2 c2) d2 d3
      clear d0 d1 d2 d3 d4 d5 hr2 hf2 hb2 HR c0 c1
      go_wp2_with fail
      refine bodyPost_ret (v := .tuple #[.agg #[.int .i64 x, .slice A2 n2 c2], .slice none 0 0]) ?_ rfl ?_
      · simp [results, Tryz.results59, go_sem, k0, k1]
      exact HM.out
    · have t1 : 1 ≤ n := by omega
      have t2 : (1 : Int) ≤ (c : Int) := by omega
      have HR := Lib.hid (show Rp.add (x, zs) g 2 = ((x, zs.drop (1)), zs.take (1) ++ [g]) by unfold Rp.add; rw [if_neg (by rw [hz, H.out.len]; exact hlt), hz] <;> first | rfl | rw [← Hk.out])
      go_enter Tryz.func59, Tryz.ntmps59
      go_wp2_with fail
      rw [← E0.out]
      clear E0
      go_region_held3 (fun w' => w'.cell? ⟨w.heap.size, 0, none⟩ = some (.int .i64 x) ∧ w'.cell? ⟨w.heap.size, 1, none⟩ = some (.slice A n c))
        (first | (refine ⟨?_, ?_⟩ <;> assumption) | go_keep)
        (first
          | (go_at_call 58; refine (left_at A n c zs (1) _ _ (by first | rfl | omega) (by first | exact H.out.below (X0.out.drew).below | exact H.out.below XB.below) (by omega) (by omega)).mono ?_; rintro e wL ⟨AL, nL, cL, rfl, hrL, hfL, hbL⟩; have XL : Bx w wL (.int .i64 x) (.slice A n c) (.int .i64 0) (.slice none 0 0) := (by first | exact X0.out.drew.step hbL | exact XB.step hbL); have fL : From (w.heap.size + 2) AL := (by first | exact hfL.mono X0.out.size | exact hfL.mono XB.size); have l0 := XL.c0; have l1 := XL.c1; have l2 := XL.r0; have l3 := XL.r1; have l4 := XL.f0; have l5 := XL.f1)
          | (go_at_call 77; refine (behind_any A (1) c (zs.take (1)) g _ (by first | exact (H.out.below (X0.out.drew).below).take _ (by omega) | exact (H.out.below XL.below).take _ (by omega)) (by omega)).mono ?_; rintro e wB ⟨AB, nB, cB, rfl, hrB, hfB, hbB⟩; have XB : Bx w wB (.int .i64 x) (.slice A n c) (.int .i64 0) (.slice none 0 0) := (by first | exact X0.out.drew.step hbB | exact XL.step hbB); have fB : From (w.heap.size + 2) AB := (by first | exact hfB.mono X0.out.size | exact hfB.mono XL.size); have b0 := XB.c0; have b1 := XB.c1; have b2 := XB.r0; have b3 := XB.r1; have b4 := XB.f0; have b5 := XB.f1))
      all_goals
        first
          | (have HM := made_rl (r := ((x, zs.drop (1)), zs.take (1) ++ [g])) (x := x) (u := .int .i64 x) (v := .slice AL nL cL) (w := w) rfl (hrL.below hbB) fL hrB fB XB.below; obtain ⟨k0, k1⟩ := told2 (u := .int .i64 x) (v := .slice AL nL cL) b2 b3)
          | (have HM := made_rl (r := ((x, zs.drop (1)), zs.take (1) ++ [g])) (x := x) (u := .int .i64 x) (v := .slice AL nL cL) (w := w) rfl hrL fL (hrB.below hbL) fB XL.below; obtain ⟨k0, k1⟩ := told2 (u := .int .i64 x) (v := .slice AL nL cL) l2 l3)
        rw [← HR.out] at HM
        have HM := Lib.hid HM
        clear b0 b1 b2 b3 b4 b5 l0 l1 l2 l3 l4 l5 hrB hfB hbB hrL hfL hbL HR c0 c1
        go_wp2_with fail
        refine bodyPost_ret (v := .tuple #[.agg #[.int .i64 x, .slice AL nL cL], .slice AB nB cB]) ?_ rfl ?_
        · simp [results, Tryz.results59, go_sem, k0, k1]
        exact HM.out
  · obtain ⟨m, rfl⟩ := Int.eq_ofNat_of_zero_le (show 0 ≤ s by omega)
    have hm2 : 2 ≤ m := by omega
    have hz : Rp.sz (m : Int) = m := Rp.sz_nat m hm2
    by_cases hlt : n < m
    · skip
      have HR := Lib.hid (show Rp.add (x, zs) g m = ((x, zs ++ [g]), []) by unfold Rp.add; rw [if_pos (by rw [hz, H.out.len]; exact hlt)])
      go_enter Tryz.func59, Tryz.ntmps59
      go_wp2_with fail
      rw [← E0.out]
      clear E0
      go_region_held3 (fun w' => w'.cell? ⟨w.heap.size, 0, none⟩ = some (.int .i64 x) ∧ w'.cell? ⟨w.heap.size, 1, none⟩ = some (.slice A n c))
        (first | (refine ⟨?_, ?_⟩ <;> assumption) | go_keep)
        (first | (go_at_call 77; refine (behind_any A n c zs g _ (by exact H.out.below (X0.out.drew).below) (by omega)).mono ?_; rintro e w2 ⟨A2, n2, c2, rfl, hr2, hf2, hb2⟩; have X2 := X0.out.drew.step hb2; have d0 := X2.c0; have d1 := X2.c1; have d2 := X2.r0; have d3 := X2.r1; have d4 := X2.f0; have d5 := X2.f1))
      have HM := made_rl (r := ((x, zs ++ [g]), [])) (x := x) (m := 0) (u := .int .i64 x) (v := .slice A2 n2 c2) (w := w) rfl hr2 (hf2.mono X0.out.size) (Row.nothing _) (From.none _) X2.below
      rw [← HR.out] at HM
      have HM := Lib.hid HM
      obtain ⟨k0, k1⟩ := told2 (u := .int .i64 x) (v := .slice A2 n2 c2) d2 d3
      clear d0 d1 d2 d3 d4 d5 hr2 hf2 hb2 HR c0 c1
      go_wp2_with fail
      refine bodyPost_ret (v := .tuple #[.agg #[.int .i64 x, .slice A2 n2 c2], .slice none 0 0]) ?_ rfl ?_
      · simp [results, Tryz.results59, go_sem, k0, k1]
      exact HM.out
    · obtain ⟨k, hk⟩ : ∃ k, k = m / 2 := ⟨_, rfl⟩
      have t0 : Int.tdiv (m : Int) 2 = (k : Int) := by rw [hk]; rfl
      have t3 : (m : Int) / 2 = (k : Int) := by omega
      have t1 : (0 : Int) ≤ (k : Int) := by omega
      have t2 : (k : Int) ≤ (c : Int) := by omega
      have t4 : k ≤ n := by omega
      have Hk := Lib.hid hk
      clear hk
      have HR := Lib.hid (show Rp.add (x, zs) g m = ((x, zs.drop (k)), zs.take (k) ++ [g]) by unfold Rp.add; rw [if_neg (by rw [hz, H.out.len]; exact hlt), hz] <;> first | rfl | rw [← Hk.out])
      go_enter Tryz.func59, Tryz.ntmps59
      go_wp2_with fail
      rw [← E0.out]
      clear E0
      go_region_held3 (fun w' => w'.cell? ⟨w.heap.size, 0, none⟩ = some (.int .i64 x) ∧ w'.cell? ⟨w.heap.size, 1, none⟩ = some (.slice A n c))
        (first | (refine ⟨?_, ?_⟩ <;> assumption) | go_keep)
        (first
          | (go_at_call 58; refine (left_at A n c zs (k) _ _ (by first | rfl | omega) (by first | exact H.out.below (X0.out.drew).below | exact H.out.below XB.below) (by omega) (by omega)).mono ?_; rintro e wL ⟨AL, nL, cL, rfl, hrL, hfL, hbL⟩; have XL : Bx w wL (.int .i64 x) (.slice A n c) (.int .i64 0) (.slice none 0 0) := (by first | exact X0.out.drew.step hbL | exact XB.step hbL); have fL : From (w.heap.size + 2) AL := (by first | exact hfL.mono X0.out.size | exact hfL.mono XB.size); have l0 := XL.c0; have l1 := XL.c1; have l2 := XL.r0; have l3 := XL.r1; have l4 := XL.f0; have l5 := XL.f1)
          | (go_at_call 77; refine (behind_any A (k) c (zs.take (k)) g _ (by first | exact (H.out.below (X0.out.drew).below).take _ (by omega) | exact (H.out.below XL.below).take _ (by omega)) (by omega)).mono ?_; rintro e wB ⟨AB, nB, cB, rfl, hrB, hfB, hbB⟩; have XB : Bx w wB (.int .i64 x) (.slice A n c) (.int .i64 0) (.slice none 0 0) := (by first | exact X0.out.drew.step hbB | exact XL.step hbB); have fB : From (w.heap.size + 2) AB := (by first | exact hfB.mono X0.out.size | exact hfB.mono XL.size); have b0 := XB.c0; have b1 := XB.c1; have b2 := XB.r0; have b3 := XB.r1; have b4 := XB.f0; have b5 := XB.f1))
      all_goals
        first
          | (have HM := made_rl (r := ((x, zs.drop (k)), zs.take (k) ++ [g])) (x := x) (u := .int .i64 x) (v := .slice AL nL cL) (w := w) rfl (hrL.below hbB) fL hrB fB XB.below; obtain ⟨k0, k1⟩ := told2 (u := .int .i64 x) (v := .slice AL nL cL) b2 b3)
          | (have HM := made_rl (r := ((x, zs.drop (k)), zs.take (k) ++ [g])) (x := x) (u := .int .i64 x) (v := .slice AL nL cL) (w := w) rfl hrL fL (hrB.below hbL) fB XL.below; obtain ⟨k0, k1⟩ := told2 (u := .int .i64 x) (v := .slice AL nL cL) l2 l3)
        rw [← HR.out] at HM
        have HM := Lib.hid HM
        clear b0 b1 b2 b3 b4 b5 l0 l1 l2 l3 l4 l5 hrB hfB hbB hrL hfL hbL HR c0 c1
        go_wp2_with fail
        refine bodyPost_ret (v := .tuple #[.agg #[.int .i64 x, .slice AL nL cL], .slice AB nB cB]) ?_ rfl ?_
        · simp [results, Tryz.results59, go_sem, k0, k1]
        exact HM.out
end Go.Proofs.YtgloibgmaiadfaaGreatDoor

