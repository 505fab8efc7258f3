/- sem.Release, by its contract. -/
import Derived.Test.YtlcgadcbeoljbaaSAcq
namespace Go.Proofs.Ytlcgadcbeoljbaa
open Go.RowKit
set_option linter.unusedVariables false

set_option maxHeartbeats 1600000 in
theorem rel_any (x : Int) (A : Option Addr) (n c : Nat) (zs : List Int) (w : World) (h : Row w A n c zs) (hn : n ≤ 100000) (h0 : 0 ≤ x) (h1 : x ≤ 1000000) :
    Calls Try.prog 8 #[.agg #[.int .i64 x, .slice A n c]] w (MadeSI w (Sp.rel (x, zs))) := by
  have H := Lib.hid h
  have hlen := h.len
  clear h
  obtain ⟨W0, hW0, hX0⟩ := Bx.start w (.int .i64 x) (.slice A n c) (.int .i64 0) (.slice none 0 0) 26 26
  have c0 := hX0.c0
  have c1 := hX0.c1
  have X0 := Lib.hid hX0
  have E0 := Lib.hid hW0
  clear hX0 hW0
  by_cases hz : n = 0
  · subst hz
    obtain rfl : zs = [] := List.length_eq_zero_iff.1 hlen
    by_cases hx : x = 1000000
    · subst hx
      have HR := Lib.hid (show Sp.rel ((1000000 : Int), []) = ((1000000, []), 0) from rfl)
      go_enter Try.func8, Try.ntmps8
      go_wp2_with fail
      rw [← E0.out]
      clear E0
      refine (first_all A 0 c [] _ (H.out.below X0.out.below)).mono ?_
      rintro e w2 ⟨rfl, hb2⟩
      have X2 := X0.out.step hb2
      have HM := made_si (r := ((1000000, []), 0)) (x := 1000000) (y := 0) (n := 0) (c := 0) (A := none) (u := .int .i64 1000000) (v := .slice none 0 0) (w := w) rfl rfl (Row.nothing _) (From.none _) X2.below
      rw [← HR.out] at HM
      have HM := Lib.hid HM
      have d0 := X2.c0
      have d1 := X2.c1
      have d2 := X2.r0
      have d3 := X2.r1
      have d4 := X2.f0
      have d5 := X2.f1
      obtain ⟨k0, k1⟩ := told2 (u := .int .i64 1000000) (v := .slice none 0 0) d2 d3
      clear hb2 c0 c1 X2 HR
      go_wp2_with fail
      refine bodyPost_ret (v := .tuple #[.agg #[.int .i64 1000000, .slice none 0 0], .int .i64 0]) ?_ rfl ?_
      · simp [results, Try.results8, go_sem, k0, k1]
      exact HM.out
    · have HR := Lib.hid (show Sp.rel (x, []) = ((x + 1, []), 0) by unfold Sp.rel; simp only; rw [if_neg hx])
      have s1 : IntKind.i64.wrap (x + 1) = x + 1 := IntWalk.i64_in _ (by omega)
      have t1 : (x == 1000000) = false := by rw [beq_eq_false_iff_ne]; exact hx
      go_enter Try.func8, Try.ntmps8
      go_wp2_with fail
      rw [← E0.out]
      clear E0
      refine (first_all A 0 c [] _ (H.out.below X0.out.below)).mono ?_
      rintro e w2 ⟨rfl, hb2⟩
      have X2 := X0.out.step hb2
      have HM := made_si (r := (((x + 1), []), 0)) (x := (x + 1)) (y := 0) (n := 0) (c := 0) (A := none) (u := .int .i64 (x + 1)) (v := .slice none 0 0) (w := w) rfl rfl (Row.nothing _) (From.none _) X2.below
      rw [← HR.out] at HM
      have HM := Lib.hid HM
      have d0 := X2.c0
      have d1 := X2.c1
      have d2 := X2.r0
      have d3 := X2.r1
      have d4 := X2.f0
      have d5 := X2.f1
      obtain ⟨k0, k1⟩ := told2 (u := .int .i64 (x + 1)) (v := .slice none 0 0) d2 d3
      clear hb2 c0 c1 X2 HR
      go_wp2_with fail
      refine bodyPost_ret (v := .tuple #[.agg #[.int .i64 (x + 1), .slice none 0 0], .int .i64 0]) ?_ rfl ?_
      · simp [results, Try.results8, go_sem, k0, k1]
      exact HM.out
  · obtain ⟨z, t, rfl⟩ : ∃ z t, zs = z :: t := by cases zs with | nil => exact absurd hlen.symm hz | cons z t => exact ⟨z, t, rfl⟩
    have HR := Lib.hid (show Sp.rel (x, z :: t) = ((x, t), z) from rfl)
    obtain ⟨b, off, rfl, hbk, hcs⟩ := H.out.cells (by omega)
    have hn1 : (0 : Int) < (n : Int) := by omega
    have hn2 : 1 ≤ n := by omega
    have hn3 : 0 < n := by omega
    have hcap := H.out.cap
    have hcm := H.out.most
    have HS := (H.out.slice 1 hn2)
    have e1 : decide (0 < n) = true := by simpa using hn3
    have hn4 : (1 : Int) ≤ (c : Int) := by omega
    have hn5 : (1 : Int) ≤ (n : Int) := by omega
    have hn6 : 1 ≤ c := by omega
    have hn7 : (n : Int) ≤ (c : Int) := by omega
    clear hcs
    by_cases hc : c = 1
    · subst hc
      obtain rfl : n = 1 := by omega
      rw [if_pos rfl] at HS
      have HS' := Lib.hid HS
      clear HS
      go_enter Try.func8, Try.ntmps8
      go_wp2_with fail
      rw [← E0.out]
      clear E0
      refine (first_all _ 1 1 (z :: t) _ (H.out.below X0.out.below)).mono ?_
      rintro e w2 ⟨rfl, hb2⟩
      rw [e1, List.headD_cons]
      have X2 := Lib.hid (X0.out.step hb2)
      have d0 := X2.out.c0
      have d1 := X2.out.c1
      clear hb2 c0 c1
      go_wp2_with fail
      go_region_held3 (fun w' => w'.cell? ⟨w.heap.size, 0, none⟩ = some (.int .i64 x) ∧ w'.cell? ⟨w.heap.size, 1, none⟩ = some (.slice (some ⟨b, off, none⟩) 1 1))
        (first | (refine ⟨?_, ?_⟩ <;> assumption) | go_keep)
        ((go_at_call 18; refine (row_own _ 0 0 t _ (by exact HS'.out.below (X2.out.drew).below) (by omega)).mono ?_; rintro e w3 ⟨v3, n3, rfl, ho3, hb3⟩; obtain ⟨A3, c3, rfl, hr3, hf3⟩ := Row.of_own' ho3; have X3 := X2.out.drew.step hb3; have e0 := X3.c0; have e1 := X3.c1; have e2 := X3.r0; have e3 := X3.r1; have e4 := X3.f0; have e5 := X3.f1))
      have HM := made_si (r := ((x, t), z)) (x := x) (y := z) (u := .int .i64 x) (v := .slice A3 n3 c3) (w := w) rfl rfl hr3 (hf3.mono X2.out.size) X3.below
      rw [← HR.out] at HM
      have HM := Lib.hid HM
      obtain ⟨k0, k1⟩ := told2 (u := .int .i64 x) (v := .slice A3 n3 c3) e2 e3
      clear e0 e1 e2 e3 e4 e5 hr3 hf3 hb3 ho3 HR d0 d1
      go_wp2_with fail
      refine bodyPost_ret (v := .tuple #[.agg #[.int .i64 x, .slice A3 n3 c3], .int .i64 z]) ?_ rfl ?_
      · simp [results, Try.results8, go_sem, k0, k1]
      exact HM.out
    · rw [if_neg hc] at HS
      have HS' := Lib.hid HS
      clear HS
      go_enter Try.func8, Try.ntmps8
      go_wp2_with fail
      rw [← E0.out]
      clear E0
      refine (first_all _ n c (z :: t) _ (H.out.below X0.out.below)).mono ?_
      rintro e w2 ⟨rfl, hb2⟩
      rw [e1, List.headD_cons]
      have X2 := Lib.hid (X0.out.step hb2)
      have d0 := X2.out.c0
      have d1 := X2.out.c1
      clear hb2 c0 c1
      go_wp2_with fail
      go_region_held3 (fun w' => w'.cell? ⟨w.heap.size, 0, none⟩ = some (.int .i64 x) ∧ w'.cell? ⟨w.heap.size, 1, none⟩ = some (.slice (some ⟨b, off, none⟩) n c))
        (first | (refine ⟨?_, ?_⟩ <;> assumption) | go_keep)
        ((go_at_call 18; refine (row_own _ (n - 1) (c - 1) t _ (by exact HS'.out.below (X2.out.drew).below) (by omega)).mono ?_; rintro e w3 ⟨v3, n3, rfl, ho3, hb3⟩; obtain ⟨A3, c3, rfl, hr3, hf3⟩ := Row.of_own' ho3; have X3 := X2.out.drew.step hb3; have e0 := X3.c0; have e1 := X3.c1; have e2 := X3.r0; have e3 := X3.r1; have e4 := X3.f0; have e5 := X3.f1))
      have HM := made_si (r := ((x, t), z)) (x := x) (y := z) (u := .int .i64 x) (v := .slice A3 n3 c3) (w := w) rfl rfl hr3 (hf3.mono X2.out.size) X3.below
      rw [← HR.out] at HM
      have HM := Lib.hid HM
      obtain ⟨k0, k1⟩ := told2 (u := .int .i64 x) (v := .slice A3 n3 c3) e2 e3
      clear e0 e1 e2 e3 e4 e5 hr3 hf3 hb3 ho3 HR d0 d1
      go_wp2_with fail
      refine bodyPost_ret (v := .tuple #[.agg #[.int .i64 x, .slice A3 n3 c3], .int .i64 z]) ?_ rfl ?_
      · simp [results, Try.results8, go_sem, k0, k1]
      exact HM.out
end Go.Proofs.Ytlcgadcbeoljbaa

