/- sem.Acquire, by its contract. -/
import Derived.Test.YtlcgadcbeoljbaaSRow
namespace Go.Proofs.Ytlcgadcbeoljbaa
open Go.RowKit
set_option linter.unusedVariables false

/-- What a call leaves that has made a semaphore and told a bool. -/
def MadeSB (w0 : World) (r : (Int × List Int) × Bool) (e : Ending) (w' : World) : Prop :=
  ∃ A n c, e = .returned (.tuple #[.agg #[.int .i64 r.1.1, .slice A n c], .bool r.2]) ∧ Row w' A n c r.1.2 ∧ From w0.heap.size A ∧ Below w0.heap.size w0 w'
/-- What a call leaves that has made a semaphore and told a number. -/
def MadeSI (w0 : World) (r : (Int × List Int) × Int) (e : Ending) (w' : World) : Prop :=
  ∃ A n c, e = .returned (.tuple #[.agg #[.int .i64 r.1.1, .slice A n c], .int .i64 r.2]) ∧ Row w' A n c r.1.2 ∧ From w0.heap.size A ∧ Below w0.heap.size w0 w'
theorem made_sb {w W2 : World} {r : (Int × List Int) × Bool} {A : Option Addr} {n c : Nat} {x : Int} {y : Bool} {u v : Value} (hx : x = r.1.1) (hy : y = r.2) (ha : Row W2 A n c r.1.2) (fa : From (w.heap.size + 2) A) (hbe : Below w.heap.size w W2) :
    MadeSB w r (.returned (.tuple #[.agg #[.int .i64 x, .slice A n c], .bool y])) ((W2.setCell ⟨w.heap.size + 1, 0, none⟩ u).setCell ⟨w.heap.size + 1, 1, none⟩ v) := by
  subst hx hy
  exact ⟨A, n, c, rfl, (ha.set fa).set fa, fa.mono (by omega), (hbe.setCell (by simp) _).setCell (by simp) _⟩
theorem made_si {w W2 : World} {r : (Int × List Int) × Int} {A : Option Addr} {n c : Nat} {x y : Int} {u v : Value} (hx : x = r.1.1) (hy : y = r.2) (ha : Row W2 A n c r.1.2) (fa : From (w.heap.size + 2) A) (hbe : Below w.heap.size w W2) :
    MadeSI w r (.returned (.tuple #[.agg #[.int .i64 x, .slice A n c], .int .i64 y])) ((W2.setCell ⟨w.heap.size + 1, 0, none⟩ u).setCell ⟨w.heap.size + 1, 1, none⟩ v) := by
  subst hx hy
  exact ⟨A, n, c, rfl, (ha.set fa).set fa, fa.mono (by omega), (hbe.setCell (by simp) _).setCell (by simp) _⟩
set_option maxHeartbeats 1600000 in
theorem acq_any (x : Int) (A : Option Addr) (n c : Nat) (zs : List Int) (g : Int) (w : World) (h : Row w A n c zs) (hn : n ≤ 100000) (h0 : 0 ≤ x) (h1 : x ≤ 1000000) :
    Calls Try.prog 9 #[.agg #[.int .i64 x, .slice A n c], .int .i64 g] w (MadeSB w (Sp.acq (x, zs) g)) := by
  have H := Lib.hid h
  clear h
  obtain ⟨W0, hW0, hX0⟩ := Bx.start w (.int .i64 x) (.slice A n c) (.int .i64 0) (.slice none 0 0) 26 26
  have c0 := hX0.c0
  have c1 := hX0.c1
  have X0 := Lib.hid hX0
  have E0 := Lib.hid hW0
  clear hX0 hW0
  by_cases hx : 0 < x
  · have HR := Lib.hid (show Sp.acq (x, zs) g = ((x - 1, zs), true) by unfold Sp.acq; rw [if_pos hx])
    have s1 : IntKind.i64.wrap (x - 1) = x - 1 := IntWalk.i64_in _ (by omega)
    have t1 : decide (0 < x) = true := by simpa using hx
    go_enter Try.func9, Try.ntmps9
    go_wp2_with fail
    rw [← E0.out]
    clear E0
    go_region_held3 (fun w' => w'.cell? ⟨w.heap.size, 0, none⟩ = some (.int .i64 x) ∧ w'.cell? ⟨w.heap.size, 1, none⟩ = some (.slice A n c))
      (first | (refine ⟨?_, ?_⟩ <;> assumption) | go_keep)
      (first | (go_at_call 18; refine (row_own A n c zs _ (by exact H.out.below (X0.out.drew).below) (by omega)).mono ?_; rintro e w2 ⟨v2, n2, rfl, ho2, hb2⟩; obtain ⟨A2, c2, rfl, hr2, hf2⟩ := Row.of_own' ho2; have X2 := X0.out.drew.step hb2; have d0 := X2.c0; have d1 := X2.c1; have d2 := X2.r0; have d3 := X2.r1; have d4 := X2.f0; have d5 := X2.f1))
    have HM := made_sb (r := ((x - 1, zs), true)) (x := x - 1) (y := true) (u := .int .i64 (x - 1)) (v := .slice A2 n2 c2) (w := w) rfl rfl hr2 (hf2.mono X0.out.size) X2.below
    rw [← HR.out] at HM
    have HM := Lib.hid HM
    obtain ⟨k0, k1⟩ := told2 (u := .int .i64 (x - 1)) (v := .slice A2 n2 c2) d2 d3
    clear d0 d1 d2 d3 d4 d5 hr2 hf2 hb2 ho2 HR c0 c1
    go_wp2_with fail
    refine bodyPost_ret (v := .tuple #[.agg #[.int .i64 (x - 1), .slice A2 n2 c2], .bool true]) ?_ rfl ?_
    · simp [results, Try.results9, go_sem, k0, k1]
    exact HM.out
  · have HR := Lib.hid (show Sp.acq (x, zs) g = ((x, zs ++ [g]), false) by unfold Sp.acq; rw [if_neg hx])
    have t1 : decide (0 < x) = false := by simpa using hx
    go_enter Try.func9, Try.ntmps9
    go_wp2_with fail
    rw [← E0.out]
    clear E0
    go_region_held3 (fun w' => w'.cell? ⟨w.heap.size, 0, none⟩ = some (.int .i64 x) ∧ w'.cell? ⟨w.heap.size, 1, none⟩ = some (.slice A n c))
      (first | (refine ⟨?_, ?_⟩ <;> assumption) | (refine ⟨keepcell (below_new _ _) (by assumption), keepcell (below_new _ _) (by assumption)⟩) | go_keep)
      (first
        | (refine step_append_row (by rfl) (.tmp 20) (.tmp 22) (by rfl) (w.heap.size + 2) v2 n zs (by rfl) (by first | exact O2 | exact O2.alloc _) _ 1 1 [g] (by rfl) (by first | exact G2 | exact row_at w2 g _ rfl) (by omega) (by have := X2.size; simp; omega) ?_; intro v3 w3 ho3 hg3; have X3 : Bx w w3 (.int .i64 x) (.slice A n c) (.int .i64 0) (.slice none 0 0) := (by first | exact X2.grown hg3 (fun k hk => (O2.lt k hk).1) | exact (X2.alloc _).grown hg3 (fun k hk => (O2.lt k hk).1)); obtain ⟨A3, c3, rfl, hr3, hf3⟩ := Row.of_own' ho3; have e0 := X3.c0; have e1 := X3.c1; have e2 := X3.r0; have e3 := X3.r1; have e4 := X3.f0; have e5 := X3.f1)
        | (go_at_call 18; refine (row_own A n c zs _ (by first | exact H.out.below (X0.out.drew).below | exact H.out.below (X0.out.step (below_new _ _)).drew.below) (by omega)).mono ?_; rintro e w2 ⟨v2, n2, rfl, ho2, hb2⟩; obtain rfl : n = n2 := (by have := own_len ho2; have := H.out.len; omega); have X2 : Bx w w2 (.int .i64 x) (.slice A n c) (.int .i64 0) (.slice none 0 0) := (by first | exact X0.out.drew.step hb2 | exact (X0.out.step (below_new _ _)).drew.step hb2); have O2 := own_base2 (b2 := w.heap.size + 2) ho2 (by have := X0.out.size; simp; omega); have d0 := X2.c0; have d1 := X2.c1; (first | (have G2 : Row w2 (some ⟨W0.heap.size, 0, none⟩) 1 1 [g] := ((row_at W0 g _ rfl).drew).below hb2) | skip)))
    all_goals
      have HM := made_sb (r := ((x, zs ++ [g]), false)) (x := x) (y := false) (u := .int .i64 x) (v := .slice A3 (n + 1) c3) (w := w) rfl rfl hr3 hf3 X3.below
      rw [← HR.out] at HM
      have HM := Lib.hid HM
      obtain ⟨k0, k1⟩ := told2 (u := .int .i64 x) (v := .slice A3 (n + 1) c3) e2 e3
      clear d0 d1 e0 e1 e2 e3 e4 e5 hr3 hf3 hg3 ho3 ho2 hb2 HR c0 c1
      go_wp2_with fail
      refine bodyPost_ret (v := .tuple #[.agg #[.int .i64 x, .slice A3 (n + 1) c3], .bool false]) ?_ rfl ?_
      · simp [results, Try.results9, go_sem, k0, k1]
      exact HM.out
end Go.Proofs.Ytlcgadcbeoljbaa

