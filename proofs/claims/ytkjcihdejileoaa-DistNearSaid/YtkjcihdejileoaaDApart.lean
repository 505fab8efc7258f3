/- The small parts of dist: whether there is a p-th processor, how far two vertices are apart, the processors of a tree that may be; by contracts. -/
import Derived.Test.YtkjcihdejileoaaDWords
import Derived.Test.YtkjcihdejileoaaUp
import Derived.Test.YtkjcihdejileoaaCheck
namespace Go.Proofs.Ytkjcihdejileoaa
open Go.RowKit
set_option linter.unusedVariables false

/-- The processors of a tree that may be; none of another one. -/
def procsIf (vs : List (Int × Int)) : List Int := if Tp.may vs then Dp.procs vs else []
theorem procsIf_length (vs : List (Int × Int)) : (procsIf vs).length = Dp.procsN vs := by
  unfold procsIf Dp.procsN
  split <;> rfl

/-- Whether there is a p-th one of n. -/
def isP (p : Int) (n : Nat) : Bool := decide (0 ≤ p ∧ p < n)
theorem isP_iff {p : Int} {n : Nat} : isP p n = true ↔ 0 ≤ p ∧ p < n := by unfold isP; rw [decide_eq_true_iff]
theorem isP_not {p : Int} {n : Nat} : isP p n = false ↔ p < 0 ∨ (n : Int) ≤ p := by unfold isP; rw [decide_eq_false_iff_not]; omega
theorem among_any (A : Option Addr) (n c : Nat) (p : Int) (w : World) (hl : n ≤ 9223372036854775807) :
    Calls Try.prog 25 #[.slice A n c, .int .i64 p] w fun e w' => e = .returned (.bool (isP p n)) ∧ w' = w := by
  by_cases h0 : 0 ≤ p
  · obtain ⟨i, rfl⟩ := Int.eq_ofNat_of_zero_le h0
    by_cases h1 : i < n
    · have H : Hid (isP i n = true) := Lib.hid (isP_iff.2 (by omega))
      clear h0
      go_enter Try.func25, Try.ntmps25
      go_wp2
      go_ret
      exact ⟨by rw [H.out]; rfl, rfl⟩
    · have H : Hid (isP i n = false) := Lib.hid (isP_not.2 (by omega))
      clear h0
      go_enter Try.func25, Try.ntmps25
      go_wp2
      go_ret
      exact ⟨by rw [H.out]; rfl, rfl⟩
  · have H : Hid (isP p n = false) := Lib.hid (isP_not.2 (by omega))
    go_enter Try.func25, Try.ntmps25
    go_wp2
    go_ret
    exact ⟨by rw [H.out]; rfl, rfl⟩

theorem procsOf_any (A : Option Addr) (n c : Nat) (vs : List (Int × Int)) (w : World)
    (hn : Hid (vs.length = n)) (hl : n ≤ 9223372036854775807) (hf : Hid (Fit vs)) (hv : VRow w w.heap.size A vs) :
    Calls Try.prog 24 #[.slice A n c] w (Made w (procsIf vs)) := by
  go_enter Try.func24, Try.ntmps24
  go_wp2_with fail
  refine (check_any A n c vs _ hn hl hf hv).mono ?_
  rintro e w1 ⟨he, hb1⟩
  cases hm : Tp.may vs
  · rw [hm] at he
    have he' : e = .returned (.int .i64 2) := he
    subst he'
    have H : Hid (procsIf vs = []) := Lib.hid (by unfold procsIf; rw [hm]; rfl)
    clear hm he
    go_wp2_with fail
    go_ret
    rw [H.out]
    exact ⟨none, 0, rfl, fun i z hi => by simp at hi, hb1⟩
  · rw [hm] at he
    have he' : e = .returned (.int .i64 0) := he
    subst he'
    have H : Hid (procsIf vs = Tp.those (levelP 3) vs) := Lib.hid (by unfold procsIf; rw [hm]; rfl)
    have h64 : n ≤ 64 := by have := ((Tp.tree_iff vs).1 hm).few; have := hn.out; omega
    clear hm he
    have hv1 := (hv.below hb1).more hb1.size
    go_wp2_with fail
    refine (procs_any A n c vs _ hn hl (by omega) hv1).mono ?_
    rintro e w2 ⟨A2, c2, rfl, hI2, hb2⟩
    have M := Lib.hid (show Made w (procsIf vs) (.returned (.slice A2 (Tp.those (levelP 3) vs).length c2)) w2 from by
      rw [H.out]
      exact ⟨A2, c2, rfl, hI2, hb1.trans (hb2.mono hb1.size)⟩)
    go_wp2_with fail
    go_ret
    exact M.out

theorem farV_three {vs : List (Int × Int)} {v u : Int} (h : ∀ e : Nat, e < 3 → Dp.above vs e v ≠ Dp.above vs e u) : Dp.farV vs v u = 3 := by
  have h0 : Dp.above vs 0 v ≠ Dp.above vs 0 u := h 0 (by omega)
  have h1 : Dp.above vs 1 v ≠ Dp.above vs 1 u := h 1 (by omega)
  have h2 : Dp.above vs 2 v ≠ Dp.above vs 2 u := h 2 (by omega)
  unfold Dp.farV
  rw [if_neg h0, if_neg h1, if_neg h2]

set_option maxHeartbeats 2000000 in
theorem apart_quiet (A : Option Addr) (n c : Nat) (vs : List (Int × Int)) (v u : Int) (w : World) (B : Nat)
    (hn : Hid (vs.length = n)) (hl : n ≤ 9223372036854775807) (hv : VRow w B A vs) :
    Calls Try.prog 26 #[.slice A n c, .int .i64 v, .int .i64 u] w fun e w' => e = .returned (.int .i64 (Dp.farV vs v u)) ∧ ∃ q, w' = w.drewN q := by
  have U : Hid (∀ (x : Int) (d : Nat) (W : World), (∃ q, W = w.drewN q) → Calls Try.prog 29 #[.slice A n c, .int .i64 x, .int .i64 (3 - (d : Int))] W fun e w' => e = .returned (.int .i64 (Dp.above vs d x)) ∧ ∃ q, w' = w.drewN q) := Lib.hid (by
    rintro x d W ⟨q, rfl⟩
    refine (up_quiet A n c vs x (3 - (d : Int)) (w.drewN q) B hn hl hv).mono ?_
    rintro e w' ⟨rfl, q', rfl⟩
    refine ⟨?_, ⟨_, by rw [World.drewN_drewN]⟩⟩
    unfold Dp.above
    rw [hn.out])
  go_enter Try.func26, Try.ntmps26
  go_wp2_with fail
  go_loopw [9] (fun i wr => ∃ d : Nat, d ≤ 3 ∧ i = .int .i64 d ∧ Hid (∀ e : Nat, e < d → Dp.above vs e v ≠ Dp.above vs e u) ∧ Hid (∃ q, wr = w.drewN q)) (fun i _ => 3 - (intOf i).toNat)
  case atStart => exact ⟨0, by omega, rfl, Lib.hid (fun e he => absurd he (by omega)), Lib.hid ⟨0, rfl⟩⟩
  case round =>
    obtain ⟨d, hd, rfl, hne, hq⟩ := hrel
    by_cases hd3 : d < 3
    · have s1 : IntKind.i64.wrap (3 - (d : Int)) = 3 - (d : Int) := IntWalk.i64_in _ (by omega)
      go_wp2_with fail
      refine (U.out v d _ hq.out).mono ?_
      rintro e w2 ⟨rfl, hq2⟩
      have HQ2 := Lib.hid hq2
      clear hq2
      go_wp2_with fail
      refine (U.out u d _ HQ2.out).mono ?_
      rintro e w3 ⟨rfl, hq3⟩
      have HQ3 := Lib.hid hq3
      clear hq3
      by_cases heq : Dp.above vs d v = Dp.above vs d u
      · have H : Hid (Dp.farV vs v u = d) := Lib.hid (Dp.farV_is (by omega) (fun _ => heq) hne.out)
        rw [heq]
        generalize Dp.above vs d u = x
        have q1 : (x == x) = true := by simp
        go_wp2_with fail
        go_ret
        exact ⟨by rw [H.out]; rfl, HQ3.out⟩
      · have HNE : Hid (∀ e : Nat, e < d + 1 → Dp.above vs e v ≠ Dp.above vs e u) := Lib.hid (fun e he => by
          by_cases e1 : e = d
          · subst e1; exact heq
          · exact hne.out e (by omega))
        have q1 : (Dp.above vs d v == Dp.above vs d u) = false := by rw [beq_eq_false_iff_ne]; exact heq
        generalize Dp.above vs d v = x at q1 ⊢
        generalize Dp.above vs d u = y at q1 ⊢
        clear heq
        go_wp2_with fail
        go_roundw
        case rel => exact ⟨d + 1, by omega, by go_num, HNE, HQ3⟩
        case measure => simp [intOf]; omega
    · have H : Hid (Dp.farV vs v u = 3) := Lib.hid (farV_three (fun e he => hne.out e (by omega)))
      go_wp2_with fail
      go_ret
      exact ⟨by rw [H.out]; rfl, hq.out⟩
theorem apart_any (A : Option Addr) (n c : Nat) (vs : List (Int × Int)) (v u : Int) (w : World)
    (hn : Hid (vs.length = n)) (hl : n ≤ 9223372036854775807) (hv : VRow w w.heap.size A vs) :
    Calls Try.prog 26 #[.slice A n c, .int .i64 v, .int .i64 u] w fun e w' => e = .returned (.int .i64 (Dp.farV vs v u)) ∧ Below w.heap.size w w' :=
  (apart_quiet A n c vs v u w _ hn hl hv).mono fun _ _ ⟨he, q, hq⟩ => ⟨he, by rw [hq]; exact below_drewN (Below.refl _ _) q⟩
end Go.Proofs.Ytkjcihdejileoaa

