/- text.goesOn comes to a plain function of the runes and the level. -/
import Derived.Test.YtdhcnmcfgicbjaaCheck
import Derived.Test.YtdhcnmcfgicbjaaTMore
namespace Go.Proofs.Ytdhcnmcfgicbjaa
open Go.RowKit
set_option linter.unusedVariables false

def goI (q r : Int) (l : Nat) : Bool :=
  if q = 0 then r == ((Tx.lt l).toNat : Int)
  else if q = 40 then r == ((Tx.lt l).toNat : Int)
  else if q = 109 then r == 40
  else if q = 110 then r == 40
  else if q = 99 then r == 40
  else if 0 < l then (r == ((Tx.lt l).toNat : Int)) || r == 41
  else false
theorem goI_byte (q c : UInt8) (l : Nat) : goI (q.toNat : Int) (c.toNat : Int) l = Tx.goes q c l := by
  have e : ∀ a b : UInt8, ((a.toNat : Int) == (b.toNat : Int)) = (a == b) := by
    intro a b
    rw [Bool.eq_iff_iff, beq_iff_eq, beq_iff_eq]
    constructor
    · intro h; exact UInt8.toNat_inj.1 (by omega)
    · intro h; rw [h]
  have e2 : ∀ a b : UInt8, ((a.toNat : Int) = (b.toNat : Int)) ↔ a = b := by
    intro a b
    constructor
    · intro h; exact UInt8.toNat_inj.1 (by omega)
    · intro h; rw [h]
  unfold goI Tx.goes
  rw [e, show (40 : Int) = ((40 : UInt8).toNat : Int) from rfl, show (0 : Int) = ((0 : UInt8).toNat : Int) from rfl, show (109 : Int) = ((109 : UInt8).toNat : Int) from rfl, show (110 : Int) = ((110 : UInt8).toNat : Int) from rfl, show (99 : Int) = ((99 : UInt8).toNat : Int) from rfl, show (41 : Int) = ((41 : UInt8).toNat : Int) from rfl]
  simp only [e, e2]
  by_cases h0 : q = 0
  · rw [if_pos h0, if_pos (.inl h0)]
  · by_cases h1 : q = 40
    · rw [if_neg h0, if_pos h1, if_pos (.inr h1)]
    · rw [if_neg h0, if_neg h1, if_neg (show ¬ (q = 0 ∨ q = 40) from fun h => h.elim h0 h1)]
      by_cases h2 : q = 109
      · rw [if_pos h2, if_pos (.inl h2)]
      · by_cases h3 : q = 110
        · rw [if_neg h2, if_pos h3, if_pos (.inr (.inl h3))]
        · by_cases h4 : q = 99
          · rw [if_neg h2, if_neg h3, if_pos h4, if_pos (.inr (.inr h4))]
          · rw [if_neg h2, if_neg h3, if_neg h4, if_neg (show ¬ (q = 109 ∨ q = 110 ∨ q = 99) from fun h => h.elim h2 (fun h => h.elim h3 h4))]
            by_cases h5 : 0 < l
            · rw [if_pos h5, decide_eq_true h5, Bool.true_and]
            · rw [if_neg h5, decide_eq_false h5, Bool.false_and]
theorem goI_high (q r : Int) (l : Nat) (h : 128 ≤ r) : goI q r l = false := by
  have e : (r == ((Tx.lt l).toNat : Int)) = false := by
    rw [beq_eq_false_iff_ne]
    have : (Tx.lt l).toNat ≤ 112 := by
      unfold Tx.lt
      split <;> decide
    omega
  have e1 : (r == 40) = false := by rw [beq_eq_false_iff_ne]; omega
  have e2 : (r == 41) = false := by rw [beq_eq_false_iff_ne]; omega
  unfold goI
  rw [e, e1, e2]
  simp
theorem goI_a {q r : Int} {l : Nat} (h : (q == 0) = true) : goI q r l = (r == ((Tx.lt l).toNat : Int)) := if_pos (beq_iff_eq.1 h)
theorem goI_b {q r : Int} {l : Nat} (h0 : (q == 0) = false) (h : (q == 40) = true) : goI q r l = (r == ((Tx.lt l).toNat : Int)) := by
  unfold goI; rw [if_neg (beq_eq_false_iff_ne.1 h0), if_pos (beq_iff_eq.1 h)]
theorem goI_c {q r : Int} {l : Nat} (h0 : (q == 0) = false) (h1 : (q == 40) = false) (h : (q == 109) = true) : goI q r l = (r == 40) := by
  unfold goI; rw [if_neg (beq_eq_false_iff_ne.1 h0), if_neg (beq_eq_false_iff_ne.1 h1), if_pos (beq_iff_eq.1 h)]
theorem goI_d {q r : Int} {l : Nat} (h0 : (q == 0) = false) (h1 : (q == 40) = false) (h2 : (q == 109) = false) (h : (q == 110) = true) : goI q r l = (r == 40) := by
  unfold goI; rw [if_neg (beq_eq_false_iff_ne.1 h0), if_neg (beq_eq_false_iff_ne.1 h1), if_neg (beq_eq_false_iff_ne.1 h2), if_pos (beq_iff_eq.1 h)]
theorem goI_e {q r : Int} {l : Nat} (h0 : (q == 0) = false) (h1 : (q == 40) = false) (h2 : (q == 109) = false) (h3 : (q == 110) = false) (h : (q == 99) = true) : goI q r l = (r == 40) := by
  unfold goI; rw [if_neg (beq_eq_false_iff_ne.1 h0), if_neg (beq_eq_false_iff_ne.1 h1), if_neg (beq_eq_false_iff_ne.1 h2), if_neg (beq_eq_false_iff_ne.1 h3), if_pos (beq_iff_eq.1 h)]
theorem goI_f {q r : Int} {l : Nat} (h0 : (q == 0) = false) (h1 : (q == 40) = false) (h2 : (q == 109) = false) (h3 : (q == 110) = false) (h : (q == 99) = false) : goI q r l = if 0 < l then (r == ((Tx.lt l).toNat : Int)) || r == 41 else false := by
  unfold goI; rw [if_neg (beq_eq_false_iff_ne.1 h0), if_neg (beq_eq_false_iff_ne.1 h1), if_neg (beq_eq_false_iff_ne.1 h2), if_neg (beq_eq_false_iff_ne.1 h3), if_neg (beq_eq_false_iff_ne.1 h)]
set_option maxHeartbeats 1600000 in
theorem goesOn_any (q r : Int) (l : Nat) (hl : l ≤ 3) (w : World) :
    Calls Try.prog 18 #[.int .i32 q, .int .i32 r, .int .i64 l] w fun e w' => e = .returned (.bool (goI q r l)) ∧ w' = w := by
  have k : l = 0 ∨ l = 1 ∨ l = 2 ∨ l = 3 := by omega
  clear hl
  cases h0 : (q == 0)
  · cases h1 : (q == 40)
    · cases h2 : (q == 109)
      · cases h3 : (q == 110)
        · cases h4 : (q == 99)
          · have H := Lib.hid (goI_f (r := r) (l := l) h0 h1 h2 h3 h4)
            by_cases hz : l = 0
            · subst hz
              clear k
              go_enter Try.func18, Try.ntmps18
              go_wp2
              go_ret
              exact ⟨by rw [H.out]; rfl, rfl⟩
            · have k' : l = 1 ∨ l = 2 ∨ l = 3 := by omega
              clear k hz
              rcases k' with rfl | rfl | rfl
              all_goals
                go_enter Try.func18, Try.ntmps18
                go_wp2
                all_goals
                  go_ret
                  first
                    | exact ⟨by rw [H.out]; rfl, rfl⟩
                    | (rename_i hh; subst hh; exact ⟨by rw [H.out]; exact ret_bool (a := true) (by decide +kernel), rfl⟩)
                    | exact ⟨by rw [H.out]; exact ret_bool (congrArg (fun z : Int => (r == z || r == 41)) (by decide +kernel)), rfl⟩
          · have H := Lib.hid (goI_e (r := r) (l := l) h0 h1 h2 h3 h4)
            rcases k with rfl | rfl | rfl | rfl
            all_goals
              go_enter Try.func18, Try.ntmps18
              go_wp2
              go_ret
              exact ⟨by rw [H.out]; rfl, rfl⟩
        · have H := Lib.hid (goI_d (r := r) (l := l) h0 h1 h2 h3)
          rcases k with rfl | rfl | rfl | rfl
          all_goals
            go_enter Try.func18, Try.ntmps18
            go_wp2
            go_ret
            exact ⟨by rw [H.out]; rfl, rfl⟩
      · have H := Lib.hid (goI_c (r := r) (l := l) h0 h1 h2)
        rcases k with rfl | rfl | rfl | rfl
        all_goals
          go_enter Try.func18, Try.ntmps18
          go_wp2
          go_ret
          exact ⟨by rw [H.out]; rfl, rfl⟩
    · have H := Lib.hid (goI_b (r := r) (l := l) h0 h1)
      rcases k with rfl | rfl | rfl | rfl
      all_goals
        go_enter Try.func18, Try.ntmps18
        go_wp2
        go_ret
        exact ⟨by rw [H.out]; exact ret_bool (congrArg (fun z : Int => r == z) (by decide +kernel)), rfl⟩
  · have H := Lib.hid (goI_a (r := r) (l := l) h0)
    rcases k with rfl | rfl | rfl | rfl
    all_goals
      go_enter Try.func18, Try.ntmps18
      go_wp2
      go_ret
      exact ⟨by rw [H.out]; exact ret_bool (congrArg (fun z : Int => r == z) (by decide +kernel)), rfl⟩
end Go.Proofs.Ytdhcnmcfgicbjaa

