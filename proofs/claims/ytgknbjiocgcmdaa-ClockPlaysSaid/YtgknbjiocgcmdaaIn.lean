/- Whether a number is in a list, by its contract. -/
import Derived.Test.YtgknbjiocgcmdaaBase
import Derived.Test.YtgknbjiocgcmdaaPlain
namespace Go.Proofs.Ytgknbjiocgcmdaa
open Go.RowKit
set_option linter.unusedVariables false

/-- Is a number in a list? The world stays as it was. -/
theorem in_any (A : Option Addr) (n c : Nat) (zs : List Int) (z : Int) (w : World) (B : Nat) (hn : Hid (zs.length = n)) (hl : n ≤ 9223372036854775807)
    (ha : IRow w B A zs) :
    Calls Try.prog 21 #[.slice A n c, .int .i64 z] w fun e w' => e = .returned (.bool (Tp.has zs z)) ∧ w' = w := by
  go_enter Try.func21, Try.ntmps21
  go_wp2
  go_loop [5] (fun i => ∃ k : Nat, k ≤ n ∧ i = .int .i64 k ∧ Tp.has (zs.take k) z = false)
    (fun i => n - (intOf i).toNat)
  case atStart => exact ⟨0, Nat.zero_le _, rfl, rfl⟩
  case round =>
    obtain ⟨k, hk, rfl, hno⟩ := hrel
    by_cases hlt : k < n
    · obtain ⟨x, hx⟩ : ∃ x, zs[k]? = some x := ⟨_, List.getElem?_eq_getElem (by have := hn.out; omega)⟩
      obtain ⟨b, off, hA, hbk, hc⟩ := ha k x hx
      subst hA
      have hs : zs.take (k + 1) = zs.take k ++ [x] := by rw [List.take_add_one, hx]; rfl
      cases hp : (x == z)
      · have H := Lib.hid (show Tp.has (zs.take (k + 1)) z = false by
          unfold Tp.has at hno ⊢
          rw [hs, List.contains_eq_any_beq, List.any_append, ← List.contains_eq_any_beq, hno]
          have : (z == x) = false := by rw [beq_eq_false_iff_ne] at hp ⊢; exact fun h => hp h.symm
          simp [this])
        clear hx hs hno
        go_wp2
        go_round
        case rel => exact ⟨k + 1, by omega, by go_num, H.out⟩
        case measure => simp [intOf]; omega
      · have H := Lib.hid (show Tp.has zs z = true by
          unfold Tp.has
          rw [List.contains_iff_mem]
          have := List.mem_of_getElem? hx
          rw [beq_iff_eq] at hp
          exact hp ▸ this)
        clear hx hs hno
        go_wp2
        go_ret
        exact ⟨by rw [H.out]; rfl, rfl⟩
    · have e := hn.out
      have H := Lib.hid (show Tp.has zs z = false by rw [List.take_of_length_le (by omega)] at hno; exact hno)
      clear e hno
      go_wp2
      go_ret
      exact ⟨by rw [H.out]; rfl, rfl⟩
end Go.Proofs.Ytgknbjiocgcmdaa

