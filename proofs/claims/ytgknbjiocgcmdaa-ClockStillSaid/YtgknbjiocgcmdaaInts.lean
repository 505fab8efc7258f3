/- The comparison of two lists that are one, by its contract. -/
import Derived.Test.YtgknbjiocgcmdaaBase
namespace Go.Proofs.Ytgknbjiocgcmdaa
open Go.RowKit
set_option linter.unusedVariables false

/-- Two lists that are one: true; and nothing that was there is another. -/
theorem ints_same (A B : Option Addr) (n c d : Nat) (zs : List Int) (w : World) (hn : Hid (zs.length = n)) (hl : n ≤ 9223372036854775807)
    (ha : IRow w w.heap.size A zs) (hb : IRow w w.heap.size B zs) :
    Calls Try.prog 14 #[.slice A n c, .slice B n d] w fun e w' => e = .returned (.bool true) ∧ Below w.heap.size w w' := by
  go_enter Try.func14, Try.ntmps14
  go_wp2
  go_loopw [5] (fun i wr => ∃ k : Nat, k ≤ n ∧ i = .int .i64 k ∧ Below w.heap.size w wr)
    (fun i _ => n - (intOf i).toNat)
  case atStart => exact ⟨0, Nat.zero_le _, rfl, Below.refl _ _⟩
  case round =>
    obtain ⟨k, hk, rfl, hbe⟩ := hrel
    by_cases hlt : k < n
    · obtain ⟨x, hx⟩ : ∃ x, zs[k]? = some x := ⟨_, List.getElem?_eq_getElem (by have := hn.out; omega)⟩
      obtain ⟨b, off, hA, hbk, hc⟩ := (ha.below hbe) k x hx
      obtain ⟨b', off', hB, hbk', hc'⟩ := (hb.below hbe) k x hx
      subst hA
      subst hB
      clear hx
      go_wp2
      go_quiet (fail)
      go_wp2
      go_roundw
      case rel => exact ⟨k + 1, by omega, by go_num, below_drewN hbe _⟩
      case measure => simp [intOf]; omega
    · go_wp2
      go_ret
      exact ⟨rfl, hbe⟩
end Go.Proofs.Ytgknbjiocgcmdaa

