/- The law's same: two like rows of timers are told as the same. -/
import Derived.Test.YtjcljdehhckaeaaHRow
import Derived.Deep.QuietTactic
import Derived.BigQuiet
namespace Go.Proofs.Ytjcljdehhckaeaa
open Go.RowKit
set_option linter.unusedVariables false

set_option maxHeartbeats 1600000 in
theorem same_any (A B : Option Addr) (n c d : Nat) (a : List Hp.Tm) (w : World) (h : TR w A n c a) (hB : TR w B n d a) (hn : n ≤ 1000000) :
    Calls Try.prog 13 #[.slice A n c, .slice B n d] w fun e w' => e = .returned (.bool true) ∧ Below w.heap.size w w' := by
  have H := Lib.hid h
  have HB := Lib.hid hB
  have la := h.len
  clear h hB
  go_enter Try.func13, Try.ntmps13
  go_wp2_with fail
  go_loopw [5] (fun i wr => ∃ k : Nat, k ≤ n ∧ i = .int .i64 k ∧ Hid (Below w.heap.size w wr)) (fun i _ => n - (intOf i).toNat)
  case atStart => exact ⟨0, Nat.zero_le _, rfl, Lib.hid (Below.refl _ _)⟩
  case round =>
    obtain ⟨i, hi, rfl, HW⟩ := hrel
    by_cases hlt : i < n
    · obtain ⟨x, hx⟩ : ∃ x, a[i]? = some x := ⟨_, List.getElem?_eq_getElem (by omega)⟩
      obtain ⟨b1, o1, rfl, _, hc1⟩ := H.out.cells (by omega)
      obtain ⟨b2, o2, rfl, _, hc2⟩ := HB.out.cells (by omega)
      obtain ⟨c0, c1, c2⟩ := hc1 i x hx
      obtain ⟨d0, d1, d2⟩ := hc2 i x hx
      obtain ⟨x1, x2, x3⟩ := x
      simp only at c0 c1 c2 d0 d1 d2
      have c0 := keepcell HW.out c0
      have c1 := keepcell HW.out c1
      have c2 := keepcell HW.out c2
      have d0 := keepcell HW.out d0
      have d1 := keepcell HW.out d1
      have d2 := keepcell HW.out d2
      have i0 : (0 : Int) ≤ (i : Int) := by omega
      have i1 : (i : Int) < (n : Int) := by omega
      have n1 : (x1 != x1) = false := by simp
      have n2 : (x2 != x2) = false := by simp
      have n3 : (x3 != x3) = false := by simp
      clear hc1 hc2 hx
      go_wp2_with fail
      go_quiet (fail)
      go_wp2_with fail
      go_roundw
      case rel => exact ⟨i + 1, by omega, by go_num, Lib.hid (below_drewN HW.out _)⟩
      case measure => simp [intOf]; omega
    · go_wp2_with fail
      go_ret
      exact ⟨rfl, HW.out⟩
end Go.Proofs.Ytjcljdehhckaeaa

