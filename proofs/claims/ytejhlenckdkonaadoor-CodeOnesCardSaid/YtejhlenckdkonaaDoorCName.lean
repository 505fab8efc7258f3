/- The document's Name, May, Figures and Line, by their contracts. -/
import Derived.Test.YtejhlenckdkonaaDoorKeep
import Derived.Test.YtejhlenckdkonaaDoorStr
import Derived.Test.YtejhlenckdkonaaDoorCRead
namespace Go.Proofs.YtejhlenckdkonaaDoor
open Go.RowKit
set_option linter.unusedVariables false

set_option maxHeartbeats 4000000 in
theorem refName_any (op : Int) (w : World) :
    Calls Tryd.prog 18 #[.int .i64 op] w fun e w' => e = .returned (.string (str (Cp.nm op))) ∧ Below w.heap.size w w' := by
  by_cases h1 : op < 1
  · have HN := Lib.hid (show Cp.nm op = [] from Cp.nm_out (by omega))
    go_enter Tryd.func18, Tryd.ntmps18
    go_wp2_with fail
    go_ret
    exact ⟨by rw [HN.out]; rfl, below_new _ _⟩
  · by_cases h2 : 10 < op
    · have HN := Lib.hid (show Cp.nm op = [] from Cp.nm_out (by omega))
      go_enter Tryd.func18, Tryd.ntmps18
      go_wp2_with fail
      go_ret
      exact ⟨by rw [HN.out]; rfl, below_new _ _⟩
    · have hc : op = 1 ∨ op = 2 ∨ op = 3 ∨ op = 4 ∨ op = 5 ∨ op = 6 ∨ op = 7 ∨ op = 8 ∨ op = 9 ∨ op = 10 := by omega
      rcases hc with rfl | rfl | rfl | rfl | rfl | rfl | rfl | rfl | rfl | rfl
      all_goals
        go_enter Tryd.func18, Tryd.ntmps18
        go_wp2_with fail
        go_ret
        exact ⟨rfl, below_new _ _⟩
/-- What a number in figures is by the document's way. -/
theorem figs_low {z : Int} (h1 : -10 < z) (h2 : z < 0) : Cp.figs z = [45, UInt8.ofNat (48 + z.natAbs)] := by
  unfold Cp.figs; rw [if_pos h2, Cp.figN_low (by omega)]
theorem figs_mid {z : Int} (h1 : 0 ≤ z) (h2 : z < 10) : Cp.figs z = [UInt8.ofNat (48 + z.natAbs)] := by
  unfold Cp.figs; rw [if_neg (by omega), Cp.figN_low (by omega)]
theorem figs_high {z : Int} (h : ¬ (-10 < z ∧ z < 10)) : Cp.figs z = Cp.figs (z.tdiv 10) ++ [UInt8.ofNat (48 + z.natAbs % 10)] := by
  have e : (z.tdiv 10).natAbs = z.natAbs / 10 := by rw [Int.natAbs_tdiv]; rfl
  unfold Cp.figs
  by_cases hz : z < 0
  · have : z.tdiv 10 < 0 := by
      obtain ⟨n, rfl⟩ : ∃ n : Nat, z = -(n : Int) := ⟨z.natAbs, by omega⟩
      rw [Int.neg_tdiv, Int.tdiv_eq_ediv_of_nonneg (by omega)]; omega
    rw [if_pos hz, if_pos this, Cp.figN_high (by omega), e]; rfl
  · have : ¬ z.tdiv 10 < 0 := by rw [Int.tdiv_eq_ediv_of_nonneg (by omega)]; omega
    rw [if_neg hz, if_neg this, Cp.figN_high (by omega), e]
end Go.Proofs.YtejhlenckdkonaaDoor

