/- New, by its contract; what it is to be refused. -/
import Derived.Test.YthljecllmdbbbaaQDrop
namespace Go.Proofs.Ythljecllmdbbbaa
open Go.RowKit
set_option linter.unusedVariables false

/-- May an arena be of this many? -/
def mayB (r n : Int) : Bool := decide (1 ≤ r ∧ r ≤ 64 ∧ 1 ≤ n ∧ n ≤ 64)
theorem new_no (r n : Int) (w : World) (h : mayB r n = false) :
    Calls Try.prog 10 #[.int .i64 r, .int .i64 n] w fun e w' => e = .returned (.tuple #[.pointer none, .int .i64 1]) ∧ w = w' := by
  unfold mayB at h
  have h' : ¬ (1 ≤ r ∧ r ≤ 64 ∧ 1 ≤ n ∧ n ≤ 64) := by simpa using h
  clear h
  by_cases h1 : r < 1
  · clear h'
    go_enter Try.func10, Try.ntmps10
    go_wp2_with fail
    go_ret2
    exact ⟨rfl, rfl⟩
  · by_cases h2 : 64 < r
    · clear h'
      go_enter Try.func10, Try.ntmps10
      go_wp2_with fail
      go_ret2
      exact ⟨rfl, rfl⟩
    · by_cases h3 : n < 1
      · clear h'
        go_enter Try.func10, Try.ntmps10
        go_wp2_with fail
        go_ret2
        exact ⟨rfl, rfl⟩
      · have h4 : 64 < n := by omega
        clear h'
        go_enter Try.func10, Try.ntmps10
        go_wp2_with fail
        go_ret2
        exact ⟨rfl, rfl⟩
/-- What New leaves: an arena in new memory, in whose queues nobody stands. -/
def NewAr (m n : Nat) (w : World) (e : Ending) (w' : World) : Prop := e = .returned (.tuple #[.pointer (some ⟨w.heap.size, 0, none⟩), .int .i64 0]) ∧ Ar w' w.heap.size m (List.replicate n []) ∧ Below w.heap.size w w'
/-- The cells of an arena that is nothing yet. -/
def zeros : Array Value := Array.replicate 260 (.int .i64 0)
theorem zero_run (w : World) : Sem.run Try.prog (zeroValue 62) w = .ok (.agg zeros) w := by kernel_rfl
theorem zeros_size : zeros.size = 260 := by unfold zeros; simp
set_option maxRecDepth 100000 in
theorem new_yes (m n : Nat) (w : World) (h1 : 1 ≤ m) (h2 : m ≤ 64) (h3 : 1 ≤ n) (h4 : n ≤ 64) :
    Calls Try.prog 10 #[.int .i64 m, .int .i64 n] w (NewAr m n w) := by
  obtain ⟨zs, hzs⟩ : ∃ zs, zs = zeros := ⟨_, rfl⟩
  have hr := zero_run
  rw [← hzs] at hr
  have hs : zs.size = 260 := by rw [hzs]; exact zeros_size
  have hne : ¬ zs = #[] := by intro e; rw [e] at hs; cases hs
  have HZ := Lib.hid hzs
  clear hzs
  go_enter Try.func10, Try.ntmps10
  go_wp2_with fail
  go_ret2
  refine ⟨rfl, ?_, below_new w _⟩
  obtain rfl := HZ.out
  refine ⟨h1, h2, by simp; exact h3, by simp; exact h4, _, _, _, _, ?_, Qp.lay_new m n⟩
  have hc : ∀ o, (w.alloc (.cells ((zeros.setIfInBounds 0 (.int .i64 m)).setIfInBounds 1 (.int .i64 n)) 62)).cell? ⟨w.heap.size, o, none⟩ = ((zeros.setIfInBounds 0 (.int .i64 m)).setIfInBounds 1 (.int .i64 n))[o]? := fun o => by rw [World.cell?_alloc_at _ _ _ _ rfl]
  have hz : ∀ o, 2 ≤ o → o < 260 → (w.alloc (.cells ((zeros.setIfInBounds 0 (.int .i64 m)).setIfInBounds 1 (.int .i64 n)) 62)).cell? ⟨w.heap.size, o, none⟩ = some (.int .i64 0) := by
    intro o ho ho'
    rw [hc, Array.getElem?_setIfInBounds, if_neg (by omega), Array.getElem?_setIfInBounds, if_neg (by omega)]
    unfold zeros
    rw [Array.getElem?_replicate, if_pos ho']
  refine ⟨?_, ?_, fun j hj => hz _ (by omega) (by omega), fun j hj => hz _ (by omega) (by omega), fun j hj => hz _ (by omega) (by omega), fun j hj => hz _ (by omega) (by omega), fun o => by rw [World.frozen?_alloc_at _ _ _ _ rfl]⟩
  · rw [hc, Array.getElem?_setIfInBounds, if_neg (by omega), Array.getElem?_setIfInBounds, if_pos rfl, if_pos (by rw [zeros_size]; omega)]
  · rw [hc, Array.getElem?_setIfInBounds, if_pos rfl, if_pos (by rw [Array.size_setIfInBounds, zeros_size]; omega), List.length_replicate]
end Go.Proofs.Ythljecllmdbbbaa

