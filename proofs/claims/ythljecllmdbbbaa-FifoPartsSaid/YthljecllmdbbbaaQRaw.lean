/- The arena of queues in memory: its cells; and what its smallest methods answer. -/
import Derived.Test.YthljecllmdbbbaaBase
import Derived.Test.YthljecllmdbbbaaPlain
import Derived.Test.YthljecllmdbbbaaQLay
import Derived.Deep.AppendLies
namespace Go.Proofs.Ythljecllmdbbbaa
open Go.RowKit
set_option linter.unusedVariables false

/-- Block b holds an arena of m numbers and n queues: who is next behind each, in which queue each stands, who is first and last of each queue. -/
structure Raw (W : World) (b : Nat) (m n : Int) (N I : Int → Int) (F L : Nat → Int) : Prop where
  r : W.cell? ⟨b, 0, none⟩ = some (.int .i64 m)
  c : W.cell? ⟨b, 1, none⟩ = some (.int .i64 n)
  n : ∀ j : Nat, j < 65 → W.cell? ⟨b, 2 + j, none⟩ = some (.int .i64 (N j))
  i : ∀ j : Nat, j < 65 → W.cell? ⟨b, 67 + j, none⟩ = some (.int .i64 (I j))
  f : ∀ j : Nat, j < 64 → W.cell? ⟨b, 132 + j, none⟩ = some (.int .i64 (F j))
  l : ∀ j : Nat, j < 64 → W.cell? ⟨b, 196 + j, none⟩ = some (.int .i64 (L j))
  z : ∀ o : Nat, W.frozen? ⟨b, o, none⟩ = false

theorem hasList_any (b : Nat) (m n : Int) (N I : Int → Int) (F L : Nat → Int) (k : Int) (w : World) (h : Raw w b m n N I F L) :
    Calls Try.prog 25 #[.pointer (some ⟨b, 0, none⟩), .int .i64 k] w fun e w' => e = .returned (.bool (Qp.hasL k n)) ∧ w = w' := by
  have c0 := h.c
  have H := Lib.hid h
  clear h
  by_cases h0 : 0 ≤ k
  · by_cases h1 : k < n
    · have HR := Lib.hid (show Qp.hasL k n = true by rw [Qp.hasL_iff]; exact ⟨h0, h1⟩)
      go_enter Try.func25, Try.ntmps25
      go_wp2_with fail
      go_ret
      exact ⟨ret_bool HR.out.symm, rfl⟩
    · have HR := Lib.hid (show Qp.hasL k n = false by unfold Qp.hasL; simp [h0, h1])
      go_enter Try.func25, Try.ntmps25
      go_wp2_with fail
      go_ret
      exact ⟨ret_bool HR.out.symm, rfl⟩
  · have HR := Lib.hid (show Qp.hasL k n = false by unfold Qp.hasL; simp [h0])
    go_enter Try.func25, Try.ntmps25
    go_wp2_with fail
    go_ret
    exact ⟨ret_bool HR.out.symm, rfl⟩
theorem hasNumber_any (b : Nat) (m n : Int) (N I : Int → Int) (F L : Nat → Int) (k : Int) (w : World) (h : Raw w b m n N I F L) :
    Calls Try.prog 26 #[.pointer (some ⟨b, 0, none⟩), .int .i64 k] w fun e w' => e = .returned (.bool (Qp.hasN k m)) ∧ w = w' := by
  have c0 := h.r
  have H := Lib.hid h
  clear h
  by_cases h0 : 1 ≤ k
  · by_cases h1 : k ≤ m
    · have HR := Lib.hid (show Qp.hasN k m = true by rw [Qp.hasN_iff]; exact ⟨h0, h1⟩)
      go_enter Try.func26, Try.ntmps26
      go_wp2_with fail
      go_ret
      exact ⟨ret_bool HR.out.symm, rfl⟩
    · have HR := Lib.hid (show Qp.hasN k m = false by unfold Qp.hasN; simp [h0, h1])
      go_enter Try.func26, Try.ntmps26
      go_wp2_with fail
      go_ret
      exact ⟨ret_bool HR.out.symm, rfl⟩
  · have HR := Lib.hid (show Qp.hasN k m = false by unfold Qp.hasN; simp [h0])
    go_enter Try.func26, Try.ntmps26
    go_wp2_with fail
    go_ret
    exact ⟨ret_bool HR.out.symm, rfl⟩
theorem hasList_nil (k : Int) (w : World) : Calls Try.prog 25 #[.pointer none, .int .i64 k] w fun e w' => e = .returned (.bool false) ∧ w = w' := by
  go_enter Try.func25, Try.ntmps25
  go_wp2_with fail
  go_ret
  exact ⟨rfl, rfl⟩
theorem hasNumber_nil (k : Int) (w : World) : Calls Try.prog 26 #[.pointer none, .int .i64 k] w fun e w' => e = .returned (.bool false) ∧ w = w' := by
  go_enter Try.func26, Try.ntmps26
  go_wp2_with fail
  go_ret
  exact ⟨rfl, rfl⟩
theorem of_raw (b : Nat) (m n : Int) (N I : Int → Int) (F L : Nat → Int) (g : Int) (w : World) (h : Raw w b m n N I F L) (hm : m ≤ 64) (hI : 0 ≤ I g ∧ I g ≤ 64) (hz : Qp.hasN g m = false → I g = 0) :
    Calls Try.prog 22 #[.pointer (some ⟨b, 0, none⟩), .int .i64 g] w fun e w' => e = .returned (.int .i64 (I g - 1)) ∧ w = w' := by
  have C := Lib.hid (hasNumber_any b m n N I F L g w h)
  obtain ⟨i0, i1⟩ := hI
  cases hg : Qp.hasN g m with
  | true =>
    rw [hg] at C
    obtain ⟨g0, g1⟩ := Qp.hasN_iff.1 hg
    obtain ⟨j, rfl⟩ : ∃ j : Nat, g = j := ⟨g.toNat, by omega⟩
    have c := h.i j (by omega)
    clear h hg hz
    go_enter Try.func22, Try.ntmps22
    go_wp2_with fail
    refine C.out.mono ?_
    rintro e w' ⟨rfl, rfl⟩
    go_wp2_with fail
    go_ret
    exact ⟨rfl, rfl⟩
  | false =>
    rw [hg] at C
    have HZ := Lib.hid (hz hg)
    clear hz h hg
    go_enter Try.func22, Try.ntmps22
    go_wp2_with fail
    refine C.out.mono ?_
    rintro e w' ⟨rfl, rfl⟩
    go_wp2_with fail
    go_ret
    exact ⟨by rw [HZ.out]; rfl, rfl⟩
theorem of_nil (g : Int) (w : World) : Calls Try.prog 22 #[.pointer none, .int .i64 g] w fun e w' => e = .returned (.int .i64 (-1)) ∧ w = w' := by
  go_enter Try.func22, Try.ntmps22
  go_wp2_with fail
  refine (hasNumber_nil g w).mono ?_
  rintro e w' ⟨rfl, rfl⟩
  go_wp2_with fail
  go_ret
  exact ⟨rfl, rfl⟩
/-- A call that answers nothing and leaves this very world. -/
def Leaves (W : World) (e : Ending) (w' : World) : Prop := e = .returned (.tuple #[]) ∧ W = w'
theorem link_first (b : Nat) (m n : Int) (N I : Int → Int) (F L : Nat → Int) (k : Nat) (g : Int) (w : World) (h : Raw w b m n N I F L) (hk : k < 64) :
    Calls Try.prog 27 #[.pointer (some ⟨b, 0, none⟩), .int .i64 k, .int .i64 0, .int .i64 g] w (Leaves (w.setCell ⟨b, 132 + k, none⟩ (.int .i64 g))) := by
  have c := h.f k hk
  have z := h.z (132 + k)
  clear h
  go_enter Try.func27, Try.ntmps27
  go_wp2_with fail
  exact bodyPost_ret (v := .tuple #[]) (by simp [results, Try.results27, go_sem]) rfl ⟨rfl, rfl⟩
theorem link_next (b : Nat) (m n : Int) (N I : Int → Int) (F L : Nat → Int) (k : Int) (a g : Int) (w : World) (h : Raw w b m n N I F L) (h0 : 1 ≤ a) (h1 : a ≤ 64) :
    Calls Try.prog 27 #[.pointer (some ⟨b, 0, none⟩), .int .i64 k, .int .i64 a, .int .i64 g] w (Leaves (w.setCell ⟨b, 2 + a.toNat, none⟩ (.int .i64 g))) := by
  obtain ⟨j, rfl⟩ : ∃ j : Nat, a = j := ⟨a.toNat, by omega⟩
  have c := h.n j (by omega)
  have z := h.z (2 + j)
  have t : ((j : Int) == 0) = false := by rw [beq_eq_false_iff_ne]; omega
  clear h
  go_enter Try.func27, Try.ntmps27
  go_wp2_with fail
  exact bodyPost_ret (v := .tuple #[]) (by simp [results, Try.results27, go_sem]) rfl ⟨rfl, rfl⟩
end Go.Proofs.Ythljecllmdbbbaa

