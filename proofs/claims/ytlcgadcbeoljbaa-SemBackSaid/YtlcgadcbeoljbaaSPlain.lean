/- Semaphores in plain mathematics: a count, and who waits. -/
import Derived.Test.YtlcgadcbeoljbaaRPlain
namespace Go.Proofs.Ytlcgadcbeoljbaa.Sp
open Rp (Once)
set_option linter.unusedVariables false

def acq (s : Int × List Int) (g : Int) : (Int × List Int) × Bool :=
  if 0 < s.1 then ((s.1 - 1, s.2), true) else ((s.1, s.2 ++ [g]), false)
def rel (s : Int × List Int) : (Int × List Int) × Int :=
  match s.2 with
  | [] => ((if s.1 = 1000000 then s.1 else s.1 + 1, []), 0)
  | z :: t => ((s.1, t), z)
def May (s : Int × List Int) : Prop := 0 ≤ s.1 ∧ s.1 ≤ 1000000 ∧ (s.1 = 0 ∨ s.2 = []) ∧ Once s.2
instance (s : Int × List Int) : Decidable (May s) := by unfold May; infer_instance
/-- The one ahead of place k; 0 ahead of the first. -/
def pre (l : List Int) (k : Nat) : Int := (0 :: l).getD k 0
/-- Each of the first k is above the one ahead. -/
def Rise (l : List Int) (k : Nat) : Prop := ∀ j, j < k → pre l j < l.getD j 0
instance (l : List Int) (k : Nat) : Decidable (Rise l k) := by unfold Rise; infer_instance
theorem rise_zero (l : List Int) : Rise l 0 := fun j h => by omega
theorem rise_succ {l : List Int} {k : Nat} {z : Int} (h : Rise l k) (hz : l[k]? = some z) (hlt : pre l k < z) : Rise l (k + 1) := by
  intro j hj
  by_cases e : j = k
  · subst e
    rw [List.getD_eq_getElem?_getD, hz]
    exact hlt
  · exact h j (by omega)
theorem rise_not {l : List Int} {k n : Nat} {z : Int} (hz : l[k]? = some z) (hk : k < n) (hge : z ≤ pre l k) : ¬ Rise l n := by
  intro h
  have := h k hk
  rw [List.getD_eq_getElem?_getD, hz] at this
  simp at this
  omega
theorem pre_succ {l : List Int} {k : Nat} {z : Int} (hz : l[k]? = some z) : pre l (k + 1) = z := by
  unfold pre
  rw [List.getD_eq_getElem?_getD, List.getElem?_cons_succ, hz]
  rfl
theorem pre_zero (l : List Int) : pre l 0 = 0 := rfl
theorem rises (l : List Int) (a : Int) : (∀ j, j < l.length → (a :: l).getD j 0 < l.getD j 0) ↔ (∀ x ∈ l, a < x) ∧ l.Pairwise (· < ·) := by
  induction l generalizing a with
  | nil => simp
  | cons z t ih =>
    constructor
    · intro h
      have h0 : a < z := by simpa using h 0 (by simp)
      obtain ⟨h1, h2⟩ := (ih z).1 fun j hj => by simpa using h (j + 1) (by simpa using hj)
      refine ⟨fun x hx => ?_, List.pairwise_cons.2 ⟨h1, h2⟩⟩
      rcases List.mem_cons.1 hx with rfl | hx
      · exact h0
      · have := h1 x hx; omega
    · rintro ⟨h1, h2⟩ j hj
      rw [List.pairwise_cons] at h2
      cases j with
      | zero => simpa using h1 z (by simp)
      | succ j => simpa using (ih z).2 h2 j (by simpa using hj)
/-- Of a row that is sorted: each is above the one ahead, just if all are above 0, each once. -/
theorem rise_once (l : List Int) (hs : l.Pairwise (· ≤ ·)) : Rise l l.length ↔ Once l := by
  unfold Rise pre
  rw [rises l 0]
  constructor
  · rintro ⟨h1, h2⟩
    exact ⟨fun x hx => by have := h1 x hx; omega, h2.imp fun h => Int.ne_of_lt h⟩
  · rintro ⟨h1, h2⟩
    exact ⟨fun x hx => by have := h1 x hx; omega, (hs.and h2).imp fun ⟨h3, h4⟩ => by omega⟩
theorem once_perm {a b : List Int} (p : a.Perm b) : Once a ↔ Once b := ⟨fun h => h.perm p, fun h => h.perm p.symm⟩

/-! ### What may be stays so -/
theorem May.len {s : Int × List Int} (h : May s) : 0 ≤ s.1 ∧ s.1 ≤ 1000000 := ⟨h.1, h.2.1⟩
theorem May.acq {s : Int × List Int} {g : Int} (h : May s) (hg : 1 ≤ g) (hn : g ∉ s.2) : May (acq s g).1 := by
  obtain ⟨h0, h1, h2, h3⟩ := h
  unfold Sp.acq
  by_cases hc : 0 < s.1
  · rw [if_pos hc]
    have e : s.2 = [] := h2.elim (fun h => by omega) id
    exact ⟨by simp only; omega, by simp only; omega, .inr e, h3⟩
  · rw [if_neg hc]
    exact ⟨h0, h1, .inl (by simp only; omega), h3.snoc hg hn⟩
theorem May.rel {s : Int × List Int} (h : May s) : May (rel s).1 := by
  obtain ⟨c, l⟩ := s
  obtain ⟨h0, h1, h2, h3⟩ := h
  simp only at h0 h1 h2 h3
  unfold Sp.rel
  cases l with
  | nil =>
    refine ⟨?_, ?_, .inr rfl, h3⟩ <;> simp only <;> split <;> omega
  | cons z t =>
    have hc : c = 0 := h2.elim id (fun h => by cases h)
    refine ⟨h0, h1, .inl hc, fun x hx => h3.1 x (List.mem_cons_of_mem _ hx), (List.nodup_cons.1 h3.2).2⟩
end Go.Proofs.Ytlcgadcbeoljbaa.Sp

