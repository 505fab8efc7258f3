/- Strings cut and put together, and bytes turned into strings. -/
import Derived.Test.YtdhcnmcfgicbjaaTText
import Derived.Lib.Strings
namespace Go.Proofs.Ytdhcnmcfgicbjaa
open Go.RowKit
set_option linter.unusedVariables false

theorem str_take (S : List UInt8) (k : Nat) : (str S).extract 0 k = str (S.take k) := by
  apply ByteArray.ext
  apply Array.ext'
  rw [Lib.extract_data]
  simp [str]
theorem str_drop (S : List UInt8) (k : Nat) : (str S).extract k S.length = str (S.drop k) := by
  apply ByteArray.ext
  apply Array.ext'
  rw [Lib.extract_data]
  simp only [str]
  rw [List.take_of_length_le (by simp)]
theorem one_byte (w : World) (c : UInt8) (z : Int) (hz : z = (c.toNat : Int)) : (convert 39 9 (.slice (some ⟨w.heap.size, 0, none⟩) 1 1)).run Try.prog (w.alloc (.cells #[.int .u8 z] 5)) = .ok (.string (str [c])) (w.alloc (.cells #[.int .u8 z] 5)) := by
  subst hz
  refine run_convert_bytes_back _ _ _ _ ⟨w.heap.size, 0, none⟩ 1 [c] Try.underlying39 Try.underlying5 Try.underlying9 ?_
  intro j hj
  have h0 : j = 0 := by simp at hj; omega
  subst h0
  rw [show ((⟨w.heap.size, 0, none⟩ : Addr).add 0) = ⟨w.heap.size, 0, none⟩ from rfl, World.cell?_alloc_at _ _ _ _ rfl]
  rfl
theorem one_byte_drew (w : World) (c : UInt8) (z : Int) (hz : z = (c.toNat : Int)) : (convert 39 9 (.slice (some ⟨w.heap.size, 0, none⟩) 1 1)).run Try.prog (w.alloc (.cells #[.int .u8 z] 5)).drew = .ok (.string (str [c])) (w.alloc (.cells #[.int .u8 z] 5)).drew := by
  subst hz
  refine run_convert_bytes_back _ _ _ _ ⟨w.heap.size, 0, none⟩ 1 [c] Try.underlying39 Try.underlying5 Try.underlying9 ?_
  intro j hj
  have h0 : j = 0 := by simp at hj; omega
  subst h0
  rw [show ((⟨w.heap.size, 0, none⟩ : Addr).add 0) = ⟨w.heap.size, 0, none⟩ from rfl, World.cell?_drew, World.cell?_alloc_at _ _ _ _ rfl]
  rfl
theorem idx_str (S : List UInt8) (k : Nat) (c : UInt8) (h : S[k]? = some c) (W : World) : (Instr.index 9 (.string (str S)) (.int .i64 (k : Int))).run Try.prog W = .ok (.int .u8 (c.toNat : Int)) W := by
  have hk : k < (str S).size := by rw [str_size]; exact (List.getElem?_eq_some_iff.1 h).1
  have e : (str S)[k]'hk = c := by
    have h1 : S.toArray[k]? = some c := by rw [List.getElem?_toArray]; exact h
    exact (Array.getElem?_eq_some_iff.1 h1).2
  have h1 : (Instr.index 9 (.string (str S)) (.int .i64 (k : Int))).run Try.prog W = .ok (.int .u8 (((str S)[k]'hk).toNat : Int)) W := by go_simp
  rw [h1, e]
/-- The places of a letter in the first k bytes. -/
def wh (S : List UInt8) : Nat → List Int
  | 0 => []
  | k + 1 => wh S k ++ (if S[k]? = some 112 then [(k : Int)] else [])
theorem wh_hit {S : List UInt8} {k : Nat} (h : S[k]? = some 112) : wh S (k + 1) = wh S k ++ [(k : Int)] := by rw [wh, if_pos h]
theorem wh_miss {S : List UInt8} {k : Nat} {c : UInt8} (h : S[k]? = some c) (hc : c ≠ 112) : wh S (k + 1) = wh S k := by
  rw [wh, if_neg (by rw [h]; intro e; injection e with e; exact hc e), List.append_nil]
theorem wh_len (S : List UInt8) : ∀ k, (wh S k).length ≤ k := by
  intro k
  induction k with
  | zero => exact Nat.le_refl _
  | succ k ih => rw [wh, List.length_append]; split <;> simp <;> omega
theorem wh_mem (S : List UInt8) (z : Int) : ∀ k, z ∈ wh S k ↔ ∃ i : Nat, i < k ∧ z = (i : Int) ∧ S[i]? = some 112 := by
  intro k
  induction k with
  | zero => simp [wh]
  | succ k ih =>
    rw [wh, List.mem_append, ih]
    constructor
    · rintro (⟨i, h1, h2, h3⟩ | h)
      · exact ⟨i, by omega, h2, h3⟩
      · split at h
        · rename_i hk
          rw [List.mem_singleton] at h
          exact ⟨k, by omega, h, hk⟩
        · cases h
    · rintro ⟨i, h1, h2, h3⟩
      by_cases e : i = k
      · subst e
        rw [if_pos h3]
        exact .inr (List.mem_singleton.2 h2)
      · exact .inl ⟨i, by omega, h2, h3⟩
/-- A tree's text has a processor's letter. -/
theorem wh_some {vs : List (Int × Int)} (h : Tp.Tree vs) : 0 < (wh (Tx.tx vs 3 0) (Tx.tx vs 3 0).length).length := by
  obtain ⟨j, y, hy, h1⟩ := h.node
  obtain ⟨i, x, hx, h3, _⟩ := h.below hy h1
  have hm : (i : Int) ∈ Tx.lvl 3 vs := Tp.mem_those.2 ⟨i, x, rfl, hx, by rw [h3]; rfl⟩
  have hpos : 0 < Tx.many 112 (Tx.tx vs 3 0) := by
    rw [(Tx.text_counts h).2.2.2.1]
    exact List.length_pos_of_mem hm
  obtain ⟨k, hk⟩ := List.mem_iff_getElem?.1 (List.count_pos_iff.1 hpos)
  have hkl := (List.getElem?_eq_some_iff.1 hk).1
  exact List.length_pos_of_mem ((wh_mem _ (k : Int) _).2 ⟨k, hkl, rfl, hk⟩)
end Go.Proofs.Ytdhcnmcfgicbjaa

