/- Strings as lists of bytes: put together, cut, indexed; a byte turned into a string. -/
import Derived.Test.YtldehegoaofjnaaBase
import Derived.Lib.Strings
namespace Go.Proofs.Ytldehegoaofjnaa
open Go.RowKit
set_option linter.unusedVariables false

def str (l : List UInt8) : ByteArray := ⟨l.toArray⟩
theorem str_size (l : List UInt8) : (str l).size = l.length := by show l.toArray.size = _; simp
theorem str_append (a b : List UInt8) : str a ++ str b = str (a ++ b) := ByteArray.mk_append_mk a b
theorem str_add (w : World) (a b : List UInt8) (h : a.length + b.length ≤ 9223372036854775807) : (Op.stringOp .add (str a) (str b)).run Try.prog w = .ok (.string (str (a ++ b))) w := by
  rw [run_string_add_sum w _ _ (by rw [str_size, str_size]; exact h), str_append]
theorem ret_str {a b : ByteArray} (h : a = b) : Ending.returned (.string a) = .returned (.string b) := by rw [h]
theorem str_take (S : List UInt8) (k : Nat) : (str S).extract 0 k = str (S.take k) := by
  apply ByteArray.ext
  apply Array.ext'
  rw [Lib.extract_data]
  simp [str]
theorem str_drop (S : List UInt8) (k : Nat) : (str S).extract k S.length = str (S.drop k) := by
  apply ByteArray.ext
  apply Array.ext'
  rw [Lib.extract_data]
  simp only [str]
  rw [List.take_of_length_le (by simp)]
theorem one_byte (w : World) (c : UInt8) (z : Int) (hz : z = (c.toNat : Int)) : (convert 31 9 (.slice (some ⟨w.heap.size, 0, none⟩) 1 1)).run Try.prog (w.alloc (.cells #[.int .u8 z] 5)) = .ok (.string (str [c])) (w.alloc (.cells #[.int .u8 z] 5)) := by
  subst hz
  refine run_convert_bytes_back _ _ _ _ ⟨w.heap.size, 0, none⟩ 1 [c] Try.underlying31 Try.underlying5 Try.underlying9 ?_
  intro j hj
  have h0 : j = 0 := by simp at hj; omega
  subst h0
  rw [show ((⟨w.heap.size, 0, none⟩ : Addr).add 0) = ⟨w.heap.size, 0, none⟩ from rfl, World.cell?_alloc_at _ _ _ _ rfl]
  rfl
theorem one_byte_drew (w : World) (c : UInt8) (z : Int) (hz : z = (c.toNat : Int)) : (convert 31 9 (.slice (some ⟨w.heap.size, 0, none⟩) 1 1)).run Try.prog (w.alloc (.cells #[.int .u8 z] 5)).drew = .ok (.string (str [c])) (w.alloc (.cells #[.int .u8 z] 5)).drew := by
  subst hz
  refine run_convert_bytes_back _ _ _ _ ⟨w.heap.size, 0, none⟩ 1 [c] Try.underlying31 Try.underlying5 Try.underlying9 ?_
  intro j hj
  have h0 : j = 0 := by simp at hj; omega
  subst h0
  rw [show ((⟨w.heap.size, 0, none⟩ : Addr).add 0) = ⟨w.heap.size, 0, none⟩ from rfl, World.cell?_drew, World.cell?_alloc_at _ _ _ _ rfl]
  rfl
theorem idx_str (S : List UInt8) (k : Nat) (c : UInt8) (h : S[k]? = some c) (W : World) : (Instr.index 9 (.string (str S)) (.int .i64 (k : Int))).run Try.prog W = .ok (.int .u8 (c.toNat : Int)) W := by
  have hk : k < (str S).size := by rw [str_size]; exact (List.getElem?_eq_some_iff.1 h).1
  have e : (str S)[k]'hk = c := by
    have h1 : S.toArray[k]? = some c := by rw [List.getElem?_toArray]; exact h
    exact (Array.getElem?_eq_some_iff.1 h1).2
  have h1 : (Instr.index 9 (.string (str S)) (.int .i64 (k : Int))).run Try.prog W = .ok (.int .u8 (((str S)[k]'hk).toNat : Int)) W := by go_simp
  rw [h1, e]
theorem str_self (s : ByteArray) : str s.data.toList = s := by unfold str; simp
theorem of_maxLen {n : Nat} (h : n ≤ maxLen) : n ≤ 9223372036854775807 := by unfold maxLen at h; omega
end Go.Proofs.Ytldehegoaofjnaa

