/- Has, With, Without, from by their contracts. -/
import Derived.Test.YtfkjgpfeiijnkaaDoorZOf
import Derived.Test.YtfkjgpfeiijnkaaDoorRApp
namespace Go.Proofs.YtfkjgpfeiijnkaaDoor
open Go.RowKit
set_option linter.unusedVariables false

theorem andnot_one (s : Nat) (n : Int) (hs : s < 18446744073709551616) : bits .andNot .u64 (s : Int) (Zp.one n : Nat) = ((Zp.wout s n : Nat) : Int) := by
  rw [u64_andNot_nat _ _ hs (Zp.one_lt n)]; rfl
theorem has_and (s : Nat) (n : Int) (hs : s < 18446744073709551616) : (bits .and .u64 (s : Int) (Zp.one n : Nat) != 0) = Zp.has s n := by
  rw [bits_and_u64_nat _ _ hs (Zp.one_lt n)]
  unfold Zp.has
  rw [Bool.eq_iff_iff, bne_iff_ne, decide_eq_true_eq]
  omega
theorem shifted (s m : Nat) (hs : s < 18446744073709551616) : IntKind.u64.wrap ((s : Int) / 2 ^ m * 2 ^ m) = ((s / 2 ^ m * 2 ^ m : Nat) : Int) := by
  have h1 : s / 2 ^ m * 2 ^ m < 18446744073709551616 := Nat.lt_of_le_of_lt (Nat.div_mul_le_self _ _) hs
  rw [IntKind.wrap_u64, show (s : Int) / 2 ^ m * 2 ^ m = ((s / 2 ^ m * 2 ^ m : Nat) : Int) by rw [Int.natCast_mul, Int.natCast_ediv, Int.natCast_pow]; rfl, Int.emod_eq_of_lt (Int.natCast_nonneg _) (by generalize s / 2 ^ m * 2 ^ m = q at h1; omega)]
theorem has_any (s : Nat) (n : Int) (w : World) (hs : s < 18446744073709551616) :
    Calls Tryd.prog 15 #[.int .u64 s, .int .i64 n] w fun e w' => e = .returned (.bool (Zp.has s n)) ∧ Below w.heap.size w w' := by
  have HR := Lib.hid (row_lit w [n] (by simp))
  have HB := Lib.hid (below_new w (.cells #[.int .i64 n] 3))
  go_enter Tryd.func15, Tryd.ntmps15
  go_wp2_with fail
  refine (of_any _ 1 1 [n] _ HR.out).mono ?_
  rintro e w1 ⟨rfl, rfl⟩
  rw [Zp.ofL_one]
  go_wp2_with fail
  go_ret
  refine ⟨?_, HB.out⟩
  rw [has_and _ _ hs]; rfl
theorem with_any (s : Nat) (n : Int) (w : World) (hs : s < 18446744073709551616) :
    Calls Tryd.prog 17 #[.int .u64 s, .int .i64 n] w fun e w' => e = .returned (.int .u64 (Zp.wth s n : Nat)) ∧ Below w.heap.size w w' := by
  have HR := Lib.hid (row_lit w [n] (by simp))
  have HB := Lib.hid (below_new w (.cells #[.int .i64 n] 3))
  go_enter Tryd.func17, Tryd.ntmps17
  go_wp2_with fail
  refine (of_any _ 1 1 [n] _ HR.out).mono ?_
  rintro e w1 ⟨rfl, rfl⟩
  rw [Zp.ofL_one]
  go_wp2_with fail
  go_ret
  refine ⟨?_, HB.out⟩
  rw [bits_or_u64_nat _ _ hs (Zp.one_lt n)]; rfl
theorem without_any (s : Nat) (n : Int) (w : World) (hs : s < 18446744073709551616) :
    Calls Tryd.prog 18 #[.int .u64 s, .int .i64 n] w fun e w' => e = .returned (.int .u64 (Zp.wout s n : Nat)) ∧ Below w.heap.size w w' := by
  have HR := Lib.hid (row_lit w [n] (by simp))
  have HB := Lib.hid (below_new w (.cells #[.int .i64 n] 3))
  go_enter Tryd.func18, Tryd.ntmps18
  go_wp2_with fail
  refine (of_any _ 1 1 [n] _ HR.out).mono ?_
  rintro e w1 ⟨rfl, rfl⟩
  rw [Zp.ofL_one]
  go_wp2_with fail
  go_ret
  refine ⟨?_, HB.out⟩
  rw [andnot_one _ _ hs]; rfl
theorem from_any (s : Nat) (n : Int) (w : World) (hs : s < 18446744073709551616) :
    Calls Tryd.prog 25 #[.int .u64 s, .int .i64 n] w fun e w' => e = .returned (.int .u64 (Zp.frm s n : Nat)) ∧ w' = w := by
  by_cases h0 : n < 0
  · have HF := Lib.hid (show Zp.frm s n = 0 from if_pos (.inl h0))
    go_enter Tryd.func25, Tryd.ntmps25
    go_wp2_with fail
    go_ret
    exact ⟨by rw [HF.out]; rfl, rfl⟩
  · by_cases h1 : 64 ≤ n
    · have HF := Lib.hid (show Zp.frm s n = 0 from if_pos (.inr h1))
      go_enter Tryd.func25, Tryd.ntmps25
      go_wp2_with fail
      go_ret
      exact ⟨by rw [HF.out]; rfl, rfl⟩
    · obtain ⟨m, rfl⟩ := Int.eq_ofNat_of_zero_le (Int.not_lt.1 h0)
      have hm : m < 64 := by omega
      have HF := Lib.hid (show Zp.frm s (m : Int) = s / 2 ^ m * 2 ^ m by unfold Zp.frm; rw [if_neg (by omega), Int.toNat_natCast])
      go_enter Tryd.func25, Tryd.ntmps25
      go_wp2_with fail
      go_ret
      refine ⟨?_, rfl⟩
      rw [HF.out, shifted _ _ hs]; rfl
end Go.Proofs.YtfkjgpfeiijnkaaDoor

