/- Contracts and plain mathematics, put together by program (wip/merge.py) out of: ZSet ZTz ZCnt. -/
import Derived.Test.YtgloibgmaiadfaaDoorM4
import Derived.Test.YtgloibgmaiadfaaDoorM0
import Derived.Laws.Bits128
/- Has, With, Without, from by their contracts. -/
namespace Go.Proofs.YtgloibgmaiadfaaDoor
open Go.RowKit
set_option linter.unusedVariables false

theorem andnot_one (s : Nat) (n : Int) (hs : s < 18446744073709551616) : bits .andNot .u64 (s : Int) (Zp.one n : Nat) = ((Zp.wout s n : Nat) : Int) := by
  rw [u64_andNot_nat _ _ hs (Zp.one_lt n)]; rfl
theorem has_and (s : Nat) (n : Int) (hs : s < 18446744073709551616) : (bits .and .u64 (s : Int) (Zp.one n : Nat) != 0) = Zp.has s n := by
  rw [bits_and_u64_nat _ _ hs (Zp.one_lt n)]
  unfold Zp.has
  rw [Bool.eq_iff_iff, bne_iff_ne, decide_eq_true_eq]
  omega
theorem shifted (s m : Nat) (hs : s < 18446744073709551616) : IntKind.u64.wrap ((s : Int) / 2 ^ m * 2 ^ m) = ((s / 2 ^ m * 2 ^ m : Nat) : Int) := by
  have h1 : s / 2 ^ m * 2 ^ m < 18446744073709551616 := Nat.lt_of_le_of_lt (Nat.div_mul_le_self _ _) hs
  rw [IntKind.wrap_u64, show (s : Int) / 2 ^ m * 2 ^ m = ((s / 2 ^ m * 2 ^ m : Nat) : Int) by rw [Int.natCast_mul, Int.natCast_ediv, Int.natCast_pow]; rfl, Int.emod_eq_of_lt (Int.natCast_nonneg _) (by generalize s / 2 ^ m * 2 ^ m = q at h1; omega)]
theorem has_any (s : Nat) (n : Int) (w : World) (hs : s < 18446744073709551616) :
    Calls Tryd.prog 39 #[.int .u64 s, .int .i64 n] w fun e w' => e = .returned (.bool (Zp.has s n)) ∧ Below w.heap.size w w' := by
  have HR := Lib.hid (row_lit w [n] (by simp))
  have HB := Lib.hid (below_new w (.cells #[.int .i64 n] 3))
  go_enter Tryd.func39, Tryd.ntmps39
  go_wp2_with fail
  refine (of_any _ 1 1 [n] _ HR.out).mono ?_
  rintro e w1 ⟨rfl, rfl⟩
  rw [Zp.ofL_one]
  go_wp2_with fail
  go_ret
  refine ⟨?_, HB.out⟩
  rw [has_and _ _ hs]; rfl
theorem with_any (s : Nat) (n : Int) (w : World) (hs : s < 18446744073709551616) :
    Calls Tryd.prog 29 #[.int .u64 s, .int .i64 n] w fun e w' => e = .returned (.int .u64 (Zp.wth s n : Nat)) ∧ Below w.heap.size w w' := by
  have HR := Lib.hid (row_lit w [n] (by simp))
  have HB := Lib.hid (below_new w (.cells #[.int .i64 n] 3))
  go_enter Tryd.func29, Tryd.ntmps29
  go_wp2_with fail
  refine (of_any _ 1 1 [n] _ HR.out).mono ?_
  rintro e w1 ⟨rfl, rfl⟩
  rw [Zp.ofL_one]
  go_wp2_with fail
  go_ret
  refine ⟨?_, HB.out⟩
  rw [bits_or_u64_nat _ _ hs (Zp.one_lt n)]; rfl
theorem without_any (s : Nat) (n : Int) (w : World) (hs : s < 18446744073709551616) :
    Calls Tryd.prog 74 #[.int .u64 s, .int .i64 n] w fun e w' => e = .returned (.int .u64 (Zp.wout s n : Nat)) ∧ Below w.heap.size w w' := by
  have HR := Lib.hid (row_lit w [n] (by simp))
  have HB := Lib.hid (below_new w (.cells #[.int .i64 n] 3))
  go_enter Tryd.func74, Tryd.ntmps74
  go_wp2_with fail
  refine (of_any _ 1 1 [n] _ HR.out).mono ?_
  rintro e w1 ⟨rfl, rfl⟩
  rw [Zp.ofL_one]
  go_wp2_with fail
  go_ret
  refine ⟨?_, HB.out⟩
  rw [andnot_one _ _ hs]; rfl
end Go.Proofs.YtgloibgmaiadfaaDoor


/- The library's TrailingZeros64 and OnesCount64 by their contracts; least, Count, Next. -/
namespace Go.Proofs.YtgloibgmaiadfaaDoor
open Go.RowKit
set_option linter.unusedVariables false

/-- The library's table, as its initialiser lays it. -/
def Tab (w : World) : Prop := ∀ j, j < 64 → w.cell? ⟨0, j, none⟩ = some (.int .u8 (Lib.deBruijn64tab.getD j 0 : Nat))
theorem Tab.lt {w : World} (h : Tab w) : 0 < w.heap.size := World.block_lt_of_cell? _ _ (h 0 (by decide))
theorem Tab.step {w w' : World} (h : Tab w) (hb : Below w.heap.size w w') : Tab w' := fun j hj => keepcell hb (h j hj)
set_option maxHeartbeats 1000000 in
theorem tz_core (x k idx : Nat) (w : World) (hx0 : ((x : Int) == 0) = false)
    (key : IntKind.u64.wrap (bits BinOp.and IntKind.u64 (x : Int) (IntKind.u64.wrap (-(x : Int))) * 285870213051353865) / 288230376151711744 = (idx : Int))
    (hi : idx < 64) (hk : k < 64) (hcell : w.cell? ⟨0, idx, none⟩ = some (.int .u8 k)) :
    Calls Tryd.prog 80 #[.int .u64 x] w fun e w' => e = .returned (.int .i64 k) ∧ w' = w := by
  go_enter Tryd.func80, Tryd.ntmps80
  go_wp2_with (simp only [key])
  go_ret
  exact ⟨rfl, rfl⟩
theorem tz_key (x a : Nat) (hx : x < 18446744073709551616) (hx0 : x ≠ 0) (hlow : x &&& (18446744073709551616 - x) = a) :
    IntKind.u64.wrap (bits BinOp.and IntKind.u64 (x : Int) (IntKind.u64.wrap (-(x : Int))) * 285870213051353865) / 288230376151711744 = ((a * 285870213051353865 % 18446744073709551616 / 288230376151711744 : Nat) : Int) := by
  have e1 : IntKind.u64.wrap (-(x : Int)) = ((18446744073709551616 - x : Nat) : Int) := by rw [IntKind.wrap_u64]; omega
  rw [e1, bits_and_u64_nat x _ hx (by omega), hlow, IntKind.wrap_u64]
  omega
/-- The least member of a set that has one. -/
theorem tz_any (x : Nat) (w : World) (hx : x < 18446744073709551616) (hx0 : x ≠ 0) (hT : Tab w) :
    Calls Tryd.prog 80 #[.int .u64 x] w fun e w' => e = .returned (.int .i64 (Lib.ctz 64 x : Nat)) ∧ w' = w := by
  obtain ⟨hlow, hk⟩ := Lib.lowest_bit 64 x hx0 hx
  obtain ⟨hi, htab⟩ := Lib.deBruijn64_at _ hk
  have hcell := hT _ hi
  rw [htab] at hcell
  exact tz_core x _ _ w (by simp; omega) (tz_key x _ hx hx0 hlow) hi hk hcell
theorem least_any (x : Nat) (w : World) (hx : x < 18446744073709551616) (hx0 : x ≠ 0) (hT : Tab w) :
    Calls Tryd.prog 73 #[.int .u64 x] w fun e w' => e = .returned (.int .i64 (Lib.ctz 64 x : Nat)) ∧ w' = w := by
  go_enter Tryd.func73, Tryd.ntmps73
  go_wp2_with fail
  refine (tz_any x _ hx hx0 hT).mono ?_
  rintro e w1 ⟨rfl, rfl⟩
  go_wp2_with fail
  go_ret
  exact ⟨rfl, rfl⟩
end Go.Proofs.YtgloibgmaiadfaaDoor


/- The library's OnesCount64 by its contract; Count. -/
namespace Go.Proofs.YtgloibgmaiadfaaDoor
open Go.RowKit
set_option linter.unusedVariables false

theorem and_lit (a m : Nat) (ha : a < 18446744073709551616) (hm : m < 18446744073709551616) (z t : Int) (hz : z = (a : Int)) (ht : t = (m : Int)) : bits .and .u64 z t = ((a &&& m : Nat) : Int) := by
  subst hz ht; exact bits_and_u64_nat a m ha hm
theorem wrap_nat (a : Nat) (ha : a < 18446744073709551616) (z : Int) (hz : z = (a : Int)) : IntKind.u64.wrap z = (a : Int) := by
  subst hz; rw [IntKind.wrap_u64]; omega
theorem wrap_small (y : Nat) (h : y < 9223372036854775808) : wrap64 (y : Int) = (y : Int) := by
  have h1 : (0 : Int) ≤ (y : Int) + 9223372036854775808 := by omega
  have h2 : (y : Int) + 9223372036854775808 < 18446744073709551616 := by omega
  unfold wrap64
  rw [Int.emod_eq_of_lt h1 h2, Int.add_sub_cancel]
end Go.Proofs.YtgloibgmaiadfaaDoor

