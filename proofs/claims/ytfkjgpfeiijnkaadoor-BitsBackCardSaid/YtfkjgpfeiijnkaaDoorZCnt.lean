/- The library's OnesCount64 by its contract; Count. -/
import Derived.Test.YtfkjgpfeiijnkaaDoorZTz
import Derived.Laws.Bits128
namespace Go.Proofs.YtfkjgpfeiijnkaaDoor
open Go.RowKit
set_option linter.unusedVariables false

theorem and_lit (a m : Nat) (ha : a < 18446744073709551616) (hm : m < 18446744073709551616) (z t : Int) (hz : z = (a : Int)) (ht : t = (m : Int)) : bits .and .u64 z t = ((a &&& m : Nat) : Int) := by
  subst hz ht; exact bits_and_u64_nat a m ha hm
theorem wrap_nat (a : Nat) (ha : a < 18446744073709551616) (z : Int) (hz : z = (a : Int)) : IntKind.u64.wrap z = (a : Int) := by
  subst hz; rw [IntKind.wrap_u64]; omega
theorem wrap_small (y : Nat) (h : y < 9223372036854775808) : wrap64 (y : Int) = (y : Int) := by
  have h1 : (0 : Int) ≤ (y : Int) + 9223372036854775808 := by omega
  have h2 : (y : Int) + 9223372036854775808 < 18446744073709551616 := by omega
  unfold wrap64
  rw [Int.emod_eq_of_lt h1 h2, Int.add_sub_cancel]
set_option maxHeartbeats 4000000 in
theorem ones_any (x : Nat) (w : World) (hx : x < 18446744073709551616) :
    Calls Tryd.prog 24 #[.int .u64 x] w fun e w' => e = .returned (.int .i64 ((Zp.mem x).length : Nat)) ∧ w' = w := by
  obtain ⟨y1, e1⟩ : ∃ y1, y1 = (x / 2 &&& 6148914691236517205) + (x &&& 6148914691236517205) := ⟨_, rfl⟩
  obtain ⟨y2, e2⟩ : ∃ y2, y2 = (y1 / 4 &&& 3689348814741910323) + (y1 &&& 3689348814741910323) := ⟨_, rfl⟩
  obtain ⟨y3, e3⟩ : ∃ y3, y3 = (y2 / 16 + y2) &&& 1085102592571150095 := ⟨_, rfl⟩
  obtain ⟨y4, e4⟩ : ∃ y4, y4 = y3 + y3 / 256 := ⟨_, rfl⟩
  obtain ⟨y5, e5⟩ : ∃ y5, y5 = y4 + y4 / 65536 := ⟨_, rfl⟩
  obtain ⟨y6, e6⟩ : ∃ y6, y6 = y5 + y5 / 4294967296 := ⟨_, rfl⟩
  obtain ⟨b1, b2, b3⟩ := Zp.y_bounds x y1 y2 y3 e1 e2 e3
  obtain ⟨r1, r2⟩ := Zp.ones_up x y1 y2 y3 y4 y5 y6 e1 e2 e3 e4 e5 e6
  have b0 : y2 / 16 + y2 < 18446744073709551616 := by clear r1 e1 e2 e3; omega
  have k1 : IntKind.u64.wrap (bits .and .u64 ((x : Int) / 2) 6148914691236517205 + bits .and .u64 (x : Int) 6148914691236517205) = (y1 : Int) := by
    rw [and_lit (x / 2) 6148914691236517205 (by omega) (by decide) ((x : Int) / 2) 6148914691236517205 (by omega) rfl, and_lit x 6148914691236517205 hx (by decide) (x : Int) 6148914691236517205 rfl rfl]
    exact wrap_nat y1 (by omega) _ (by rw [e1]; rfl)
  have k2 : IntKind.u64.wrap (bits .and .u64 ((y1 : Int) / 4) 3689348814741910323 + bits .and .u64 (y1 : Int) 3689348814741910323) = (y2 : Int) := by
    rw [and_lit (y1 / 4) 3689348814741910323 (by omega) (by decide) ((y1 : Int) / 4) 3689348814741910323 (by omega) rfl, and_lit y1 3689348814741910323 (by omega) (by decide) (y1 : Int) 3689348814741910323 rfl rfl]
    exact wrap_nat y2 (by omega) _ (by rw [e2]; rfl)
  have k3 : bits .and .u64 (IntKind.u64.wrap ((y2 : Int) / 16 + (y2 : Int))) 1085102592571150095 = (y3 : Int) := by
    rw [wrap_nat (y2 / 16 + y2) b0 _ (by omega), and_lit (y2 / 16 + y2) 1085102592571150095 b0 (by decide) ((y2 / 16 + y2 : Nat) : Int) 1085102592571150095 rfl rfl, e3]
  clear e1 e2 e3
  have k4 : IntKind.u64.wrap ((y3 : Int) + (y3 : Int) / 256) = (y4 : Int) := wrap_nat y4 (by omega) _ (by omega)
  have k5 : IntKind.u64.wrap ((y4 : Int) + (y4 : Int) / 65536) = (y5 : Int) := wrap_nat y5 (by omega) _ (by omega)
  have k6 : IntKind.u64.wrap ((y5 : Int) + (y5 : Int) / 4294967296) = (y6 : Int) := wrap_nat y6 (by omega) _ (by omega)
  have R := Lib.hid (show bits .and .i64 (wrap64 (y6 : Int)) 127 = ((Zp.mem x).length : Nat) by
    rw [i64_and127, ← r1, wrap_small y6 r2]; rfl)
  clear e4 e5 e6 r1 r2 b1 b2 b3 b0
  go_enter Tryd.func24, Tryd.ntmps24
  go_wp2_with (simp only [k1])
  go_ret
  exact ⟨by rw [R.out]; rfl, rfl⟩
theorem count_any (x : Nat) (w : World) (hx : x < 18446744073709551616) :
    Calls Tryd.prog 14 #[.int .u64 x] w fun e w' => e = .returned (.int .i64 ((Zp.mem x).length : Nat)) ∧ w' = w := by
  go_enter Tryd.func14, Tryd.ntmps14
  go_wp2_with fail
  refine (ones_any x _ hx).mono ?_
  rintro e w1 ⟨rfl, rfl⟩
  go_wp2_with fail
  go_ret
  exact ⟨rfl, rfl⟩
end Go.Proofs.YtfkjgpfeiijnkaaDoor

