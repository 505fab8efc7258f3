/- bits.Of by its contract: the bits of all numbers that can be members. -/
import Derived.Test.YtfkjgpfeiijnkaaDoorRRow
import Derived.Test.YtfkjgpfeiijnkaaDoorZPlain
namespace Go.Proofs.YtfkjgpfeiijnkaaDoor
open Go.RowKit
set_option linter.unusedVariables false

theorem wrap_pow (m : Nat) (h : m < 64) : IntKind.u64.wrap ((2 : Int) ^ m) = ((2 ^ m : Nat) : Int) := by
  have h1 : 2 ^ m < 18446744073709551616 := by have := Nat.pow_lt_pow_right (a := 2) (by decide) h; omega
  rw [IntKind.wrap_u64, show (2 : Int) ^ m = ((2 ^ m : Nat) : Int) by rw [Int.natCast_pow]; rfl, Int.emod_eq_of_lt (Int.natCast_nonneg _) (by generalize 2 ^ m = q at h1; omega)]
theorem or_one (s m : Nat) (hs : s < 18446744073709551616) (h : m < 64) : bits .or .u64 (s : Int) (IntKind.u64.wrap ((2 : Int) ^ m)) = ((s ||| Zp.one (m : Int) : Nat) : Int) := by
  have h1 : 2 ^ m < 18446744073709551616 := by have := Nat.pow_lt_pow_right (a := 2) (by decide) h; omega
  rw [wrap_pow m h, bits_or_u64_nat _ _ hs h1, show Zp.one (m : Int) = 2 ^ m by unfold Zp.one; rw [if_pos (by omega), Int.toNat_natCast]]
theorem of_any (A : Option Addr) (n c : Nat) (zs : List Int) (w : World) (h : Row w A n c zs) :
    Calls Tryd.prog 22 #[.slice A n c] w fun e w' => e = .returned (.int .u64 (Zp.ofL zs : Nat)) ∧ w' = w := by
  have h1 := h.cap
  have h2 := h.most
  have H := Lib.hid h
  clear h
  go_enter Tryd.func22, Tryd.ntmps22
  go_wp2
  go_loop [3, 8] (fun s i => ∃ k : Nat, k ≤ n ∧ i = .int .i64 k ∧ s = .int .u64 (Zp.ofL (zs.take k) : Nat))
    (fun _ i => n - (intOf i).toNat)
  case atStart => exact ⟨0, Nat.zero_le _, rfl, rfl⟩
  case round =>
    obtain ⟨k, hk, rfl, rfl⟩ := hrel
    by_cases hlt : k < n
    · obtain ⟨x, hx⟩ : ∃ x, zs[k]? = some x := ⟨_, List.getElem?_eq_getElem (by have := H.out.len; omega)⟩
      obtain ⟨b, off, hA, hbk, hc⟩ := H.out.row k x hx
      subst hA
      have hs : zs.take (k + 1) = zs.take k ++ [x] := by rw [List.take_add_one, hx]; rfl
      have HS := Lib.hid (show Zp.ofL (zs.take (k + 1)) = Zp.ofL (zs.take k) ||| Zp.one x by rw [hs, Zp.ofL_snoc])
      have hlt64 := Zp.ofL_lt (zs.take k)
      generalize Zp.ofL (zs.take k) = s at HS hlt64
      clear hx hs
      by_cases hx0 : 0 ≤ x
      · by_cases hx1 : x < 64
        · obtain ⟨m, rfl⟩ := Int.eq_ofNat_of_zero_le hx0
          have hm : m < 64 := by omega
          go_wp2
          go_round
          case rel =>
            refine ⟨k + 1, by omega, by go_num, ?_⟩
            rw [HS.out, or_one s m hlt64 hm]
          case measure => simp [intOf]; omega
        · go_wp2
          go_round
          case rel => exact ⟨k + 1, by omega, by go_num, by rw [HS.out, show Zp.one x = 0 from if_neg (by omega), Nat.or_zero]⟩
          case measure => simp [intOf]; omega
      · go_wp2
        go_round
        case rel => exact ⟨k + 1, by omega, by go_num, by rw [HS.out, show Zp.one x = 0 from if_neg (by omega), Nat.or_zero]⟩
        case measure => simp [intOf]; omega
    · go_wp2
      go_ret
      have e := H.out.len
      rw [List.take_of_length_le (by omega)]
      exact ⟨rfl, rfl⟩
end Go.Proofs.YtfkjgpfeiijnkaaDoor

