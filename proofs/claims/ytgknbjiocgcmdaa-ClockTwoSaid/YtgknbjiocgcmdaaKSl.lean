/- slept, by its contract: a clock on which the i-th one sleeps for so many ticks. -/
import Derived.Test.YtgknbjiocgcmdaaKShown
import Derived.Test.YtgknbjiocgcmdaaKSlept
namespace Go.Proofs.Ytgknbjiocgcmdaa
open Go.RowKit
set_option linter.unusedVariables false

theorem BRow.bytes {w : World} {A : Option Addr} {zs : List Int} (h : BRow w A zs) : ∀ z ∈ zs, 0 ≤ z ∧ z ≤ 255 := fun z hz => by
  obtain ⟨i, hi⟩ := List.mem_iff_getElem?.1 hz
  obtain ⟨_, _, _, _, _, h0, h1⟩ := h i z hi
  exact ⟨h0, h1⟩
set_option maxHeartbeats 1000000 in
theorem slept_any (A : Option Addr) (n c : Nat) (zs : List Int) (w : World) (hn : Hid (zs.length = n)) (hl : n ≤ 9223372036854775807) (h : BRow w A zs) (p : Nat) (hp : Hid (p = min n 64)) :
    Calls Try.prog 20 #[.slice A n c] w fun e w' => ∃ b F, e = .returned (.pointer (some ⟨b, 0, none⟩)) ∧ Co w w' b F 0 (Kp.sl zs p) 64 := by
  have C0 := Lib.hid (Co.new (Below.refl w.heap.size w) rfl)
  have H := Lib.hid h
  have HS := Lib.hid (Kp.sl_all h.bytes)
  clear h
  go_enter Try.func20, Try.ntmps20
  go_wp2_with fail
  obtain ⟨b, hbn⟩ : ∃ b, b = w.heap.size := ⟨_, rfl⟩
  rw [← hbn] at C0 ⊢
  generalize w.alloc (.cells #[.slice none 0 0, .int .i64 0, .int .i64 0] 29) = V at *
  clear hbn
  go_loopw [4] (fun i wr => ∃ (k : Nat) (F : Nat → Prop), k ≤ n ∧ k ≤ 64 ∧ i = .int .i64 k ∧ Hid (Co w wr b F 0 (Kp.sl zs k) k)) (fun i _ => n - (intOf i).toNat)
  case atStart => exact ⟨0, _, Nat.zero_le _, Nat.zero_le _, rfl, C0⟩
  case round =>
    clear C0
    obtain ⟨k, F, hk, hk64, rfl, C⟩ := hrel
    by_cases hlt : k < n
    · by_cases h64 : k < 64
      · obtain ⟨z, hz⟩ : ∃ z, zs[k]? = some z := ⟨_, List.getElem?_eq_getElem (by have := hn.out; omega)⟩
        obtain ⟨b', off, rfl, hlt', hc, z0, z1⟩ := H.out k z hz
        have hcw : wr.cell? ⟨b', off + k, none⟩ = some (.int .u8 z) := (C.out.below.cell (p := ⟨b', off + k, none⟩) hlt').trans hc
        obtain ⟨n1, n2, n3⟩ := Kp.sl_next hz z0 z1 (HS.out k (by have := hn.out; omega))
        have N1 := Lib.hid n1
        have N2 := Lib.hid n2
        have i0 : (0 : Int) ≤ (k : Int) := by omega
        have i1 : (k : Int) < (n : Int) := by omega
        have w1 : IntKind.i64.wrap ((k : Int) + 1) = (k : Int) + 1 := IntWalk.i64_in _ (by omega)
        have w2 : IntKind.i64.wrap (1 + z) = 1 + z := IntWalk.i64_in _ (by omega)
        have w3 : IntKind.i64.wrap z = z := IntWalk.i64_in _ (by omega)
        have HC := Lib.hid (co_sleep C.out ((k : Int) + 1) (1 + z) (by omega))
        clear hz hc n1 n2 n3 hlt'
        go_wp2_with fail
        refine HC.out.mono ?_
        rintro e w5 ⟨rfl, F', h5, _⟩
        rw [N1.out]
        rw [← N2.out] at h5
        have C5 := Lib.hid h5
        clear h5 HC C hcw
        go_wp2_with fail
        go_roundw
        case rel => exact ⟨k + 1, F', by omega, by omega, by go_num, C5⟩
        case measure => simp [intOf]; omega
      · obtain rfl : k = 64 := by omega
        have HP := Lib.hid (show p = 64 by rw [hp.out]; omega)
        go_wp2_with fail
        go_ret
        exact ⟨b, F, rfl, by rw [HP.out]; exact C.out⟩
    · obtain rfl : k = n := by omega
      have HP := Lib.hid (show p = k by rw [hp.out]; omega)
      have HM := Lib.hid (show Co w wr b F 0 (Kp.sl zs k) 64 from ⟨C.out.ck.more hk64 (by omega), C.out.ge, C.out.below⟩)
      go_wp2_with fail
      go_ret
      exact ⟨b, F, rfl, by rw [HP.out]; exact HM.out⟩
end Go.Proofs.Ytgknbjiocgcmdaa

