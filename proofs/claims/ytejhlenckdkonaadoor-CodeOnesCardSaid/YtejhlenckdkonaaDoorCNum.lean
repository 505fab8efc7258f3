/- The document's number, by its contract. -/
import Derived.Test.YtejhlenckdkonaaDoorCText
namespace Go.Proofs.YtejhlenckdkonaaDoor
open Go.RowKit
set_option linter.unusedVariables false

theorem w64_is (n : Int) : wrap64 n = Cp.w64 n := by unfold wrap64 Cp.w64; rfl
theorem str_get {S : List UInt8} {k : Nat} {c : UInt8} (h : S[k]? = some c) (hk : k < (str S).size) : (str S)[k]'hk = c := by
  have h1 : S.toArray[k]? = some c := by rw [List.getElem?_toArray]; exact h
  exact (Array.getElem?_eq_some_iff.1 h1).2
theorem dig_iff (c : UInt8) : Cp.isDig c = true ↔ 48 ≤ c.toNat ∧ c.toNat ≤ 57 := by
  unfold Cp.isDig
  rw [Bool.and_eq_true, decide_eq_true_eq, decide_eq_true_eq, UInt8.le_iff_toNat_le, UInt8.le_iff_toNat_le]
  rfl
theorem numW_take {S : List UInt8} {k : Nat} {c : UInt8} (hc : S[k]? = some c) : Cp.numW (S.take (k + 1)) = if Cp.isDig c then Cp.w64 (Cp.w64 (10 * Cp.numW (S.take k)) - ((c.toNat : Int) - 48)) else Cp.numW (S.take k) := by
  rw [List.take_add_one, hc]
  show Cp.numW (S.take k ++ [c]) = _
  rw [Cp.numW_snoc]
set_option maxHeartbeats 4000000 in
theorem refNum_any (S : List UInt8) (w : World) (hS : S.length ≤ 1000000) :
    Calls Tryd.prog 34 #[.string (str S)] w fun e w' => e = .returned (.int .i64 (Cp.num S)) ∧ w' = w := by
  obtain ⟨n, hn⟩ : ∃ n, (str S).size = n := ⟨_, rfl⟩
  have hnl : S.length = n := by rw [← hn, str_size]
  have HN := Lib.hid hnl
  have hn2 : n ≤ 1000000 := by omega
  clear hnl hS
  go_enter Tryd.func34, Tryd.ntmps34
  go_wp2_with fail
  go_loop [3, 4] (fun v i => ∃ (k : Nat) (y : Int), k ≤ n ∧ i = .int .i64 k ∧ v = .int .i64 y ∧ Hid (y = Cp.numW (S.take k))) (fun _ i => n - (intOf i).toNat)
  case atStart => exact ⟨0, 0, Nat.zero_le _, rfl, rfl, Lib.hid rfl⟩
  case round =>
    obtain ⟨k, y, hk, rfl, rfl, HY⟩ := hrel
    by_cases hlt : k < n
    · obtain ⟨c, hc⟩ : ∃ c, S[k]? = some c := ⟨_, List.getElem?_eq_getElem (by rw [HN.out]; exact hlt)⟩
      have hidx := fun W => idx_str S k c hc W
      have HE := Lib.hid (numW_take hc)
      have HD := Lib.hid (dig_iff c)
      obtain ⟨m, hm⟩ : ∃ m, c.toNat = m := ⟨_, rfl⟩
      have hm2 : m < 256 := by rw [← hm]; exact c.toNat_lt
      rw [hm] at HE HD
      simp only [hm] at hidx
      clear hm hc
      by_cases h1 : 48 ≤ m
      · by_cases h2 : m ≤ 57
        · have HE2 := Lib.hid (show Cp.numW (S.take (k + 1)) = Cp.w64 (Cp.w64 (10 * y) - ((m : Int) - 48)) by rw [HE.out, if_pos (HD.out.2 ⟨h1, h2⟩), HY.out])
          have g1 : (48 : Int) ≤ (m : Int) := by omega
          have g2 : (m : Int) ≤ 57 := by omega
          go_wp2_with fail
          go_round
          case rel => exact ⟨k + 1, _, by omega, by go_num, rfl, Lib.hid (by rw [HE2.out, w64_is, w64_is])⟩
          case measure => simp [intOf]; omega
        · have HE2 := Lib.hid (show Cp.numW (S.take (k + 1)) = y by rw [HE.out, if_neg (fun h => h2 (HD.out.1 h).2), HY.out])
          have g1 : (48 : Int) ≤ (m : Int) := by omega
          have g2 : ¬ (m : Int) ≤ 57 := by omega
          go_wp2_with fail
          go_round
          case rel => exact ⟨k + 1, y, by omega, by go_num, rfl, Lib.hid (by rw [HE2.out])⟩
          case measure => simp [intOf]; omega
      · have HE2 := Lib.hid (show Cp.numW (S.take (k + 1)) = y by rw [HE.out, if_neg (fun h => h1 (HD.out.1 h).1), HY.out])
        have g1 : ¬ (48 : Int) ≤ (m : Int) := by omega
        go_wp2_with fail
        go_round
        case rel => exact ⟨k + 1, y, by omega, by go_num, rfl, Lib.hid (by rw [HE2.out])⟩
        case measure => simp [intOf]; omega
    · obtain rfl : k = n := by omega
      have HW := Lib.hid (show Cp.numW S = y by rw [HY.out, List.take_of_length_le (by rw [HN.out]; exact Nat.le_refl _)])
      by_cases h0 : k = 0
      · have hz : S = [] := List.length_eq_zero_iff.1 (by rw [HN.out]; exact h0)
        have HR := Lib.hid (show Cp.num S = wrap64 (- y) by unfold Cp.num; rw [HW.out, if_neg (by rw [hz]; simp), w64_is])
        have g1 : ¬ (0 : Int) < (k : Int) := by omega
        clear hz
        go_wp2_with fail
        go_ret
        exact ⟨by rw [HR.out]; rfl, rfl⟩
      · obtain ⟨c, hc⟩ : ∃ c, S[0]? = some c := ⟨_, List.getElem?_eq_getElem (by rw [HN.out]; omega)⟩
        have hget := fun h => str_get (k := 0) hc h
        have g1 : (0 : Int) < (k : Int) := by omega
        have hh : S.head? = some c := by rw [List.head?_eq_getElem?]; exact hc
        by_cases h45 : c = 45
        · have HR := Lib.hid (show Cp.num S = y by unfold Cp.num; rw [HW.out, if_pos (by rw [hh, h45])])
          subst h45
          clear hc hh
          go_wp2_with fail
          go_ret
          exact ⟨by rw [HR.out]; rfl, rfl⟩
        · have HR := Lib.hid (show Cp.num S = wrap64 (- y) by unfold Cp.num; rw [HW.out, if_neg (by rw [hh]; intro e; injection e with e; exact h45 e), w64_is])
          have g2 : ((c.toNat : Int) == 45) = false := by
            rw [beq_eq_false_iff_ne]; intro e; apply h45
            apply UInt8.toNat_inj.1
            have : c.toNat = 45 := by omega
            rw [this]; rfl
          clear hc hh h45
          go_wp2_with fail
          go_ret
          exact ⟨by rw [HR.out]; rfl, rfl⟩
end Go.Proofs.YtejhlenckdkonaaDoor

