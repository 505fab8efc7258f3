/- The document's comparison of bags, by its contract. -/
import Derived.Test.YthbofkhlbkdboaaRRow
namespace Go.Proofs.Ythbofkhlbkdboaa
open Go.RowKit
set_option linter.unusedVariables false

/-- How often z is among the first k of a more often than among those of b. -/
def dif (a b : List Int) (z : Int) (k : Nat) : Int := ((a.take k).count z : Int) - ((b.take k).count z : Int)
theorem dif_zero (a b : List Int) (z : Int) : dif a b z 0 = 0 := by unfold dif; simp
theorem dif_le {a b : List Int} {z : Int} {k : Nat} : -(k : Int) ≤ dif a b z k ∧ dif a b z k ≤ k := by
  unfold dif
  have h1 := List.count_le_length (a := z) (l := a.take k)
  have h2 := List.count_le_length (a := z) (l := b.take k)
  rw [List.length_take] at h1 h2
  omega
theorem dif_all {a b : List Int} {z : Int} {k : Nat} (hp : a.Perm b) (ha : a.length = k) : dif a b z k = 0 := by
  unfold dif
  have hb : b.length = k := by rw [← hp.length_eq]; exact ha
  rw [List.take_of_length_le (by omega), List.take_of_length_le (by omega), hp.count_eq z]
  omega
theorem dif_step {a b : List Int} {z x y : Int} {k : Nat} (ha : a[k]? = some x) (hb : b[k]? = some y) : dif a b z (k + 1) = dif a b z k + (if x = z then 1 else 0) - (if y = z then 1 else 0) := by
  unfold dif
  rw [List.take_add_one, ha, List.take_add_one, hb, List.count_append, List.count_append]
  simp only [Option.toList, List.count_cons, List.count_nil, beq_iff_eq]
  split <;> split <;> omega
set_option maxHeartbeats 1600000 in
theorem bag_any (A B : Option Addr) (n c d : Nat) (a b : List Int) (w : World) (hp : Hid (a.Perm b)) (h : Row w A n c a) (hB : Row w B n d b) (hn : n ≤ 1000000) :
    Calls Try.prog 28 #[.slice A n c, .slice B n d] w fun e w' => e = .returned (.bool true) ∧ Below w.heap.size w w' := by
  have H := Lib.hid h
  have HB := Lib.hid hB
  have la := h.len
  have lb := hB.len
  clear h hB
  go_enter Try.func28, Try.ntmps28
  go_wp2_with fail
  go_loopw [5] (fun i wr => ∃ k : Nat, k ≤ n ∧ i = .int .i64 k ∧ Hid (Below w.heap.size w wr)) (fun i _ => n - (intOf i).toNat)
  case atStart => exact ⟨0, Nat.zero_le _, rfl, Lib.hid (Below.refl _ _)⟩
  case round =>
    obtain ⟨i, hi, rfl, HW⟩ := hrel
    by_cases hlt : i < n
    · obtain ⟨z, hzi⟩ : ∃ z, a[i]? = some z := ⟨_, List.getElem?_eq_getElem (by omega)⟩
      obtain ⟨b1, o1, rfl, hb1, hc1⟩ := H.out.cells (by omega)
      obtain ⟨b2, o2, rfl, hb2, hc2⟩ := HB.out.cells (by omega)
      have HZ := Lib.hid (hc1 i z hzi)
      have HC1 := Lib.hid hc1
      have HC2 := Lib.hid hc2
      have i0 : (0 : Int) ≤ (i : Int) := by omega
      have i1 : (i : Int) < (n : Int) := by omega
      clear hc1 hc2 hzi
      obtain ⟨wo, rfl⟩ : ∃ wo : World, wo = wr := ⟨_, rfl⟩
      go_wp2_with fail
      go_loopw [6, 7] (fun m j wr => ∃ k : Nat, k ≤ n ∧ j = .int .i64 k ∧ m = .int .i64 (dif a b z k) ∧ Hid (Below w.heap.size w wr)) (fun _ j _ => n - (intOf j).toNat)
      case atStart => exact ⟨0, Nat.zero_le _, rfl, by rw [dif_zero], HW⟩
      case round =>
        obtain ⟨k, hk, rfl, rfl, HV⟩ := hrel
        by_cases hlt2 : k < n
        · obtain ⟨x, hx⟩ : ∃ x, a[k]? = some x := ⟨_, List.getElem?_eq_getElem (by omega)⟩
          obtain ⟨y, hy⟩ : ∃ y, b[k]? = some y := ⟨_, List.getElem?_eq_getElem (by omega)⟩
          have e1 := keepcell HV.out HZ.out
          have e2 := keepcell HV.out (HC1.out k x hx)
          have e3 := keepcell HV.out (HC2.out k y hy)
          have k0 : (0 : Int) ≤ (k : Int) := by omega
          have k1 : (k : Int) < (n : Int) := by omega
          have HS := Lib.hid (dif_step (z := z) hx hy)
          have hd := dif_le (a := a) (b := b) (z := z) (k := k)
          obtain ⟨m, hm⟩ : ∃ m, m = dif a b z k := ⟨_, rfl⟩
          rw [← hm] at HS hd ⊢
          have hm1 : -1000000 ≤ m := by omega
          have hm2 : m ≤ 1000000 := by omega
          have w1 : IntKind.i64.wrap (m + 1) = m + 1 := IntWalk.i64_in _ (by omega)
          have w2 : IntKind.i64.wrap (m - 1) = m - 1 := IntWalk.i64_in _ (by omega)
          have w3 : IntKind.i64.wrap (m + 1 - 1) = m + 1 - 1 := IntWalk.i64_in _ (by omega)
          clear hx hy hm hd
          by_cases hxz : x = z
          · have t1 : (x == z) = true := by rw [beq_iff_eq]; exact hxz
            by_cases hyz : y = z
            · have t2 : (y == z) = true := by rw [beq_iff_eq]; exact hyz
              have HT := Lib.hid (show m + 1 - 1 = dif a b z (k + 1) by rw [HS.out, if_pos hxz, if_pos hyz])
              clear hxz hyz HS
              go_wp2_with fail
              go_quiet (fail)
              go_wp2_with fail
              go_quiet (fail)
              go_wp2_with fail
              go_roundw
              case rel => exact ⟨k + 1, by omega, by go_num, by rw [← HT.out]; congr 1; omega, Lib.hid (below_drewN HV.out _)⟩
              case measure => simp [intOf]; omega
            · have t2 : (y == z) = false := by rw [beq_eq_false_iff_ne]; exact hyz
              have HT := Lib.hid (show m + 1 = dif a b z (k + 1) by rw [HS.out, if_pos hxz, if_neg hyz]; omega)
              clear hxz hyz HS
              go_wp2_with fail
              go_quiet (fail)
              go_wp2_with fail
              go_quiet (fail)
              go_wp2_with fail
              go_roundw
              case rel => exact ⟨k + 1, by omega, by go_num, by rw [← HT.out], Lib.hid (below_drewN HV.out _)⟩
              case measure => simp [intOf]; omega
          · have t1 : (x == z) = false := by rw [beq_eq_false_iff_ne]; exact hxz
            by_cases hyz : y = z
            · have t2 : (y == z) = true := by rw [beq_iff_eq]; exact hyz
              have HT := Lib.hid (show m - 1 = dif a b z (k + 1) by rw [HS.out, if_neg hxz, if_pos hyz]; omega)
              clear hxz hyz HS
              go_wp2_with fail
              go_quiet (fail)
              go_wp2_with fail
              go_quiet (fail)
              go_wp2_with fail
              go_roundw
              case rel => exact ⟨k + 1, by omega, by go_num, by rw [← HT.out], Lib.hid (below_drewN HV.out _)⟩
              case measure => simp [intOf]; omega
            · have t2 : (y == z) = false := by rw [beq_eq_false_iff_ne]; exact hyz
              have HT := Lib.hid (show m = dif a b z (k + 1) by rw [HS.out, if_neg hxz, if_neg hyz]; omega)
              clear hxz hyz HS
              go_wp2_with fail
              go_quiet (fail)
              go_wp2_with fail
              go_quiet (fail)
              go_wp2_with fail
              go_roundw
              case rel => exact ⟨k + 1, by omega, by go_num, by rw [← HT.out], Lib.hid (below_drewN HV.out _)⟩
              case measure => simp [intOf]; omega
        · have hkn : k = n := by omega
          subst hkn
          rw [dif_all hp.out la]
          go_wp2_with fail
          go_roundw
          case rel => exact ⟨i + 1, by omega, by go_num, HV⟩
          case measure => simp [intOf]; omega
    · go_wp2_with fail
      go_ret
      exact ⟨rfl, HW.out⟩
end Go.Proofs.Ythbofkhlbkdboaa

