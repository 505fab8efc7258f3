/- The landed status' Walk, by its contract. -/
import Derived.Test.YtldehegoaofjnaaUMay
namespace Go.Proofs.Ytldehegoaofjnaa
open Go.RowKit
set_option linter.unusedVariables false

theorem str_list (s : List UInt8) : (str s).toList = s := ByteArray.toList_mk s
theorem str_some {s : List UInt8} (h : s ≠ []) : (str s).toList.isEmpty = false := by
  rw [str_list]; cases s with
  | nil => exact absurd rfl h
  | cons _ _ => rfl
theorem str_none : (str []).toList.isEmpty = true := by rw [str_list]; rfl
theorem str_cmp (a b : List UInt8) : ((str a).toList == (str b).toList) = decide (a = b) := by
  rw [str_list, str_list, Bool.eq_iff_iff, beq_iff_eq, decide_eq_true_eq]
/-- Is it empty? -/
theorem nm_empty (s : Int) : (str (Sp.nm s)).toList.isEmpty = !Sp.ok s := by
  rw [← Sp.nm_ok, str_list]
  cases Sp.nm s <;> simp
/-- What Walk answers of a row. -/
def walkV (zs : List Int) : Value := .tuple #[.int .i64 (Sp.stop zs : Nat), .bool (Sp.whole zs)]
theorem walkV_at {zs : List Int} {k : Nat} (hk : k < zs.length) (h : ∀ j, j < k → Sp.good zs j = true) (hb : Sp.good zs k = false) : walkV zs = .tuple #[.int .i64 (k : Nat), .bool false] := by
  have e := Sp.stop_eq (Nat.le_of_lt hk) h (fun _ => hb)
  unfold walkV Sp.whole
  rw [e, decide_eq_false (by omega)]
theorem walkV_end {zs : List Int} {n : Nat} (hn : zs.length = n) (h : ∀ j, j < n → Sp.good zs j = true) : walkV zs = .tuple #[.int .i64 (n : Nat), .bool true] := by
  have e := Sp.stop_eq (Nat.le_of_eq hn.symm) h (fun hl => absurd hl (by omega))
  unfold walkV Sp.whole
  rw [e, decide_eq_true hn.symm]
theorem good_more {zs : List Int} {k : Nat} (h : ∀ j, j < k → Sp.good zs j = true) (hk : Sp.good zs k = true) : ∀ j, j < k + 1 → Sp.good zs j = true := fun j hj => by
  by_cases e : j = k
  · rw [e]; exact hk
  · exact h j (by omega)
set_option maxHeartbeats 4000000 in
theorem walk_any (A : Option Addr) (n c : Nat) (zs : List Int) (w : World) (h : Row w A n c zs) :
    Calls Try.prog 10 #[.slice A n c] w fun e w' => e = .returned (walkV zs) ∧ w' = w := by
  have H := Lib.hid h
  have h1 := h.cap
  have h2 := h.most
  have HN := Lib.hid h.len
  clear h
  go_enter Try.func10, Try.ntmps10
  go_wp2_with fail
  go_loop [8] (fun i => ∃ k : Nat, k ≤ n ∧ i = .int .i64 k ∧ Hid (∀ j, j < k → Sp.good zs j = true)) (fun i => n - (intOf i).toNat)
  case atStart => exact ⟨0, Nat.zero_le _, rfl, Lib.hid (fun j hj => absurd hj (Nat.not_lt_zero j))⟩
  case round =>
    obtain ⟨k, hk, rfl, HG⟩ := hrel
    by_cases hlt : k < n
    · obtain ⟨b, off, rfl, hb, hcs⟩ := H.out.cells (by omega)
      obtain ⟨x, hx⟩ : ∃ x, zs[k]? = some x := ⟨_, List.getElem?_eq_getElem (by rw [HN.out]; exact hlt)⟩
      have hcx := hcs k x hx
      have HE := Lib.hid (nm_empty x)
      cases hok : Sp.ok x
      · have HV := Lib.hid (walkV_at (by rw [HN.out]; exact hlt) HG.out (show Sp.good zs k = false by unfold Sp.good; simp only [hx, hok, Bool.false_and]))
        rw [hok] at HE
        have he : (str (Sp.nm x)).toList.isEmpty = true := HE.out
        clear hx hcs hok HE
        go_wp2_with fail
        refine (name_any x _).mono ?_
        rintro e w2 ⟨rfl, rfl⟩
        go_wp2_with fail
        refine bodyPost_ret (v := .tuple #[.int .i64 k, .bool false]) (by simp [results, Try.results10, go_sem]) rfl ?_
        exact ⟨by rw [HV.out], rfl⟩
      · rw [hok] at HE
        have he : (str (Sp.nm x)).toList.isEmpty = false := HE.out
        by_cases hl : k + 1 < n
        · obtain ⟨y, hy⟩ : ∃ y, zs[k + 1]? = some y := ⟨_, List.getElem?_eq_getElem (by rw [HN.out]; exact hl)⟩
          have hcy := hcs (k + 1) y hy
          have hg := Sp.good_at hx hy
          rw [hok, Bool.true_and] at hg
          have HGD := Lib.hid hg
          have g1 : (k : Int) + 1 < (n : Int) := by omega
          have HLN := Lib.hid (show k < zs.length by rw [HN.out]; exact hlt)
          clear hx hcs hok HE hy hg
          go_wp2_with fail
          refine (name_any x _).mono ?_
          rintro e w2 ⟨rfl, rfl⟩
          go_wp2_with fail
          refine (may_any x y _).mono ?_
          rintro e w2 ⟨rfl, rfl⟩
          cases hm : Sp.may x y
          · rw [hm] at HGD
            have HV := Lib.hid (walkV_at HLN.out HG.out HGD.out)
            go_wp2_with fail
            refine bodyPost_ret (v := .tuple #[.int .i64 k, .bool false]) (by simp [results, Try.results10, go_sem]) rfl ?_
            exact ⟨by rw [HV.out], rfl⟩
          · rw [hm] at HGD
            go_wp2_with fail
            go_round
            case rel => exact ⟨k + 1, by omega, by go_num, Lib.hid (good_more HG.out HGD.out)⟩
            case measure => simp [intOf]; omega
        · have hy : zs[k + 1]? = none := List.getElem?_eq_none (by rw [HN.out]; omega)
          have hg := Sp.good_last hx hy
          rw [hok] at hg
          have HGD := Lib.hid hg
          have g1 : ¬ (k : Int) + 1 < (n : Int) := by omega
          clear hx hcs hok HE hy hg
          go_wp2_with fail
          refine (name_any x _).mono ?_
          rintro e w2 ⟨rfl, rfl⟩
          go_wp2_with fail
          go_round
          case rel => exact ⟨k + 1, by omega, by go_num, Lib.hid (good_more HG.out HGD.out)⟩
          case measure => simp [intOf]; omega
    · obtain rfl : k = n := by omega
      have HV := Lib.hid (walkV_end HN.out HG.out)
      go_wp2_with fail
      refine bodyPost_ret (v := .tuple #[.int .i64 k, .bool true]) (by simp [results, Try.results10, go_sem]) rfl ?_
      exact ⟨by rw [HV.out], rfl⟩
end Go.Proofs.Ytldehegoaofjnaa

