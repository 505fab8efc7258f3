/- The document's Steps, May, Name and Walk, by their contracts. -/
import Derived.Test.YtldehegoaofjnaaUWalk
namespace Go.Proofs.Ytldehegoaofjnaa
open Go.RowKit
set_option linter.unusedVariables false

set_option maxHeartbeats 4000000 in
theorem refName_any (s : Int) (w : World) :
    Calls Try.prog 13 #[.int .i64 s] w fun e w' => e = .returned (.string (str (Sp.nm s))) ∧ Below w.heap.size w w' := by
  by_cases h : 0 ≤ s ∧ s ≤ 4
  · have hc : s = 0 ∨ s = 1 ∨ s = 2 ∨ s = 3 ∨ s = 4 := by omega
    rcases hc with rfl | rfl | rfl | rfl | rfl
    all_goals
      go_enter Try.func13, Try.ntmps13
      go_wp2_with fail
      go_ret
      exact ⟨rfl, below_new _ _⟩
  · have HN := Lib.hid (show Sp.nm s = [] from Sp.nm_out h)
    by_cases h1 : s < 0
    · clear h
      go_enter Try.func13, Try.ntmps13
      go_wp2_with fail
      go_ret
      exact ⟨by rw [HN.out]; rfl, below_new _ _⟩
    · have h2 : 4 < s := by omega
      clear h
      go_enter Try.func13, Try.ntmps13
      go_wp2_with fail
      go_ret
      exact ⟨by rw [HN.out]; rfl, below_new _ _⟩
set_option maxHeartbeats 4000000 in
theorem refSteps_any (w : World) :
    Calls Try.prog 17 #[] w fun e w' => e = .returned (.slice (some ⟨w.heap.size, 0, none⟩) 7 7) ∧ VRow w' w'.heap.size (some ⟨w.heap.size, 0, none⟩) Sp.steps ∧ Below w.heap.size w w' := by
  go_enter Try.func17, Try.ntmps17
  go_wp2_with fail
  go_ret
  refine ⟨rfl, ?_, below_new _ _⟩
  intro i x hi
  match i, hi with
  | 0, hi | 1, hi | 2, hi | 3, hi | 4, hi | 5, hi | 6, hi =>
    simp only [Sp.steps, List.getElem?_cons_zero, List.getElem?_cons_succ, Option.some.injEq] at hi
    subst hi
    exact ⟨_, _, rfl, by simp, by rw [World.cell?_alloc_at _ _ _ _ rfl]; rfl, by rw [World.cell?_alloc_at _ _ _ _ rfl]; rfl⟩
  | i + 7, hi => simp [Sp.steps] at hi
set_option maxHeartbeats 4000000 in
theorem refMay_any (a b : Int) (w : World) :
    Calls Try.prog 15 #[.int .i64 a, .int .i64 b] w fun e w' => e = .returned (.bool (Sp.may a b)) ∧ Below w.heap.size w w' := by
  go_enter Try.func15, Try.ntmps15
  go_wp2_with fail
  refine (refSteps_any _).mono ?_
  rintro e w1 ⟨rfl, hr, hb⟩
  have HB1 := Lib.hid hb
  have HR := Lib.hid hr
  clear hr hb
  go_wp2_with fail
  go_loop [6] (fun i => ∃ k : Nat, k ≤ 7 ∧ i = .int .i64 k ∧ Hid (∀ j x, j < k → Sp.steps[j]? = some x → x ≠ (a, b))) (fun i => 7 - (intOf i).toNat)
  case atStart => exact ⟨0, Nat.zero_le _, rfl, Lib.hid (fun j x hj => absurd hj (Nat.not_lt_zero j))⟩
  case round =>
    obtain ⟨k, hk, rfl, HG⟩ := hrel
    by_cases hlt : k < 7
    · obtain ⟨x, hx⟩ : ∃ x, Sp.steps[k]? = some x := ⟨_, List.getElem?_eq_getElem (by simpa [Sp.steps] using hlt)⟩
      obtain ⟨b', off', e, hbl, hc0, hc1⟩ := HR.out k x hx
      injection e with e
      injection e with e1 e2
      subst e1 e2
      rw [Nat.zero_add] at hc0 hc1
      have HX := Lib.hid hx
      clear hx
      by_cases ha : x.1 = a
      · have ta : (x.1 == a) = true := by rw [beq_iff_eq]; exact ha
        by_cases hb' : x.2 = b
        · have tb : (x.2 == b) = true := by rw [beq_iff_eq]; exact hb'
          have HM := Lib.hid (show Sp.may a b = true by
            unfold Sp.may
            rw [List.contains_iff_mem]
            have := List.mem_of_getElem? HX.out
            rwa [show x = (a, b) by rw [← ha, ← hb']] at this)
          clear ha hb'
          go_wp2_with fail
          go_ret
          exact ⟨ret_bool (by rw [HM.out]), HB1.out⟩
        · have tb : (x.2 == b) = false := by rw [beq_eq_false_iff_ne]; exact hb'
          have HG2 := Lib.hid (show ∀ j y, j < k + 1 → Sp.steps[j]? = some y → y ≠ (a, b) by
            intro j y hj hy e
            by_cases ej : j = k
            · subst ej; rw [HX.out] at hy; injection hy with hy; subst hy; exact hb' (by rw [e])
            · exact HG.out j y (by omega) hy e)
          clear ha hb'
          go_wp2_with fail
          go_round
          case rel => exact ⟨k + 1, by omega, by go_num, HG2⟩
          case measure => simp [intOf]; omega
      · have ta : (x.1 == a) = false := by rw [beq_eq_false_iff_ne]; exact ha
        have HG2 := Lib.hid (show ∀ j y, j < k + 1 → Sp.steps[j]? = some y → y ≠ (a, b) by
          intro j y hj hy e
          by_cases ej : j = k
          · subst ej; rw [HX.out] at hy; injection hy with hy; subst hy; exact ha (by rw [e])
          · exact HG.out j y (by omega) hy e)
        clear ha
        go_wp2_with fail
        go_round
        case rel => exact ⟨k + 1, by omega, by go_num, HG2⟩
        case measure => simp [intOf]; omega
    · obtain rfl : k = 7 := by omega
      have HM := Lib.hid (show Sp.may a b = false by
        unfold Sp.may
        rw [← Bool.not_eq_true, List.contains_iff_mem]
        intro h
        obtain ⟨j, hj⟩ := List.mem_iff_getElem?.1 h
        exact HG.out j _ (List.getElem?_eq_some_iff.1 hj).1 hj rfl)
      go_wp2_with fail
      go_ret
      exact ⟨ret_bool (by rw [HM.out]), HB1.out⟩
set_option maxHeartbeats 4000000 in
theorem refWalk_any (A : Option Addr) (n c : Nat) (zs : List Int) (w : World) (h : Row w A n c zs) :
    Calls Try.prog 11 #[.slice A n c] w fun e w' => e = .returned (walkV zs) ∧ Below w.heap.size w w' := by
  have H := Lib.hid h
  have h1 := h.cap
  have h2 := h.most
  have HN := Lib.hid h.len
  clear h
  go_enter Try.func11, Try.ntmps11
  go_wp2_with fail
  go_loopw [4] (fun i wr => ∃ k : Nat, k ≤ n ∧ i = .int .i64 k ∧ Hid (∀ j, j < k → Sp.good zs j = true) ∧ Hid (Below w.heap.size w wr)) (fun i _ => n - (intOf i).toNat)
  case atStart => exact ⟨0, Nat.zero_le _, rfl, Lib.hid (fun j hj => absurd hj (Nat.not_lt_zero j)), Lib.hid (Below.refl _ _)⟩
  case round =>
    obtain ⟨k, hk, rfl, HG, HB⟩ := hrel
    by_cases hlt : k < n
    · obtain ⟨b, off, rfl, hb, hcs⟩ := (H.out.below HB.out).cells (by omega)
      obtain ⟨x, hx⟩ : ∃ x, zs[k]? = some x := ⟨_, List.getElem?_eq_getElem (by rw [HN.out]; exact hlt)⟩
      have hcx := hcs k x hx
      have HLN := Lib.hid (show k < zs.length by rw [HN.out]; exact hlt)
      by_cases h0 : x < 0
      · have HV := Lib.hid (walkV_at HLN.out HG.out (show Sp.good zs k = false by unfold Sp.good; simp only [hx, show Sp.ok x = false by unfold Sp.ok; simp; omega, Bool.false_and]))
        clear hx hcs
        go_wp2_with fail
        refine bodyPost_ret (v := .tuple #[.int .i64 k, .bool false]) (by simp [results, Try.results11, go_sem]) rfl ?_
        exact ⟨by rw [HV.out], HB.out⟩
      · by_cases h4 : 4 < x
        · have HV := Lib.hid (walkV_at HLN.out HG.out (show Sp.good zs k = false by unfold Sp.good; simp only [hx, show Sp.ok x = false by unfold Sp.ok; simp; omega, Bool.false_and]))
          clear hx hcs
          go_wp2_with fail
          refine bodyPost_ret (v := .tuple #[.int .i64 k, .bool false]) (by simp [results, Try.results11, go_sem]) rfl ?_
          exact ⟨by rw [HV.out], HB.out⟩
        · have hok : Sp.ok x = true := Sp.ok_iff.2 (by omega)
          by_cases hl : k + 1 < n
          · obtain ⟨y, hy⟩ : ∃ y, zs[k + 1]? = some y := ⟨_, List.getElem?_eq_getElem (by rw [HN.out]; exact hl)⟩
            have hcy := hcs (k + 1) y hy
            have hg := Sp.good_at hx hy
            rw [hok, Bool.true_and] at hg
            have HGD := Lib.hid hg
            have u1 : IntKind.i64.wrap ((n : Int) - 1) = (n : Int) - 1 := IntWalk.i64_in _ (by omega)
            have u2 : decide ((k : Int) < (n : Int) - 1) = true := decide_eq_true (by omega)
            have u3 : IntKind.i64.wrap ((k : Int) + 1) = (k : Int) + 1 := IntWalk.i64_in _ (by omega)
            have u4 : (0 : Int) ≤ (k : Int) := by omega
            have u5 : (k : Int) < (n : Int) := by omega
            have u6 : (0 : Int) ≤ (k : Int) + 1 := by omega
            have u7 : (k : Int) + 1 < (n : Int) := by omega
            have u8 : ((k : Int) + 1).toNat = k + 1 := by omega
            clear hx hcs hok hy hg
            cases hm : Sp.may x y
            · rw [hm] at HGD
              have HV := Lib.hid (walkV_at HLN.out HG.out HGD.out)
              go_wp2_with fail
              go_region_held3 (fun w' => w'.cell? ⟨b, off + k, none⟩ = some (.int .i64 x) ∧ w'.cell? ⟨b, off + (k + 1), none⟩ = some (.int .i64 y))
                (first | exact ⟨z1, z2⟩ | exact ⟨hcx, hcy⟩ | go_keep)
                ((go_at_call 15; refine (refMay_any x y _).mono ?_; rintro e w4 ⟨rfl, hb4⟩; rw [hm]; (have HB4 := Lib.hid (HB.out.trans ((below_of_drew hb4).mono HB.out.size)); have z1 := keepcell_drew hb4 hcx; have z2 := keepcell_drew hb4 hcy)))
              clear hm hb4
              go_wp2_with fail
              refine bodyPost_ret (v := .tuple #[.int .i64 k, .bool false]) (by simp [results, Try.results11, go_sem]) rfl ?_
              exact ⟨by rw [HV.out], HB4.out⟩
            · rw [hm] at HGD
              go_wp2_with fail
              go_region_held3 (fun w' => w'.cell? ⟨b, off + k, none⟩ = some (.int .i64 x) ∧ w'.cell? ⟨b, off + (k + 1), none⟩ = some (.int .i64 y))
                (first | exact ⟨z1, z2⟩ | exact ⟨hcx, hcy⟩ | go_keep)
                ((go_at_call 15; refine (refMay_any x y _).mono ?_; rintro e w4 ⟨rfl, hb4⟩; rw [hm]; (have HB4 := Lib.hid (HB.out.trans ((below_of_drew hb4).mono HB.out.size)); have z1 := keepcell_drew hb4 hcx; have z2 := keepcell_drew hb4 hcy)))
              clear hm hb4
              go_wp2_with fail
              go_roundw
              case rel => exact ⟨k + 1, by omega, by go_num, Lib.hid (good_more HG.out HGD.out), HB4⟩
              case measure => simp [intOf]; omega
          · have hy : zs[k + 1]? = none := List.getElem?_eq_none (by rw [HN.out]; omega)
            have hg := Sp.good_last hx hy
            rw [hok] at hg
            have HGD := Lib.hid hg
            have u1 : IntKind.i64.wrap ((n : Int) - 1) = (n : Int) - 1 := IntWalk.i64_in _ (by omega)
            have u2 : decide ((k : Int) < (n : Int) - 1) = false := decide_eq_false (by omega)
            clear hx hcs hok hy hg
            go_wp2_with fail
            go_quiet (fail)
            go_wp2_with fail
            go_roundw
            case rel => exact ⟨k + 1, by omega, by go_num, Lib.hid (good_more HG.out HGD.out), Lib.hid (below_drewN HB.out _)⟩
            case measure => simp [intOf]; omega
    · obtain rfl : k = n := by omega
      have HV := Lib.hid (walkV_end HN.out HG.out)
      go_wp2_with fail
      refine bodyPost_ret (v := .tuple #[.int .i64 k, .bool true]) (by simp [results, Try.results11, go_sem]) rfl ?_
      exact ⟨by rw [HV.out], HB.out⟩
end Go.Proofs.Ytldehegoaofjnaa

