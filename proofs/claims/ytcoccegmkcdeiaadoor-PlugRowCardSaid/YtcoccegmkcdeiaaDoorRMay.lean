/- ring.May, by its contract. -/
import Derived.Test.YtcoccegmkcdeiaaDoorRSort
import Derived.Test.YtcoccegmkcdeiaaDoorM1
namespace Go.Proofs.YtcoccegmkcdeiaaDoor
open Go.RowKit Go.Sort
set_option linter.unusedVariables false

theorem sz_max (s : Int) : (s < 2 → Rp.sz s = 2) ∧ (s = 2 → Rp.sz s = 2) ∧ (2 < s → (Rp.sz s : Int) = s) := ⟨fun h => Rp.sz_low h, fun h => by subst h; rfl, fun h => Rp.sz_high (by omega)⟩
theorem int_eq_dec (a b : Nat) : ((a : Int) == (b : Int)) = decide (a = b) := by
  rw [Bool.eq_iff_iff, beq_iff_eq, decide_eq_true_iff]
  omega
set_option maxHeartbeats 1600000 in
theorem may_any (x : Int) (A : Option Addr) (n c : Nat) (zs : List Int) (s : Int) (w : World) (h : Row w A n c zs) (hn : n ≤ 100000) :
    Calls Tryd.prog 74 #[.agg #[.int .i64 x, .slice A n c], .int .i64 s] w fun e w' => e = .returned (.bool (Rp.may (x, zs) s)) ∧ Below w.heap.size w w' := by
  have hlen := h.len
  have H := Lib.hid h
  have hb0 := Lib.hid (below_new w (.cells #[.int .i64 x, .slice A n c] 45))
  obtain ⟨l, hl⟩ : ∃ l, l = Rp.all (x, zs) := ⟨_, rfl⟩
  have hll : l.length ≤ 100001 := by rw [hl]; have := Rp.all_length (x, zs); simp only at this; omega
  have HL := Lib.hid hl
  have HM := Lib.hid (show Rp.may (x, zs) s = (decide (zs.length ≤ Rp.sz s) && decide (Rp.Once l)) by rw [hl]; rfl)
  clear hl h
  rcases Int.lt_trichotomy s 2 with hs | hs | hs
  · have hz : Rp.sz s = 2 := Rp.sz_low hs
    by_cases hlt : 2 < n
    · have HF := Lib.hid (show Rp.may (x, zs) s = false by rw [HM.out, hz, Bool.and_eq_false_iff]; left; rw [decide_eq_false_iff_not]; omega)
      have t1 : (2 : Int) < (n : Int) := by omega
      go_enter Tryd.func74, Tryd.ntmps74
      go_wp2_with fail
      go_ret
      exact ⟨ret_bool HF.out.symm, hb0.out⟩
    · have t1 : ¬ (2 : Int) < (n : Int) := by omega
      go_enter Tryd.func74, Tryd.ntmps74
      go_wp2_with fail
      refine (all_own x A n c zs _ (H.out.below hb0.out) hn).mono ?_
      rintro e w1 ⟨v1, n1, rfl, ho1, hb1⟩
      rw [← HL.out] at ho1
      have hl1 := own_len ho1
      have hbe1 := Lib.hid (hb0.out.trans (hb1.mono hb0.out.size))
      have hsz1 : w.heap.size ≤ (w.alloc (.cells #[.int .i64 x, .slice A n c] 45)).heap.size := by simp
      have O1 := Lib.hid (own_base' ho1 hsz1)
      clear hb1 hsz1 ho1
      by_cases h0 : n1 = 0
      · subst h0
        have hnil : l = [] := List.length_eq_zero_iff.1 hl1
        have HF := Lib.hid (show Rp.may (x, zs) s = true by rw [HM.out, hnil]; exact Bool.and_eq_true_iff.2 ⟨by rw [decide_eq_true_iff]; omega, by decide⟩)
        obtain ⟨A1, c1, hv⟩ := own_form O1.out
        subst hv
        go_wp2_with fail
        refine (Any.slices_Sort_int_none (P := Tryd.prog) laysSort A1 c1 _).mono ?_
        rintro e w2 ⟨rfl, rfl⟩
        go_wp2_with fail
        go_ret
        exact ⟨ret_bool HF.out.symm, hbe1.out⟩
      · obtain ⟨g, cap, hv, hbg, hlg, hnc, hcm, _, _⟩ := Lib.holds_of_ownsRow O1.out (by
          intro e
          rcases O1.out.2 with ⟨_, h9⟩ | ⟨g9, c9, cur9, e9, _⟩
          · exact h0 h9
          · rw [e9] at e; cases e)
        subst hv
        obtain ⟨z, hz⟩ : ∃ z, (sorted l)[0]? = some z := ⟨_, List.getElem?_eq_getElem (by rw [sorted_length]; omega)⟩
        have HF := Lib.hid (show Rp.may (x, zs) s = (decide (0 < z) && decide ((Lib.compact (sorted l)).length = n1)) by
          have h9 := once_sorted l z hz
          rw [hl1] at h9
          rw [h9, HM.out, show decide (zs.length ≤ Rp.sz s) = true by rw [decide_eq_true_iff]; omega, Bool.true_and])
        have HZ := Lib.hid hz
        clear hz
        go_wp2_with fail
        refine (sort_own g n1 cap l _ w.heap.size O1.out (by omega)).mono ?_
        rintro e w2 ⟨rfl, hH2, hlg2, hb2⟩
        have hbe2 := Lib.hid (hbe1.out.trans hb2)
        have hc2 : w2.cell? ⟨g, 0, none⟩ = some (.int .i64 z) := by
          have h8 := (hH2 0 (by simp [sorted_length]; omega)).1
          rw [show (sorted l).toArray[0]! = z from by
            obtain ⟨h7, e7⟩ := List.getElem?_eq_some_iff.1 HZ.out
            rw [getElem!_pos _ _ (by simpa using h7)]
            simpa using e7] at h8
          simpa using h8
        have HH := Lib.hid hH2
        have n0 : ((n1 : Int) == 0) = false := by rw [beq_eq_false_iff_ne]; omega
        have n3 : 0 < n1 := by omega
        clear hH2 hb2
        by_cases hp : 0 < z
        · have p1 : decide (0 < z) = true := by simpa using hp
          go_wp2_with fail
          refine (compact_own g n1 cap (sorted l) _ (by rw [sorted_length]; exact hl1) HH.out (by omega) (by omega)).mono ?_
          rintro e w3 ⟨rfl, hb3⟩
          have hbe3 := Lib.hid (hbe2.out.trans (hb3 _ hbg))
          obtain ⟨q, hq⟩ : ∃ q, q = (Lib.compact (sorted l)).length := ⟨_, rfl⟩
          rw [p1, Bool.true_and, ← hq] at HF
          rw [← hq]
          clear hq hb3
          go_wp2_with fail
          go_ret
          exact ⟨ret_bool (by rw [HF.out]; exact int_eq_dec q n1), hbe3.out⟩
        · have p1 : decide (0 < z) = false := by simpa using hp
          rw [p1, Bool.false_and] at HF
          go_wp2_with fail
          go_ret
          exact ⟨ret_bool HF.out.symm, hbe2.out⟩
  · subst hs
    have hz : Rp.sz 2 = 2 := rfl
    by_cases hlt : 2 < n
    · have HF := Lib.hid (show Rp.may (x, zs) 2 = false by rw [HM.out, hz, Bool.and_eq_false_iff]; left; rw [decide_eq_false_iff_not]; omega)
      have t1 : (2 : Int) < (n : Int) := by omega
      go_enter Tryd.func74, Tryd.ntmps74
      go_wp2_with fail
      go_ret
      exact ⟨ret_bool HF.out.symm, hb0.out⟩
    · have t1 : ¬ (2 : Int) < (n : Int) := by omega
      go_enter Tryd.func74, Tryd.ntmps74
      go_wp2_with fail
      refine (all_own x A n c zs _ (H.out.below hb0.out) hn).mono ?_
      rintro e w1 ⟨v1, n1, rfl, ho1, hb1⟩
      rw [← HL.out] at ho1
      have hl1 := own_len ho1
      have hbe1 := Lib.hid (hb0.out.trans (hb1.mono hb0.out.size))
      have hsz1 : w.heap.size ≤ (w.alloc (.cells #[.int .i64 x, .slice A n c] 45)).heap.size := by simp
      have O1 := Lib.hid (own_base' ho1 hsz1)
      clear hb1 hsz1 ho1
      by_cases h0 : n1 = 0
      · subst h0
        have hnil : l = [] := List.length_eq_zero_iff.1 hl1
        have HF := Lib.hid (show Rp.may (x, zs) 2 = true by rw [HM.out, hnil]; exact Bool.and_eq_true_iff.2 ⟨by rw [decide_eq_true_iff]; omega, by decide⟩)
        obtain ⟨A1, c1, hv⟩ := own_form O1.out
        subst hv
        go_wp2_with fail
        refine (Any.slices_Sort_int_none (P := Tryd.prog) laysSort A1 c1 _).mono ?_
        rintro e w2 ⟨rfl, rfl⟩
        go_wp2_with fail
        go_ret
        exact ⟨ret_bool HF.out.symm, hbe1.out⟩
      · obtain ⟨g, cap, hv, hbg, hlg, hnc, hcm, _, _⟩ := Lib.holds_of_ownsRow O1.out (by
          intro e
          rcases O1.out.2 with ⟨_, h9⟩ | ⟨g9, c9, cur9, e9, _⟩
          · exact h0 h9
          · rw [e9] at e; cases e)
        subst hv
        obtain ⟨z, hz⟩ : ∃ z, (sorted l)[0]? = some z := ⟨_, List.getElem?_eq_getElem (by rw [sorted_length]; omega)⟩
        have HF := Lib.hid (show Rp.may (x, zs) 2 = (decide (0 < z) && decide ((Lib.compact (sorted l)).length = n1)) by
          have h9 := once_sorted l z hz
          rw [hl1] at h9
          rw [h9, HM.out, show decide (zs.length ≤ Rp.sz 2) = true by rw [decide_eq_true_iff]; omega, Bool.true_and])
        have HZ := Lib.hid hz
        clear hz
        go_wp2_with fail
        refine (sort_own g n1 cap l _ w.heap.size O1.out (by omega)).mono ?_
        rintro e w2 ⟨rfl, hH2, hlg2, hb2⟩
        have hbe2 := Lib.hid (hbe1.out.trans hb2)
        have hc2 : w2.cell? ⟨g, 0, none⟩ = some (.int .i64 z) := by
          have h8 := (hH2 0 (by simp [sorted_length]; omega)).1
          rw [show (sorted l).toArray[0]! = z from by
            obtain ⟨h7, e7⟩ := List.getElem?_eq_some_iff.1 HZ.out
            rw [getElem!_pos _ _ (by simpa using h7)]
            simpa using e7] at h8
          simpa using h8
        have HH := Lib.hid hH2
        have n0 : ((n1 : Int) == 0) = false := by rw [beq_eq_false_iff_ne]; omega
        have n3 : 0 < n1 := by omega
        clear hH2 hb2
        by_cases hp : 0 < z
        · have p1 : decide (0 < z) = true := by simpa using hp
          go_wp2_with fail
          refine (compact_own g n1 cap (sorted l) _ (by rw [sorted_length]; exact hl1) HH.out (by omega) (by omega)).mono ?_
          rintro e w3 ⟨rfl, hb3⟩
          have hbe3 := Lib.hid (hbe2.out.trans (hb3 _ hbg))
          obtain ⟨q, hq⟩ : ∃ q, q = (Lib.compact (sorted l)).length := ⟨_, rfl⟩
          rw [p1, Bool.true_and, ← hq] at HF
          rw [← hq]
          clear hq hb3
          go_wp2_with fail
          go_ret
          exact ⟨ret_bool (by rw [HF.out]; exact int_eq_dec q n1), hbe3.out⟩
        · have p1 : decide (0 < z) = false := by simpa using hp
          rw [p1, Bool.false_and] at HF
          go_wp2_with fail
          go_ret
          exact ⟨ret_bool HF.out.symm, hbe2.out⟩
  · obtain ⟨m, rfl⟩ := Int.eq_ofNat_of_zero_le (show 0 ≤ s by omega)
    have hz : Rp.sz (m : Int) = m := Rp.sz_nat m (by omega)
    by_cases hlt : m < n
    · have HF := Lib.hid (show Rp.may (x, zs) m = false by rw [HM.out, hz, Bool.and_eq_false_iff]; left; rw [decide_eq_false_iff_not]; omega)
      have t1 : (m : Int) < (n : Int) := by omega
      go_enter Tryd.func74, Tryd.ntmps74
      go_wp2_with fail
      go_ret
      exact ⟨ret_bool HF.out.symm, hb0.out⟩
    · have t1 : ¬ (m : Int) < (n : Int) := by omega
      go_enter Tryd.func74, Tryd.ntmps74
      go_wp2_with fail
      refine (all_own x A n c zs _ (H.out.below hb0.out) hn).mono ?_
      rintro e w1 ⟨v1, n1, rfl, ho1, hb1⟩
      rw [← HL.out] at ho1
      have hl1 := own_len ho1
      have hbe1 := Lib.hid (hb0.out.trans (hb1.mono hb0.out.size))
      have hsz1 : w.heap.size ≤ (w.alloc (.cells #[.int .i64 x, .slice A n c] 45)).heap.size := by simp
      have O1 := Lib.hid (own_base' ho1 hsz1)
      clear hb1 hsz1 ho1
      by_cases h0 : n1 = 0
      · subst h0
        have hnil : l = [] := List.length_eq_zero_iff.1 hl1
        have HF := Lib.hid (show Rp.may (x, zs) m = true by rw [HM.out, hnil]; exact Bool.and_eq_true_iff.2 ⟨by rw [decide_eq_true_iff]; omega, by decide⟩)
        obtain ⟨A1, c1, hv⟩ := own_form O1.out
        subst hv
        go_wp2_with fail
        refine (Any.slices_Sort_int_none (P := Tryd.prog) laysSort A1 c1 _).mono ?_
        rintro e w2 ⟨rfl, rfl⟩
        go_wp2_with fail
        go_ret
        exact ⟨ret_bool HF.out.symm, hbe1.out⟩
      · obtain ⟨g, cap, hv, hbg, hlg, hnc, hcm, _, _⟩ := Lib.holds_of_ownsRow O1.out (by
          intro e
          rcases O1.out.2 with ⟨_, h9⟩ | ⟨g9, c9, cur9, e9, _⟩
          · exact h0 h9
          · rw [e9] at e; cases e)
        subst hv
        obtain ⟨z, hz⟩ : ∃ z, (sorted l)[0]? = some z := ⟨_, List.getElem?_eq_getElem (by rw [sorted_length]; omega)⟩
        have HF := Lib.hid (show Rp.may (x, zs) m = (decide (0 < z) && decide ((Lib.compact (sorted l)).length = n1)) by
          have h9 := once_sorted l z hz
          rw [hl1] at h9
          rw [h9, HM.out, show decide (zs.length ≤ Rp.sz m) = true by rw [decide_eq_true_iff]; omega, Bool.true_and])
        have HZ := Lib.hid hz
        clear hz
        go_wp2_with fail
        refine (sort_own g n1 cap l _ w.heap.size O1.out (by omega)).mono ?_
        rintro e w2 ⟨rfl, hH2, hlg2, hb2⟩
        have hbe2 := Lib.hid (hbe1.out.trans hb2)
        have hc2 : w2.cell? ⟨g, 0, none⟩ = some (.int .i64 z) := by
          have h8 := (hH2 0 (by simp [sorted_length]; omega)).1
          rw [show (sorted l).toArray[0]! = z from by
            obtain ⟨h7, e7⟩ := List.getElem?_eq_some_iff.1 HZ.out
            rw [getElem!_pos _ _ (by simpa using h7)]
            simpa using e7] at h8
          simpa using h8
        have HH := Lib.hid hH2
        have n0 : ((n1 : Int) == 0) = false := by rw [beq_eq_false_iff_ne]; omega
        have n3 : 0 < n1 := by omega
        clear hH2 hb2
        by_cases hp : 0 < z
        · have p1 : decide (0 < z) = true := by simpa using hp
          go_wp2_with fail
          refine (compact_own g n1 cap (sorted l) _ (by rw [sorted_length]; exact hl1) HH.out (by omega) (by omega)).mono ?_
          rintro e w3 ⟨rfl, hb3⟩
          have hbe3 := Lib.hid (hbe2.out.trans (hb3 _ hbg))
          obtain ⟨q, hq⟩ : ∃ q, q = (Lib.compact (sorted l)).length := ⟨_, rfl⟩
          rw [p1, Bool.true_and, ← hq] at HF
          rw [← hq]
          clear hq hb3
          go_wp2_with fail
          go_ret
          exact ⟨ret_bool (by rw [HF.out]; exact int_eq_dec q n1), hbe3.out⟩
        · have p1 : decide (0 < z) = false := by simpa using hp
          rw [p1, Bool.false_and] at HF
          go_wp2_with fail
          go_ret
          exact ⟨ret_bool HF.out.symm, hbe2.out⟩
end Go.Proofs.YtcoccegmkcdeiaaDoor

