/- sem.May, by its contract: the row sorted, and the first that is not above the one ahead. -/
import Derived.Test.YtlcgadcbeoljbaaSRefMay
import Derived.Test.YtlcgadcbeoljbaaRSort
namespace Go.Proofs.Ytlcgadcbeoljbaa
open Go.RowKit Go.Sort
set_option linter.unusedVariables false

/-- The test: is one not above the one ahead? The one ahead is written anew. -/
theorem test_any (z a : Int) (b : Nat) (w : World) (hc : w.cell? ⟨b, 0, none⟩ = some (.int .i64 a)) (hf : w.frozen? ⟨b, 0, none⟩ = false) :
    Calls Try.prog 20 #[.int .i64 z, .pointer (some ⟨b, 0, none⟩)] w fun e w' => e = .returned (.bool (decide (z ≤ a))) ∧ w' = w.setCell ⟨b, 0, none⟩ (.int .i64 z) := by
  go_enter Try.func20, Try.ntmps20
  go_wp2_with fail
  go_ret
  exact ⟨rfl, rfl⟩
theorem Row.far {W : World} {X n c : Nat} {A : Option Addr} {zs : List Int} {u : Value} (h : Row W A n c zs) (ha : ∀ ad, A = some ad → ad.block ≠ X) : Row (W.setCell ⟨X, 0, Option.none⟩ u) A n c zs := by
  refine ⟨h.len, h.cap, h.most, h.nil, fun i z hi => ?_⟩
  obtain ⟨b, off, e, hb, hc⟩ := h.row i z hi
  have hne := ha _ e
  simp only at hne
  exact ⟨b, off, e, by simpa [World.setCell] using hb, (World.cell?_setCell_other _ _ _ _ (fun e => by injection e with e; omega)).trans hc⟩
set_option maxHeartbeats 1600000 in
/-- The first that is not above the one ahead: is there one? -/
theorem first_rise (A : Option Addr) (n c : Nat) (zs : List Int) (b : Nat) (w : World) (h : Row w A n c zs) (hne : Hid (∀ ad, A = some ad → ad.block ≠ b)) (hc : w.cell? ⟨b, 0, none⟩ = some (.int .i64 0)) (hf : w.frozen? ⟨b, 0, none⟩ = false) :
    Calls Try.prog 16 #[.slice A n c, .func (.func 20) #[] #[.pointer (some ⟨b, 0, none⟩)]] w fun e w' => (∃ z, e = .returned (.tuple #[.int .i64 z, .bool (!decide (Sp.Rise zs n))])) ∧ Below b w w' := by
  have h1 := h.cap
  have h2 := h.most
  have hlen := h.len
  have H := Lib.hid h
  have HC := Lib.hid hc
  have HF := Lib.hid hf
  have hcf : ∀ (args : Array Value) (W : World), (callFunc 20 args).run Try.prog W = .ok (.enter 20 args) W := fun _ _ => by kernel_rfl
  clear h hc hf
  go_enter Try.func16, Try.ntmps16
  go_wp2_with fail
  go_loopw [11] (fun i wr => ∃ k : Nat, k ≤ n ∧ i = .int .i64 k ∧ Hid (Sp.Rise zs k) ∧ Hid (Row wr A n c zs) ∧ Hid (wr.cell? ⟨b, 0, none⟩ = some (.int .i64 (Sp.pre zs k))) ∧ Hid (wr.frozen? ⟨b, 0, none⟩ = false) ∧ Hid (Below b w wr)) (fun i _ => n - (intOf i).toNat)
  case atStart => exact ⟨0, Nat.zero_le _, rfl, Lib.hid (Sp.rise_zero zs), H, HC, HF, Lib.hid (Below.refl _ _)⟩
  case round =>
    obtain ⟨k, hk, rfl, HR, HW, HP, HG, HB⟩ := hrel
    by_cases hlt : k < n
    · obtain ⟨z, hzk⟩ : ∃ z, zs[k]? = some z := ⟨_, List.getElem?_eq_getElem (by omega)⟩
      obtain ⟨b1, o1, rfl, hbk, hcs⟩ := HW.out.cells (by omega)
      have hck := hcs k z hzk
      have HZ := Lib.hid hzk
      have k0 : (0 : Int) ≤ (k : Int) := by omega
      have k1 : (k : Int) < (n : Int) := by omega
      clear hcs hzk
      go_wp2_with fail
      refine (test_any z (Sp.pre zs k) b _ HP.out HG.out).mono ?_
      rintro e w1 ⟨rfl, rfl⟩
      by_cases hz : z ≤ Sp.pre zs k
      · have t1 : decide (z ≤ Sp.pre zs k) = true := by simpa using hz
        have HN := Lib.hid (show decide (Sp.Rise zs n) = false from decide_eq_false (Sp.rise_not HZ.out hlt hz))
        rw [t1]
        go_wp2_with fail
        refine bodyPost_ret (v := .tuple #[.int .i64 z, .bool true]) (by simp [results, Try.results16, go_sem]) rfl ?_
        exact ⟨⟨z, by rw [HN.out]; rfl⟩, HB.out.setCell (Nat.le_refl _) _⟩
      · have t1 : decide (z ≤ Sp.pre zs k) = false := by simpa using hz
        have HS := Lib.hid (Sp.rise_succ HR.out HZ.out (by omega))
        have HP1 := Lib.hid (show (wr.setCell ⟨b, 0, none⟩ (.int .i64 z)).cell? ⟨b, 0, none⟩ = some (.int .i64 (Sp.pre zs (k + 1))) by rw [Sp.pre_succ HZ.out]; exact World.cell?_setCell_same' _ _ _ (by rw [HP.out]; rfl))
        have HG1 := Lib.hid (show (wr.setCell ⟨b, 0, none⟩ (.int .i64 z)).frozen? ⟨b, 0, none⟩ = false by rw [World.frozen?_setCell]; exact HG.out)
        have HW1 := Lib.hid (HW.out.far (u := .int .i64 z) hne.out)
        have HB1 := Lib.hid (HB.out.setCell (p := ⟨b, 0, none⟩) (Nat.le_refl _) (.int .i64 z))
        rw [t1]
        go_wp2_with fail
        go_roundw
        case rel => exact ⟨k + 1, by omega, by go_num, HS, HW1, HP1, HG1, HB1⟩
        case measure => simp [intOf]; omega
    · obtain rfl : k = n := by omega
      have HN := Lib.hid (show decide (Sp.Rise zs k) = true from decide_eq_true HR.out)
      go_wp2_with fail
      refine bodyPost_ret (v := .tuple #[.int .i64 0, .bool false]) (by simp [results, Try.results16, go_sem]) rfl ?_
      exact ⟨⟨0, by rw [HN.out]; rfl⟩, HB.out⟩
theorem hmf (fn : Fn) (first cap : Array Value) (w : World) : (Instr.makeFunc fn first cap).run Try.prog w = .ok (.func fn first cap) w := rfl
theorem below_new' {B : Nat} (w : World) (o : Obj) (hB : B ≤ w.heap.size) : Below B w (w.alloc o) := (Below.refl _ _).alloc hB o
set_option maxHeartbeats 1600000 in
/-- The rest of sem.May: the row, sorted, and what is told. -/
theorem may_any (x : Int) (A : Option Addr) (n c : Nat) (zs : List Int) (w : World) (h : Row w A n c zs) (hn : n ≤ 100000) :
    Calls Try.prog 11 #[.agg #[.int .i64 x, .slice A n c]] w fun e w' => e = .returned (.bool (decide (Sp.May (x, zs)))) ∧ Below w.heap.size w w' := by
  have hlen := h.len
  have H := Lib.hid h
  obtain ⟨w0, hw0⟩ : ∃ w0, w0 = w.alloc (.cells #[.int .i64 x, .slice A n c] 26) := ⟨_, rfl⟩
  have hb0 := Lib.hid (show Below w.heap.size w w0 by rw [hw0]; exact below_new w _)
  have c0 : w0.cell? ⟨w.heap.size, 0, none⟩ = some (.int .i64 x) := by rw [hw0, World.cell?_alloc_at _ _ _ _ rfl]; rfl
  have c1 : w0.cell? ⟨w.heap.size, 1, none⟩ = some (.slice A n c) := by rw [hw0, World.cell?_alloc_at _ _ _ _ rfl]; rfl
  have E0 := Lib.hid hw0
  clear h hw0
  by_cases g0 : x < 0
  · have t0 : decide (x < 0) = true := by simpa using g0
    have HF := Lib.hid (show decide (Sp.May (x, zs)) = false from decide_eq_false fun ⟨h9, _⟩ => by simp only at h9; omega)
    go_enter Try.func11, Try.ntmps11
    go_wp2_with fail
    rw [← E0.out]
    clear E0
    go_ret
    exact ⟨ret_bool HF.out.symm, hb0.out⟩
  · have t0 : decide (x < 0) = false := by simpa using g0
    by_cases g1 : 1000000 < x
    · have t1 : decide (1000000 < x) = true := by simpa using g1
      have HF := Lib.hid (show decide (Sp.May (x, zs)) = false from decide_eq_false fun ⟨_, h9, _⟩ => by simp only at h9; omega)
      go_enter Try.func11, Try.ntmps11
      go_wp2_with fail
      rw [← E0.out]
      clear E0
      go_ret
      exact ⟨ret_bool HF.out.symm, hb0.out⟩
    · have t1 : decide (1000000 < x) = false := by simpa using g1
      by_cases h0 : n = 0
      · subst h0
        obtain rfl : zs = [] := List.length_eq_zero_iff.1 hlen
        have HM := Lib.hid (show decide (Sp.May (x, [])) = !(!decide (Sp.Rise [] 0)) by
          rw [Bool.not_not, decide_eq_decide]
          exact ⟨fun _ => Sp.rise_zero [], fun _ => ⟨by simp only; omega, by simp only; omega, .inr rfl, fun x hx => by simp at hx, by simp⟩⟩)
        by_cases g2 : 0 < x
        · have t2 : decide (0 < x) = true := by simpa using g2
          go_enter Try.func11, Try.ntmps11
          go_wp2_with fail
          rw [← E0.out]
          clear E0
          refine (row_own A 0 c [] _ (H.out.below hb0.out) (by omega)).mono ?_
          rintro e w1 ⟨v1, n1, rfl, ho1, hb1⟩
          have hl1 := own_len ho1
          obtain rfl : 0 = n1 := by first | omega | (simp at hl1; omega)
          have hbe1 := Lib.hid (hb0.out.trans (hb1.mono hb0.out.size))
          have hs0 : w.heap.size ≤ w0.heap.size := hb0.out.size
          have O1 := Lib.hid (own_base2 ho1 hs0)
          clear hb1 ho1 hs0
          obtain ⟨A1, c1, hv⟩ := own_form O1.out
          subst hv
          go_wp2_with fail
          refine (Any.slices_Sort_int_none (P := Try.prog) laysSort A1 c1 _).mono ?_
          rintro e w2 ⟨rfl, rfl⟩
          have R2 : Row w2 A1 0 c1 [] := (Row.of_own' O1.out).elim fun A h => h.elim fun c h => by obtain ⟨e, hr, _⟩ := h; injection e with e1 e2 e3; subst e1 e3; exact hr
          have F2 : ∀ ad, A1 = some ad → ad.block ≠ w2.heap.size := fun ad e => by subst e; exact Nat.ne_of_lt (O1.out.lt _ rfl).2
          have hbe2 := hbe1
          have b3 := Lib.hid (hbe2.out.trans (below_new' w2 (.cells #[.int .i64 0] 3) hbe2.out.size))
          have hc3 : (w2.alloc (.cells #[.int .i64 0] 3)).cell? ⟨w2.heap.size, 0, none⟩ = some (.int .i64 0) := by rw [World.cell?_alloc_at _ _ _ _ rfl]; rfl
          have hf3 : (w2.alloc (.cells #[.int .i64 0] 3)).frozen? ⟨w2.heap.size, 0, none⟩ = false := by rw [World.frozen?_alloc_at _ _ _ _ rfl]
          have G := Lib.hid (first_rise A1 0 c1 [] w2.heap.size (w2.alloc (.cells #[.int .i64 0] 3)) (R2.below (below_new w2 _)) (Lib.hid F2) hc3 hf3)
          clear hc3 hf3
          have hmf := hmf
          go_wp2_with fail
          refine G.out.mono ?_
          rintro e w4 ⟨⟨z4, rfl⟩, hb4⟩
          have b4 := Lib.hid (b3.out.trans (hb4.mono hbe2.out.size))
          clear hb4 G hmf
          go_wp2_with fail
          go_ret
          exact ⟨ret_bool (by rw [HM.out]; try simp), b4.out⟩
        · have t2 : decide (0 < x) = false := by simpa using g2
          go_enter Try.func11, Try.ntmps11
          go_wp2_with fail
          rw [← E0.out]
          clear E0
          refine (row_own A 0 c [] _ (H.out.below hb0.out) (by omega)).mono ?_
          rintro e w1 ⟨v1, n1, rfl, ho1, hb1⟩
          have hl1 := own_len ho1
          obtain rfl : 0 = n1 := by first | omega | (simp at hl1; omega)
          have hbe1 := Lib.hid (hb0.out.trans (hb1.mono hb0.out.size))
          have hs0 : w.heap.size ≤ w0.heap.size := hb0.out.size
          have O1 := Lib.hid (own_base2 ho1 hs0)
          clear hb1 ho1 hs0
          obtain ⟨A1, c1, hv⟩ := own_form O1.out
          subst hv
          go_wp2_with fail
          refine (Any.slices_Sort_int_none (P := Try.prog) laysSort A1 c1 _).mono ?_
          rintro e w2 ⟨rfl, rfl⟩
          have R2 : Row w2 A1 0 c1 [] := (Row.of_own' O1.out).elim fun A h => h.elim fun c h => by obtain ⟨e, hr, _⟩ := h; injection e with e1 e2 e3; subst e1 e3; exact hr
          have F2 : ∀ ad, A1 = some ad → ad.block ≠ w2.heap.size := fun ad e => by subst e; exact Nat.ne_of_lt (O1.out.lt _ rfl).2
          have hbe2 := hbe1
          have b3 := Lib.hid (hbe2.out.trans (below_new' w2 (.cells #[.int .i64 0] 3) hbe2.out.size))
          have hc3 : (w2.alloc (.cells #[.int .i64 0] 3)).cell? ⟨w2.heap.size, 0, none⟩ = some (.int .i64 0) := by rw [World.cell?_alloc_at _ _ _ _ rfl]; rfl
          have hf3 : (w2.alloc (.cells #[.int .i64 0] 3)).frozen? ⟨w2.heap.size, 0, none⟩ = false := by rw [World.frozen?_alloc_at _ _ _ _ rfl]
          have G := Lib.hid (first_rise A1 0 c1 [] w2.heap.size (w2.alloc (.cells #[.int .i64 0] 3)) (R2.below (below_new w2 _)) (Lib.hid F2) hc3 hf3)
          clear hc3 hf3
          have hmf := hmf
          go_wp2_with fail
          refine G.out.mono ?_
          rintro e w4 ⟨⟨z4, rfl⟩, hb4⟩
          have b4 := Lib.hid (b3.out.trans (hb4.mono hbe2.out.size))
          clear hb4 G hmf
          go_wp2_with fail
          go_ret
          exact ⟨ret_bool (by rw [HM.out]; try simp), b4.out⟩
      · have p1 : (0 : Int) < (n : Int) := by omega
        have p2 : decide ((0 : Int) < (n : Int)) = true := by simpa using p1
        by_cases g2 : 0 < x
        · have t2 : decide (0 < x) = true := by simpa using g2
          have HF := Lib.hid (show decide (Sp.May (x, zs)) = false from decide_eq_false (by
            rintro ⟨_, _, h9 | h9, _⟩
            · simp only at h9; omega
            · simp only at h9; subst h9; simp at hlen; omega))
          go_enter Try.func11, Try.ntmps11
          go_wp2_with fail
          rw [← E0.out]
          clear E0
          go_ret
          exact ⟨ret_bool HF.out.symm, hb0.out⟩
        · obtain rfl : x = 0 := by omega
          have HM := Lib.hid (show decide (Sp.May (0, zs)) = !(!decide (Sp.Rise (sorted zs) n)) by
            rw [Bool.not_not, decide_eq_decide]
            have e := Sp.rise_once (sorted zs) (sorted_le zs)
            rw [sorted_length, hlen] at e
            rw [e, Sp.once_perm (sorted_perm zs)]
            exact ⟨fun h => h.2.2.2, fun h => ⟨Int.le_refl 0, (by show (0 : Int) ≤ 1000000; decide), .inl rfl, h⟩⟩)
          go_enter Try.func11, Try.ntmps11
          go_wp2_with fail
          rw [← E0.out]
          clear E0
          refine (row_own A n c zs _ (H.out.below hb0.out) (by omega)).mono ?_
          rintro e w1 ⟨v1, n1, rfl, ho1, hb1⟩
          have hl1 := own_len ho1
          obtain rfl : n = n1 := by first | omega | (simp at hl1; omega)
          have hbe1 := Lib.hid (hb0.out.trans (hb1.mono hb0.out.size))
          have hs0 : w.heap.size ≤ w0.heap.size := hb0.out.size
          have O1 := Lib.hid (own_base2 ho1 hs0)
          clear hb1 ho1 hs0
          obtain ⟨g, cap, hv, hbg, hlg, hnc, hcm, _, _⟩ := Lib.holds_of_ownsRow O1.out (by
            intro e
            rcases O1.out.2 with ⟨_, h9⟩ | ⟨g9, c9, cur9, e9, _⟩
            · exact h0 h9
            · rw [e9] at e; cases e)
          subst hv
          go_wp2_with fail
          refine (sort_own g n cap zs _ w.heap.size O1.out (by omega)).mono ?_
          rintro e w2 ⟨rfl, hH2, hlg2, hb2⟩
          have hbe2 := Lib.hid (hbe1.out.trans hb2)
          have R2 : Row w2 (some ⟨g, 0, none⟩) n cap (sorted zs) := ⟨by rw [sorted_length]; exact hlen, hnc, by unfold maxLen at hcm; omega, (fun e => by cases e), fun i z hi => ⟨g, 0, rfl, hlg2, by
            obtain ⟨h7, e7⟩ := List.getElem?_eq_some_iff.1 hi
            have h8 := (hH2 i (by simpa using h7)).1
            rw [show (sorted zs).toArray[i]! = z from by rw [getElem!_pos _ _ (by simpa using h7)]; simpa using e7] at h8
            simpa using h8⟩⟩
          clear hH2 hb2
          have b3 := Lib.hid (hbe2.out.trans (below_new' w2 (.cells #[.int .i64 0] 3) hbe2.out.size))
          have hc3 : (w2.alloc (.cells #[.int .i64 0] 3)).cell? ⟨w2.heap.size, 0, none⟩ = some (.int .i64 0) := by rw [World.cell?_alloc_at _ _ _ _ rfl]; rfl
          have hf3 : (w2.alloc (.cells #[.int .i64 0] 3)).frozen? ⟨w2.heap.size, 0, none⟩ = false := by rw [World.frozen?_alloc_at _ _ _ _ rfl]
          have G := Lib.hid (first_rise (some ⟨g, 0, none⟩) n cap (sorted zs) w2.heap.size (w2.alloc (.cells #[.int .i64 0] 3)) (R2.below (below_new w2 _)) (Lib.hid (fun ad e => by injection e with e; subst e; exact Nat.ne_of_lt hlg2)) hc3 hf3)
          clear hc3 hf3
          have hmf := hmf
          go_wp2_with fail
          refine G.out.mono ?_
          rintro e w4 ⟨⟨z4, rfl⟩, hb4⟩
          have b4 := Lib.hid (b3.out.trans (hb4.mono hbe2.out.size))
          clear hb4 G hmf
          go_wp2_with fail
          go_ret
          exact ⟨ret_bool (by rw [HM.out]; try simp), b4.out⟩
end Go.Proofs.Ytlcgadcbeoljbaa

