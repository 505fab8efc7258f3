/- The document's Push, by its contract: put in behind all that the timer isn't ahead of. -/
import Derived.Test.YtjcljdehhckaeaaHRef
import Derived.Test.YtjcljdehhckaeaaHPop
namespace Go.Proofs.Ytjcljdehhckaeaa
open Go.RowKit
set_option linter.unusedVariables false

theorem TR.empty (w : World) (A : Option Addr) (m c : Nat) (hm : m = 0) (hc : A = none → c = 0) (h2 : c ≤ 9223372036854775807) : TR w A m c [] := by
  subst hm
  exact ⟨rfl, by omega, h2, hc, fun i z h => by simp at h⟩
theorem TR.emptyL {L : List Hp.Tm} {k : Nat} (hL : L.drop k = []) {w : World} {A : Option Addr} {m c : Nat} (hm : m = 0) (hc : A ≠ none) (h2 : c ≤ 9223372036854775807) : TR w A m c (L.drop k) := by
  rw [hL]
  exact TR.empty w A m c hm (fun e => absurd e hc) h2
set_option maxHeartbeats 2000000 in
theorem refPush_any (A : Option Addr) (n c : Nat) (L : List Hp.Tm) (t1 t2 t3 : Int) (w : World) (h : TR w A n c L) (hs : Hid (Hp.Sorted L)) (hl : n ≤ 100000) :
    Calls Try.prog 11 #[.slice A n c, .agg #[.int .i64 t1, .int .i64 t2, .int .i64 t3]] w fun e w' => ∃ L', Hp.Sorted L' ∧ L'.Perm (L ++ [(t1, t2, t3)]) ∧ MadeT w L' e w' := by
  have hlen := h.len
  have hcap := h.cap
  have hmost := h.most
  obtain ⟨W0, hW0, b0, b1, b2, _, hb0⟩ := new3v w (.int .i64 t1) (.int .i64 t2) (.int .i64 t3) 35
  have H := Lib.hid (h.step hb0)
  have HB0 := Lib.hid hb0
  have hsz := Lib.hid (show w.heap.size + 1 = W0.heap.size by rw [hW0]; simp)
  have E0 := Lib.hid hW0
  have hnil := h.nil
  have HH := Lib.hid h
  clear h hb0 hW0
  go_enter Try.func11, Try.ntmps11
  go_wp2_with fail
  rw [← E0.out]
  clear E0
  go_loopw [5] (fun i wr => ∃ k : Nat, k ≤ n ∧ i = .int .i64 k ∧ Hid (Below W0.heap.size W0 wr) ∧ Hid (∀ (j : Nat) x, j < k → L[j]? = some x → ¬ Hp.Lt (t1, t2, t3) x)) (fun i _ => n - (intOf i).toNat)
  case atStart => exact ⟨0, Nat.zero_le _, rfl, Lib.hid (Below.refl _ _), Lib.hid (fun j x hj => by omega)⟩
  case round =>
    obtain ⟨i, hi, rfl, HW, HA⟩ := hrel
    have d0 := keepcell HW.out b0
    have d1 := keepcell HW.out b1
    have d2 := keepcell HW.out b2
    by_cases hlt : i < n
    · obtain ⟨x, hx⟩ : ∃ x, L[i]? = some x := ⟨_, List.getElem?_eq_getElem (by omega)⟩
      obtain ⟨b, off, rfl, _, hc⟩ := H.out.cells (by omega)
      obtain ⟨c0, c1, c2⟩ := hc i x hx
      have c0 := keepcell HW.out c0
      have c1 := keepcell HW.out c1
      have c2 := keepcell HW.out c2
      have HX := Lib.hid hx
      obtain ⟨x1, x2, x3⟩ := x
      simp only at c0 c1 c2
      have HC := Lib.hid (fun W => ahead_any t1 t2 t3 x1 x2 x3 W)
      have i0 : (0 : Int) ≤ (i : Int) := by omega
      have i1 : (i : Int) < (n : Int) := by omega
      clear hc hx
      go_wp2_with fail
      go_region_held3 (fun w' => w'.cell? ⟨w.heap.size, 0, none⟩ = some (.int .i64 t1) ∧ w'.cell? ⟨w.heap.size, 1, none⟩ = some (.int .i64 t2) ∧ w'.cell? ⟨w.heap.size, 2, none⟩ = some (.int .i64 t3) ∧ w'.cell? ⟨b, off + i * 3, none⟩ = some (.int .i64 x1) ∧ w'.cell? ⟨b, off + i * 3 + 1, none⟩ = some (.int .i64 x2) ∧ w'.cell? ⟨b, off + i * 3 + 2, none⟩ = some (.int .i64 x3))
        (first
          | (go_split_ands; refine ⟨keepcell hbX (by assumption), keepcell hbX (by assumption), keepcell hbX (by assumption), keepcell hbX (by assumption), keepcell hbX (by assumption), keepcell hbX (by assumption)⟩)
          | go_keep)
        (first
          | (go_at_call 21; refine (HC.out _).mono ?_; rintro e w1 ⟨rfl, hbX⟩))
      have HV := Lib.hid (HW.out.trans ((below_of_drew hbX).mono HW.out.size))
      clear hbX c0 c1 c2 d0 d1 d2 HC
      by_cases hlt2 : Hp.Lt (t1, t2, t3) (x1, x2, x3)
      · have t1' : decide (Hp.Lt (t1, t2, t3) (x1, x2, x3)) = true := decide_eq_true hlt2
        rw [t1']
        have HKE := Lib.hid (show ∀ x, L[i]? = some x → Hp.Lt (t1, t2, t3) x from fun x hx => by have := HX.out; rw [hx] at this; injection this with this; subst this; exact hlt2)
        have hTR := H.out.step HV.out
        clear hlt2 t1'
        have hVs : W0.heap.size ≤ w1.heap.size := HV.out.size
        have hws := hsz.out
        have hO0 : (w1.alloc (.cells #[] 35)).ownsRow w.heap.size 35 3 (.slice (some ⟨w1.heap.size, 0, none⟩) 0 0) 0 (tcells []) := World.ownsRow_made _ _ _ (by omega) (by unfold maxLen; omega) rfl
        have hb1 := below_new w1 (.cells #[] 35)
        have TB := Lib.hid (hTR.take i (by omega))
        have T1 := Lib.hid (TB.out.step hb1)
        have HB1 := Lib.hid hb1
        have HWV := Lib.hid (HB0.out.trans (HV.out.mono HB0.out.size))
        have hk1 := hi
        clear hb1
        go_wp2_with (first
          | (refine wpList_append_tm (by rfl) _ _ (by rfl) w.heap.size (.slice (some ⟨w1.heap.size, 0, none⟩) 0 0) 0 [] (by rfl) hO0 (some ⟨b, off, none⟩) i c (L.take i) (by rfl) T1.out (by omega) (by simp; omega) ?_; intro v1 z1 ho1 hg1; have HV1 := Lib.hid (HB1.out.grown hg1 (by simp) (fun k e => by simp [Value.ownBlock] at e; omega)); have g0 := keepcell (HV.out.trans (HV1.out.mono HV.out.size)) b0; have g1 := keepcell (HV.out.trans (HV1.out.mono HV.out.size)) b1; have g2 := keepcell (HV.out.trans (HV1.out.mono HV.out.size)) b2; have ho1' : z1.ownsRow w.heap.size 35 3 v1 i (tcells (L.take i)) := (by rw [List.nil_append, Nat.zero_add] at ho1; exact ho1); have HO1 := Lib.hid ho1'; obtain ⟨A1, q1, rfl, _, _⟩ := TR.of_own ho1'; have hv1 := HV1.out.size; have hb3 := below_new z1 (.cells #[.int .i64 t1, .int .i64 t2, .int .i64 t3] 35); have HV2 := Lib.hid (HWV.out.trans ((HV1.out.trans (hb3.mono hv1)).mono HWV.out.size)); have HO2 := Lib.hid (own_below HO1.out hb3); clear ho1 hg1 ho1' hb3)
          | (refine wpList_append_tm (by rfl) _ _ (by rfl) w.heap.size (.slice A1 i q1) i (L.take i) (by rfl) HO2.out (some ⟨z1.heap.size, 0, none⟩) 1 1 [(t1, t2, t3)] (by rfl) (tr_one z1 t1 t2 t3 _) (by omega) (by simp; omega) ?_; intro v2 z2 ho2 hg2; have HV3 := Lib.hid (HV2.out.grown hg2 (by simp; omega) (fun k e => (HO1.out.lt k e).1)); have HO3 := Lib.hid ho2; have hv3 := HV3.out.size; obtain ⟨A2, q2, rfl, _, _⟩ := TR.of_own ho2; clear ho2 hg2)
          | (refine wpList_append_tm (by rfl) _ _ (by rfl) w.heap.size (.slice A2 (i + 1) q2) (i + 1) (L.take i ++ [(t1, t2, t3)]) (by rfl) HO3.out (some ⟨b, off + i * 3, none⟩) (n - i) (c - i) (L.drop i) (by rfl) ((HH.out.below HV3.out).drop i (by omega)) (by omega) (by omega) ?_; intro v3 z3 ho3 hg3; have HV4 := Lib.hid (HV3.out.grown hg3 hv3 (fun k e => (HO3.out.lt k e).1)); obtain ⟨A3, q3, rfl, hr3, hf3⟩ := TR.of_own ho3; clear ho3 hg3))
        go_ret
        exact ⟨_, Hp.put_sorted hs.out HA.out HKE.out, Hp.put_perm _ _ _, _, _, _, rfl, hr3, hf3, HV4.out⟩
      · have t1' : decide (Hp.Lt (t1, t2, t3) (x1, x2, x3)) = false := decide_eq_false hlt2
        have HA2 := Lib.hid (show ∀ (j : Nat) x, j < i + 1 → L[j]? = some x → ¬ Hp.Lt (t1, t2, t3) x from fun j x hj hx => by
          by_cases e : j = i
          · subst e; have := HX.out; rw [hx] at this; injection this with this; subst this; exact hlt2
          · exact HA.out j x (by omega) hx)
        rw [t1']
        clear hlt2 t1'
        go_wp2_with fail
        go_roundw
        case rel => exact ⟨i + 1, by omega, by go_num, HV, HA2⟩
        case measure => simp [intOf]; omega
    · obtain rfl : i = n := by omega
      go_wp2_with fail
      go_quiet (fail)
      have HV := Lib.hid (below_drewN HW.out nq)
      generalize wr.drewN nq = V at *
      have HKE := Lib.hid (show ∀ x, L[i]? = some x → Hp.Lt (t1, t2, t3) x from fun x hx => by have := (List.getElem?_eq_some_iff.1 hx).1; omega)
      have hTR := H.out.step HV.out
      have hLd : L.drop i = [] := List.drop_of_length_le (by omega)
      cases A with
      | none =>
        have hc0 := hnil rfl
        subst hc0
        obtain rfl : i = 0 := by omega
        have hVs : W0.heap.size ≤ V.heap.size := HV.out.size
        have hws := hsz.out
        have hO0 : (V.alloc (.cells #[] 35)).ownsRow w.heap.size 35 3 (.slice (some ⟨V.heap.size, 0, none⟩) 0 0) 0 (tcells []) := World.ownsRow_made _ _ _ (by omega) (by unfold maxLen; omega) rfl
        have hb1 := below_new V (.cells #[] 35)
        have TB := Lib.hid (hTR.take 0 (by omega))
        have T1 := Lib.hid (TB.out.step hb1)
        have HB1 := Lib.hid hb1
        have HWV := Lib.hid (HB0.out.trans (HV.out.mono HB0.out.size))
        have hk1 := hi
        clear hb1
        go_wp2_with (first
          | (refine wpList_append_tm (by rfl) _ _ (by rfl) w.heap.size (.slice (some ⟨V.heap.size, 0, none⟩) 0 0) 0 [] (by rfl) hO0 none 0 0 (L.take 0) (by rfl) T1.out (by omega) (by simp; omega) ?_; intro v1 z1 ho1 hg1; have HV1 := Lib.hid (HB1.out.grown hg1 (by simp) (fun k e => by simp [Value.ownBlock] at e; omega)); have g0 := keepcell (HV.out.trans (HV1.out.mono HV.out.size)) b0; have g1 := keepcell (HV.out.trans (HV1.out.mono HV.out.size)) b1; have g2 := keepcell (HV.out.trans (HV1.out.mono HV.out.size)) b2; have ho1' : z1.ownsRow w.heap.size 35 3 v1 0 (tcells (L.take 0)) := (by rw [List.nil_append, Nat.zero_add] at ho1; exact ho1); have HO1 := Lib.hid ho1'; obtain ⟨A1, q1, rfl, _, _⟩ := TR.of_own ho1'; have hv1 := HV1.out.size; have hb3 := below_new z1 (.cells #[.int .i64 t1, .int .i64 t2, .int .i64 t3] 35); have HV2 := Lib.hid (HWV.out.trans ((HV1.out.trans (hb3.mono hv1)).mono HWV.out.size)); have HO2 := Lib.hid (own_below HO1.out hb3); clear ho1 hg1 ho1' hb3)
          | (refine wpList_append_tm (by rfl) _ _ (by rfl) w.heap.size (.slice A1 0 q1) 0 (L.take 0) (by rfl) HO2.out (some ⟨z1.heap.size, 0, none⟩) 1 1 [(t1, t2, t3)] (by rfl) (tr_one z1 t1 t2 t3 _) (by omega) (by simp; omega) ?_; intro v2 z2 ho2 hg2; have HV3 := Lib.hid (HV2.out.grown hg2 (by simp; omega) (fun k e => (HO1.out.lt k e).1)); have HO3 := Lib.hid ho2; have hv3 := HV3.out.size; obtain ⟨A2, q2, rfl, _, _⟩ := TR.of_own ho2; clear ho2 hg2)
          | (refine wpList_append_tm (by rfl) _ _ (by rfl) w.heap.size (.slice A2 (0 + 1) q2) (0 + 1) (L.take 0 ++ [(t1, t2, t3)]) (by rfl) HO3.out none 0 0 (L.drop 0) (by rfl) (by rw [hLd]; exact TR.empty _ _ _ _ (by omega) (by intro e; rfl) (by omega)) (by omega) (by omega) ?_; intro v3 z3 ho3 hg3; have HV4 := Lib.hid (HV3.out.grown hg3 hv3 (fun k e => (HO3.out.lt k e).1)); obtain ⟨A3, q3, rfl, hr3, hf3⟩ := TR.of_own ho3; clear ho3 hg3))
        go_ret
        exact ⟨_, Hp.put_sorted hs.out HA.out HKE.out, Hp.put_perm _ _ _, _, _, _, rfl, hr3, hf3, HV4.out⟩
      | some ad =>
        by_cases h0 : i = 0
        · subst h0
          have hVs : W0.heap.size ≤ V.heap.size := HV.out.size
          have hws := hsz.out
          have hO0 : (V.alloc (.cells #[] 35)).ownsRow w.heap.size 35 3 (.slice (some ⟨V.heap.size, 0, none⟩) 0 0) 0 (tcells []) := World.ownsRow_made _ _ _ (by omega) (by unfold maxLen; omega) rfl
          have hb1 := below_new V (.cells #[] 35)
          have TB := Lib.hid (hTR.take 0 (by omega))
          have T1 := Lib.hid (TB.out.step hb1)
          have HB1 := Lib.hid hb1
          have HWV := Lib.hid (HB0.out.trans (HV.out.mono HB0.out.size))
          have hk1 := hi
          clear hb1
          go_wp2_with (first
            | (refine wpList_append_tm (by rfl) _ _ (by rfl) w.heap.size (.slice (some ⟨V.heap.size, 0, none⟩) 0 0) 0 [] (by rfl) hO0 (some ad) 0 c (L.take 0) (by rfl) T1.out (by omega) (by simp; omega) ?_; intro v1 z1 ho1 hg1; have HV1 := Lib.hid (HB1.out.grown hg1 (by simp) (fun k e => by simp [Value.ownBlock] at e; omega)); have g0 := keepcell (HV.out.trans (HV1.out.mono HV.out.size)) b0; have g1 := keepcell (HV.out.trans (HV1.out.mono HV.out.size)) b1; have g2 := keepcell (HV.out.trans (HV1.out.mono HV.out.size)) b2; have ho1' : z1.ownsRow w.heap.size 35 3 v1 0 (tcells (L.take 0)) := (by rw [List.nil_append, Nat.zero_add] at ho1; exact ho1); have HO1 := Lib.hid ho1'; obtain ⟨A1, q1, rfl, _, _⟩ := TR.of_own ho1'; have hv1 := HV1.out.size; have hb3 := below_new z1 (.cells #[.int .i64 t1, .int .i64 t2, .int .i64 t3] 35); have HV2 := Lib.hid (HWV.out.trans ((HV1.out.trans (hb3.mono hv1)).mono HWV.out.size)); have HO2 := Lib.hid (own_below HO1.out hb3); clear ho1 hg1 ho1' hb3)
            | (refine wpList_append_tm (by rfl) _ _ (by rfl) w.heap.size (.slice A1 0 q1) 0 (L.take 0) (by rfl) HO2.out (some ⟨z1.heap.size, 0, none⟩) 1 1 [(t1, t2, t3)] (by rfl) (tr_one z1 t1 t2 t3 _) (by omega) (by simp; omega) ?_; intro v2 z2 ho2 hg2; have HV3 := Lib.hid (HV2.out.grown hg2 (by simp; omega) (fun k e => (HO1.out.lt k e).1)); have HO3 := Lib.hid ho2; have hv3 := HV3.out.size; obtain ⟨A2, q2, rfl, _, _⟩ := TR.of_own ho2; clear ho2 hg2)
            | (refine wpList_append_tm (by rfl) _ _ (by rfl) w.heap.size (.slice A2 (0 + 1) q2) (0 + 1) (L.take 0 ++ [(t1, t2, t3)]) (by rfl) HO3.out _ _ _ (L.drop 0) (by rfl) (TR.emptyL hLd (by omega) (by first | nofun | split <;> nofun) (by omega)) (by omega) (by omega) ?_; intro v3 z3 ho3 hg3; have HV4 := Lib.hid (HV3.out.grown hg3 hv3 (fun k e => (HO3.out.lt k e).1)); obtain ⟨A3, q3, rfl, hr3, hf3⟩ := TR.of_own ho3; clear ho3 hg3))
          go_ret
          exact ⟨_, Hp.put_sorted hs.out HA.out HKE.out, Hp.put_perm _ _ _, _, _, _, rfl, hr3, hf3, HV4.out⟩
        · obtain ⟨b, off, e, _, _⟩ := hTR.cells (by omega)
          injection e with e
          subst e
          by_cases hci : c = i
          · subst hci
            have hVs : W0.heap.size ≤ V.heap.size := HV.out.size
            have hws := hsz.out
            have hO0 : (V.alloc (.cells #[] 35)).ownsRow w.heap.size 35 3 (.slice (some ⟨V.heap.size, 0, none⟩) 0 0) 0 (tcells []) := World.ownsRow_made _ _ _ (by omega) (by unfold maxLen; omega) rfl
            have hb1 := below_new V (.cells #[] 35)
            have TB := Lib.hid (hTR.take c (by omega))
            have T1 := Lib.hid (TB.out.step hb1)
            have HB1 := Lib.hid hb1
            have HWV := Lib.hid (HB0.out.trans (HV.out.mono HB0.out.size))
            have hk1 := hi
            clear hb1
            go_wp2_with (first
              | (refine wpList_append_tm (by rfl) _ _ (by rfl) w.heap.size (.slice (some ⟨V.heap.size, 0, none⟩) 0 0) 0 [] (by rfl) hO0 (some ⟨b, off, none⟩) c c (L.take c) (by rfl) T1.out (by omega) (by simp; omega) ?_; intro v1 z1 ho1 hg1; have HV1 := Lib.hid (HB1.out.grown hg1 (by simp) (fun k e => by simp [Value.ownBlock] at e; omega)); have g0 := keepcell (HV.out.trans (HV1.out.mono HV.out.size)) b0; have g1 := keepcell (HV.out.trans (HV1.out.mono HV.out.size)) b1; have g2 := keepcell (HV.out.trans (HV1.out.mono HV.out.size)) b2; have ho1' : z1.ownsRow w.heap.size 35 3 v1 c (tcells (L.take c)) := (by rw [List.nil_append, Nat.zero_add] at ho1; exact ho1); have HO1 := Lib.hid ho1'; obtain ⟨A1, q1, rfl, _, _⟩ := TR.of_own ho1'; have hv1 := HV1.out.size; have hb3 := below_new z1 (.cells #[.int .i64 t1, .int .i64 t2, .int .i64 t3] 35); have HV2 := Lib.hid (HWV.out.trans ((HV1.out.trans (hb3.mono hv1)).mono HWV.out.size)); have HO2 := Lib.hid (own_below HO1.out hb3); clear ho1 hg1 ho1' hb3)
              | (refine wpList_append_tm (by rfl) _ _ (by rfl) w.heap.size (.slice A1 c q1) c (L.take c) (by rfl) HO2.out (some ⟨z1.heap.size, 0, none⟩) 1 1 [(t1, t2, t3)] (by rfl) (tr_one z1 t1 t2 t3 _) (by omega) (by simp; omega) ?_; intro v2 z2 ho2 hg2; have HV3 := Lib.hid (HV2.out.grown hg2 (by simp; omega) (fun k e => (HO1.out.lt k e).1)); have HO3 := Lib.hid ho2; have hv3 := HV3.out.size; obtain ⟨A2, q2, rfl, _, _⟩ := TR.of_own ho2; clear ho2 hg2)
              | (refine wpList_append_tm (by rfl) _ _ (by rfl) w.heap.size (.slice A2 (c + 1) q2) (c + 1) (L.take c ++ [(t1, t2, t3)]) (by rfl) HO3.out _ _ _ (L.drop c) (by rfl) (TR.emptyL hLd (by omega) (by first | nofun | split <;> nofun) (by omega)) (by omega) (by omega) ?_; intro v3 z3 ho3 hg3; have HV4 := Lib.hid (HV3.out.grown hg3 hv3 (fun k e => (HO3.out.lt k e).1)); obtain ⟨A3, q3, rfl, hr3, hf3⟩ := TR.of_own ho3; clear ho3 hg3))
            go_ret
            exact ⟨_, Hp.put_sorted hs.out HA.out HKE.out, Hp.put_perm _ _ _, _, _, _, rfl, hr3, hf3, HV4.out⟩
          · have hci' : (c == i) = false := by rw [beq_eq_false_iff_ne]; exact hci
            have hci2 : i < c := by omega
            have hci3 : ¬ c - i = 0 := by omega
            have hVs : W0.heap.size ≤ V.heap.size := HV.out.size
            have hws := hsz.out
            have hO0 : (V.alloc (.cells #[] 35)).ownsRow w.heap.size 35 3 (.slice (some ⟨V.heap.size, 0, none⟩) 0 0) 0 (tcells []) := World.ownsRow_made _ _ _ (by omega) (by unfold maxLen; omega) rfl
            have hb1 := below_new V (.cells #[] 35)
            have TB := Lib.hid (hTR.take i (by omega))
            have T1 := Lib.hid (TB.out.step hb1)
            have HB1 := Lib.hid hb1
            have HWV := Lib.hid (HB0.out.trans (HV.out.mono HB0.out.size))
            have hk1 := hi
            clear hb1
            go_wp2_with (first
              | (refine wpList_append_tm (by rfl) _ _ (by rfl) w.heap.size (.slice (some ⟨V.heap.size, 0, none⟩) 0 0) 0 [] (by rfl) hO0 (some ⟨b, off, none⟩) i c (L.take i) (by rfl) T1.out (by omega) (by simp; omega) ?_; intro v1 z1 ho1 hg1; have HV1 := Lib.hid (HB1.out.grown hg1 (by simp) (fun k e => by simp [Value.ownBlock] at e; omega)); have g0 := keepcell (HV.out.trans (HV1.out.mono HV.out.size)) b0; have g1 := keepcell (HV.out.trans (HV1.out.mono HV.out.size)) b1; have g2 := keepcell (HV.out.trans (HV1.out.mono HV.out.size)) b2; have ho1' : z1.ownsRow w.heap.size 35 3 v1 i (tcells (L.take i)) := (by rw [List.nil_append, Nat.zero_add] at ho1; exact ho1); have HO1 := Lib.hid ho1'; obtain ⟨A1, q1, rfl, _, _⟩ := TR.of_own ho1'; have hv1 := HV1.out.size; have hb3 := below_new z1 (.cells #[.int .i64 t1, .int .i64 t2, .int .i64 t3] 35); have HV2 := Lib.hid (HWV.out.trans ((HV1.out.trans (hb3.mono hv1)).mono HWV.out.size)); have HO2 := Lib.hid (own_below HO1.out hb3); clear ho1 hg1 ho1' hb3)
              | (refine wpList_append_tm (by rfl) _ _ (by rfl) w.heap.size (.slice A1 i q1) i (L.take i) (by rfl) HO2.out (some ⟨z1.heap.size, 0, none⟩) 1 1 [(t1, t2, t3)] (by rfl) (tr_one z1 t1 t2 t3 _) (by omega) (by simp; omega) ?_; intro v2 z2 ho2 hg2; have HV3 := Lib.hid (HV2.out.grown hg2 (by simp; omega) (fun k e => (HO1.out.lt k e).1)); have HO3 := Lib.hid ho2; have hv3 := HV3.out.size; obtain ⟨A2, q2, rfl, _, _⟩ := TR.of_own ho2; clear ho2 hg2)
              | (refine wpList_append_tm (by rfl) _ _ (by rfl) w.heap.size (.slice A2 (i + 1) q2) (i + 1) (L.take i ++ [(t1, t2, t3)]) (by rfl) HO3.out _ _ _ (L.drop i) (by rfl) (TR.emptyL hLd (by omega) (by first | nofun | split <;> nofun) (by omega)) (by omega) (by omega) ?_; intro v3 z3 ho3 hg3; have HV4 := Lib.hid (HV3.out.grown hg3 hv3 (fun k e => (HO3.out.lt k e).1)); obtain ⟨A3, q3, rfl, hr3, hf3⟩ := TR.of_own ho3; clear ho3 hg3))
            go_ret
            exact ⟨_, Hp.put_sorted hs.out HA.out HKE.out, Hp.put_perm _ _ _, _, _, _, rfl, hr3, hf3, HV4.out⟩
end Go.Proofs.Ytjcljdehhckaeaa

