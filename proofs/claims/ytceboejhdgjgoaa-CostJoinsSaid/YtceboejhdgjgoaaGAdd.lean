/- Add, Join, May, by their contracts: two numbers together, up to the greatest cost. -/
import Derived.Test.YtceboejhdgjgoaaGRef
import Derived.Deep.RegionHeld3
namespace Go.Proofs.Ytceboejhdgjgoaa
open Go.RowKit
set_option linter.unusedVariables false

/-- Two numbers together: nothing in memory. -/
theorem together_any (a b c : Int) (w : World) (h0 : 0 ≤ a) (h1 : a ≤ 65535) (k0 : 0 ≤ b) (kb : In64 b) (hc : min (a + b) 65535 = c) :
    Calls Try.prog 17 #[.int .i64 a, .int .i64 b] w fun e w' => e = .returned (.int .i64 c) ∧ w' = w := by
  unfold In64 at kb
  have w1 : IntKind.i64.wrap (65535 - a) = 65535 - a := IntWalk.i64_in _ (by omega)
  rcases Int.lt_trichotomy b (65535 - a) with h | h | h
  · obtain rfl : c = a + b := by omega
    have w2 : IntKind.i64.wrap (a + b) = a + b := IntWalk.i64_in _ (by omega)
    clear hc h0 h1 k0 kb
    go_enter Try.func17, Try.ntmps17
    go_wp2_with fail
    go_ret
    exact ⟨rfl, rfl⟩
  · obtain rfl : c = 65535 := by omega
    have w2 : IntKind.i64.wrap (a + (65535 - a)) = 65535 := by rw [show a + (65535 - a) = 65535 by omega]; exact IntWalk.i64_in _ (by omega)
    subst h
    clear hc h0 h1 k0 kb
    go_enter Try.func17, Try.ntmps17
    go_wp2_with fail
    go_ret
    exact ⟨rfl, rfl⟩
  · obtain rfl : c = 65535 := by omega
    have w2 : IntKind.i64.wrap (a + (65535 - a)) = 65535 := by rw [show a + (65535 - a) = 65535 by omega]; exact IntWalk.i64_in _ (by omega)
    clear hc h0 h1 k0 kb
    go_enter Try.func17, Try.ntmps17
    go_wp2_with fail
    go_ret
    exact ⟨rfl, rfl⟩
/-- One is taken first; its place written out. -/
theorem wpAnyH_takesC {P : Program} {ops : Array Oper} {Q : Exit → Act → World → Prop} {md : Region.Mode} {S : World → Prop} {i : Nat} {oi : Oper} {v : Value} {fuel : Nat} {listed : Array Bool} {a : Act} {w : World} (d : Option Tmp) (hi : ops[i]? = some oi) (hd : oi.dst = d)
    (hs : Region.noSelect ops = true) (hf : Region.free md ops listed i = true) (hr : (Region.ready md ops listed).contains i = true)
    (hQ : ∀ c a w, Q (.panic c) (a.put d v) w → Q (.panic c) a w) (hy : YieldsIf P ops S oi v a) (hS : S w)
    (h : wpAnyH P md ops Q S fuel (listed.setIfInBounds i true) (a.put d v) w) : wpAnyH P md ops Q S (fuel + 1) listed a w := by
  subst hd
  exact wpAnyH_take hi hs hf hr hQ hy hS h
set_option maxRecDepth 100000 in
set_option maxHeartbeats 1000000 in
/-- Two costs together, where what stands there may be. -/
theorem joins (x y u v a b : Int) (w : World) (hx : 0 ≤ x ∧ x ≤ 65535) (hy : 0 ≤ y ∧ y ≤ 65535) (hu : 0 ≤ u) (iu : In64 u) (hv : 0 ≤ v) (iv : In64 v) (ha : min (x + u) 65535 = a) (hb : min (y + v) 65535 = b) :
    Calls Try.prog 14 #[.agg #[.int .i64 x, .int .i64 y], .agg #[.int .i64 u, .int .i64 v]] w (TellC w (a, b)) := by
  obtain ⟨W1, hW, k0, k1, hbe⟩ := boxes3 w x y u v a b 25
  have G1 := Lib.hid fun q => together_any x u a q hx.1 hx.2 hu iu ha
  have G2 := Lib.hid fun q => together_any y v b q hy.1 hy.2 hv iv hb
  have E := Lib.hid hW
  have HM := Lib.hid (show TellC w (a, b) (.returned (.agg #[.int .i64 a, .int .i64 b])) W1.drew from ⟨rfl, hbe.drew⟩)
  have k0d : W1.drew.cell? ⟨w.heap.size + 1 + 1, 0, none⟩ = some (.int .i64 a) := k0
  have k1d : W1.drew.cell? ⟨w.heap.size + 1 + 1, 1, none⟩ = some (.int .i64 b) := k1
  clear hW hbe ha hb hx hy hu iu hv iv
  go_enter Try.func14, Try.ntmps14
  go_wp2_with fail
  refine wp_region_held_drew (S := fun w' => w'.cell? ⟨w.heap.size, 0, none⟩ = some (.int .i64 x) ∧ w'.cell? ⟨w.heap.size, 1, none⟩ = some (.int .i64 y) ∧ w'.cell? ⟨w.heap.size + 1, 0, none⟩ = some (.int .i64 u) ∧ w'.cell? ⟨w.heap.size + 1, 1, none⟩ = some (.int .i64 v)) (by kernel_rfl) ?_ (fun hHeld => ?_)
  · go_keep
  refine wpAnyH_takesC (i := 0) (v := (.pointer (some ⟨w.heap.size, 0, none⟩))) (some 5) rfl rfl (by kernel_rfl) (by kernel_rfl) (by kernel_rfl) (fun _ _ _ h => h) (Or.inl ⟨by rfl, (by intro W9 hSw; (try dsimp only at hSw); go_simp; first | done | with_reducible rfl)⟩) (by assumption) ?_
  simp only [Act.put, List.setIfInBounds_toArray, List.set_cons_zero, List.set_cons_succ]
  refine wpAnyH_takesC (i := 1) (v := (.int .i64 x)) (some 6) rfl rfl (by kernel_rfl) (by kernel_rfl) (by kernel_rfl) (fun _ _ _ h => h) (Or.inl ⟨by rfl, (by intro W9 hSw; (try dsimp only at hSw); go_simp; first | done | with_reducible rfl)⟩) (by assumption) ?_
  simp only [Act.put, List.setIfInBounds_toArray, List.set_cons_zero, List.set_cons_succ]
  refine wpAnyH_takesC (i := 2) (v := (.pointer (some ⟨w.heap.size + 1, 0, none⟩))) (some 7) rfl rfl (by kernel_rfl) (by kernel_rfl) (by kernel_rfl) (fun _ _ _ h => h) (Or.inl ⟨by rfl, (by intro W9 hSw; (try dsimp only at hSw); go_simp; first | done | with_reducible rfl)⟩) (by assumption) ?_
  simp only [Act.put, List.setIfInBounds_toArray, List.set_cons_zero, List.set_cons_succ]
  refine wpAnyH_takesC (i := 3) (v := (.int .i64 u)) (some 8) rfl rfl (by kernel_rfl) (by kernel_rfl) (by kernel_rfl) (fun _ _ _ h => h) (Or.inl ⟨by rfl, (by intro W9 hSw; (try dsimp only at hSw); go_simp; first | done | with_reducible rfl)⟩) (by assumption) ?_
  simp only [Act.put, List.setIfInBounds_toArray, List.set_cons_zero, List.set_cons_succ]
  refine wpAnyH_takesC (i := 5) (v := (.pointer (some ⟨w.heap.size, 1, none⟩))) (some 10) rfl rfl (by kernel_rfl) (by kernel_rfl) (by kernel_rfl) (fun _ _ _ h => h) (Or.inl ⟨by rfl, (by intro W9 hSw; (try dsimp only at hSw); go_simp; first | done | with_reducible rfl)⟩) (by assumption) ?_
  simp only [Act.put, List.setIfInBounds_toArray, List.set_cons_zero, List.set_cons_succ]
  refine wpAnyH_takesC (i := 6) (v := (.int .i64 y)) (some 11) rfl rfl (by kernel_rfl) (by kernel_rfl) (by kernel_rfl) (fun _ _ _ h => h) (Or.inl ⟨by rfl, (by intro W9 hSw; (try dsimp only at hSw); go_simp; first | done | with_reducible rfl)⟩) (by assumption) ?_
  simp only [Act.put, List.setIfInBounds_toArray, List.set_cons_zero, List.set_cons_succ]
  refine wpAnyH_takesC (i := 7) (v := (.pointer (some ⟨w.heap.size + 1, 1, none⟩))) (some 12) rfl rfl (by kernel_rfl) (by kernel_rfl) (by kernel_rfl) (fun _ _ _ h => h) (Or.inl ⟨by rfl, (by intro W9 hSw; (try dsimp only at hSw); go_simp; first | done | with_reducible rfl)⟩) (by assumption) ?_
  simp only [Act.put, List.setIfInBounds_toArray, List.set_cons_zero, List.set_cons_succ]
  refine wpAnyH_takesC (i := 8) (v := (.int .i64 v)) (some 13) rfl rfl (by kernel_rfl) (by kernel_rfl) (by kernel_rfl) (fun _ _ _ h => h) (Or.inl ⟨by rfl, (by intro W9 hSw; (try dsimp only at hSw); go_simp; first | done | with_reducible rfl)⟩) (by assumption) ?_
  simp only [Act.put, List.setIfInBounds_toArray, List.set_cons_zero, List.set_cons_succ]
  refine wpAnyH_ready (rs := [4]) (by kernel_rfl) (by simp) ?_
  refine AllReadyH.cons rfl (fun K hK => ?_) AllReadyH.nil
  go_simp
  go_at_call 17
  refine (G1.out _).mono ?_
  rintro e w2 ⟨rfl, rfl⟩
  refine hK.out _ _ (by assumption) (fun hHeld2 => ?_)
  clear hK K
  try dsimp only
  refine wpAnyH_ready (rs := [9]) (by kernel_rfl) (by simp) ?_
  refine AllReadyH.cons rfl (fun K hK => ?_) AllReadyH.nil
  go_simp
  go_at_call 17
  refine (G2.out _).mono ?_
  rintro e w2 ⟨rfl, rfl⟩
  refine hK.out _ _ (by assumption) (fun hHeld3 => ?_)
  clear hK K
  try dsimp only
  refine wpAnyH_takesC (i := 10) (v := (.agg #[.int .i64 a, .int .i64 b])) (some 15) rfl rfl (by kernel_rfl) (by kernel_rfl) (by kernel_rfl) (fun _ _ _ h => h) (Or.inl ⟨by rfl, (by intro W9 hSw; (try dsimp only at hSw); go_simp; first | done | with_reducible rfl)⟩) (by assumption) ?_
  simp only [Act.put, List.setIfInBounds_toArray, List.set_cons_zero, List.set_cons_succ]
  refine wpAnyH_ready (rs := [11]) (by kernel_rfl) (by simp) ?_
  refine AllReadyH.cons rfl (fun K hK => ?_) AllReadyH.nil
  go_simp
  refine hK.out _ _ (by go_keep) (fun hHeld4 => ?_)
  clear hK K
  refine wpAnyH_done (by kernel_rfl) ?_ _
  go_wp2_with fail
  rw [← E.out]
  refine bodyPost_ret ?_ rfl HM.out
  simp [results, Try.results14, go_sem, k0d, k1d]
theorem join_any (x y u v : Int) (w : World) (h : Gp.May (x, y)) (k : Gp.May (u, v)) : Calls Try.prog 14 #[.agg #[.int .i64 x, .int .i64 y], .agg #[.int .i64 u, .int .i64 v]] w (TellC w (Gp.join (x, y) (u, v))) := by
  obtain ⟨h1, h2, h3⟩ := h
  obtain ⟨k1, k2, k3⟩ := k
  simp only at h1 h2 h3 k1 k2 k3
  exact joins x y u v _ _ w (by omega) (by omega) (by omega) (by unfold In64; omega) (by omega) (by unfold In64; omega) rfl rfl
/-- With one move more: a call of Join, if it was one. -/
theorem add_any (x y far : Int) (w : World) (h : Gp.May (x, y)) (hf : In64 far) : Calls Try.prog 12 #[.agg #[.int .i64 x, .int .i64 y], .int .i64 far] w (TellC w (Gp.add (x, y) far)) := by
  obtain ⟨h1, h2, h3⟩ := h
  simp only at h1 h2 h3
  by_cases h0 : far < 1
  · obtain ⟨W1, hW, k0, k1, hbe⟩ := boxes w x y x y 25 25
    have E := Lib.hid hW
    have HM := Lib.hid (show TellC w (Gp.add (x, y) far) (.returned (.agg #[.int .i64 x, .int .i64 y])) W1 from ⟨by rw [Gp.add_none h0]; rfl, hbe⟩)
    clear hW hbe
    go_enter Try.func12, Try.ntmps12
    go_wp2_with fail
    rw [← E.out]
    refine bodyPost_ret ?_ rfl HM.out
    simp [results, Try.results12, go_sem, k0, k1]
  · obtain ⟨W1, hW, hX⟩ := Bx.start w (.int .i64 x) (.int .i64 y) (.int .i64 0) (.int .i64 0) 25 25
    have E := Lib.hid hW
    have X := Lib.hid hX
    have hj := joins x y far 1 (min (x + far) 65535) (min (y + 1) 65535) W1 (by omega) (by omega) (by omega) hf (by omega) (by unfold In64; omega) rfl rfl
    obtain ⟨⟨a, b⟩, hab⟩ : ∃ ab, ab = Gp.add (x, y) far := ⟨_, rfl⟩
    have e := hab
    unfold Gp.add at e
    rw [if_neg h0] at e
    simp only at e
    rw [← e] at hj
    have HJ := Lib.hid hj
    rw [← hab]
    clear hW hX hj e hab h1 h2 h3
    go_enter Try.func12, Try.ntmps12
    go_wp2_with fail
    rw [← E.out]
    refine HJ.out.mono ?_
    rintro e w2 ⟨rfl, hb2⟩
    have X2 := X.out.step hb2
    have r0 := X2.r0
    have r1 := X2.r1
    have f0 := X2.f0
    have f1 := X2.f1
    obtain ⟨k0, k1⟩ := told2 (u := .int .i64 a) (v := .int .i64 b) r0 r1
    have HM := Lib.hid (show TellC w (a, b) (.returned (.agg #[.int .i64 a, .int .i64 b])) _ from ⟨rfl, (X2.below.setCell (p := ⟨w.heap.size + 1, 0, none⟩) (by simp) (.int .i64 a)).setCell (p := ⟨w.heap.size + 1, 1, none⟩) (by simp) (.int .i64 b)⟩)
    unfold cv
    simp only
    clear X2 hb2 HJ E X
    go_wp2_with fail
    refine bodyPost_ret ?_ rfl HM.out
    simp [results, Try.results12, go_sem, k0, k1]
theorem may_any (x y : Int) (T : Bool) (hT : Hid (decide (Gp.May (x, y)) = T)) (w : World) : Calls Try.prog 9 #[.agg #[.int .i64 x, .int .i64 y]] w fun e w' => e = .returned (.bool T) ∧ Below w.heap.size w w' := by
  have hm := may_is hT
  have HB := Lib.hid (below_new w (.cells #[.int .i64 x, .int .i64 y] 25))
  by_cases h1 : 0 ≤ y
  · by_cases h2 : y ≤ x
    · by_cases h3 : x ≤ 65535
      · obtain rfl : T = true := hm.2 ⟨h1, h2, h3⟩
        clear hm
        go_enter Try.func9, Try.ntmps9
        go_wp2_with fail
        go_ret
        exact ⟨rfl, HB.out⟩
      · obtain rfl : T = false := by cases T; rfl; have := hm.1 rfl; omega
        clear hm
        go_enter Try.func9, Try.ntmps9
        go_wp2_with fail
        go_ret
        exact ⟨rfl, HB.out⟩
    · obtain rfl : T = false := by cases T; rfl; have := hm.1 rfl; omega
      clear hm
      go_enter Try.func9, Try.ntmps9
      go_wp2_with fail
      go_ret
      exact ⟨rfl, HB.out⟩
  · obtain rfl : T = false := by cases T; rfl; have := hm.1 rfl; omega
    clear hm
    go_enter Try.func9, Try.ntmps9
    go_wp2_with fail
    go_ret
    exact ⟨rfl, HB.out⟩
end Go.Proofs.Ytceboejhdgjgoaa

