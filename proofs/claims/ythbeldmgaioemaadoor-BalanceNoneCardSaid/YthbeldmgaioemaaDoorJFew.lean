/- The document's Few, Same, by their contracts. -/
import Derived.Test.YthbeldmgaioemaaDoorJRefMay
import Derived.Test.YthbeldmgaioemaaDoorM1
namespace Go.Proofs.YthbeldmgaioemaaDoor
open Go.RowKit
set_option linter.unusedVariables false

structure FewP (r : Jp.Rn) : Prop where
  tree : r.tree.length ≤ 64
  rings : r.rings.length ≤ 40
  rows : r.rows.length ≤ 40
  ring : ∀ g ∈ r.rings, g.2.length ≤ 40
  row : ∀ l ∈ r.rows, l.length ≤ 40
  fit : InA r
theorem FewP.low {r : Jp.Rn} (h : FewP r) : Low r := ⟨by have := h.rings; omega, by have := h.rows; omega, fun g hg => by have := h.ring g hg; omega, fun l hl => by have := h.row l hl; omega, h.tree, h.fit⟩
set_option maxRecDepth 100000 in
set_option maxHeartbeats 1000000 in
theorem few_any {F : Nat → Prop} (d : Ad) (r : Jp.Rn) (T : Bool) (w : World) (HT : Hid (T = true ↔ FewP r)) (h : RM F w d r) (hfit : InA r) :
    Calls Tryd.prog 10 #[jv d r] w fun e w' => e = .returned (.bool T) ∧ Below w.heap.size w w' := by
  obtain ⟨A0, nt, ct, R, nr, cr, S, ns, cs⟩ := d
  have H := Lib.hid h
  obtain ⟨hr1, hr2, hr3⟩ := h.nr
  obtain ⟨hs1, hs2, hs3⟩ := h.ns
  have htl := h.tlen
  have htm := h.tmax
  simp only at hr1 hr2 hr3 hs1 hs2 hs3 htl htm
  clear h
  obtain ⟨V, hV, hX, hB⟩ := B5.start w (.slice A0 nt ct) (.int .i64 r.size) (.slice R nr cr) (.slice S ns cs) (.int .u64 (r.on : Nat)) 27
  have E := Lib.hid hV
  have X0 := Lib.hid hX
  have B0 := Lib.hid hB
  have d0 := hX.c0
  have d2 := hX.c2
  have d3 := hX.c3
  clear hV hX hB
  unfold jv
  go_enter Tryd.func10, Tryd.ntmps10
  by_cases t1 : 64 < nt
  · obtain rfl := t_no HT (fun hM => by have := hM.tree; omega)
    have t1' : (64 : Int) < (nt : Int) := by omega
    go_wp2_with (rw [← E.out])
    go_ret
    exact ⟨rfl, B0.out⟩
  have t1' : ¬ (64 : Int) < (nt : Int) := by omega
  by_cases t2 : 40 < nr
  · obtain rfl := t_no HT (fun hM => by have := hM.rings; omega)
    have t2' : (40 : Int) < (nr : Int) := by omega
    go_wp2_with (rw [← E.out])
    go_ret
    exact ⟨rfl, B0.out⟩
  have t2' : ¬ (40 : Int) < (nr : Int) := by omega
  by_cases t3 : 40 < ns
  · obtain rfl := t_no HT (fun hM => by have := hM.rows; omega)
    have t3' : (40 : Int) < (ns : Int) := by omega
    go_wp2_with (rw [← E.out])
    go_ret
    exact ⟨rfl, B0.out⟩
  have t3' : ¬ (40 : Int) < (ns : Int) := by omega
  go_wp2_with (rw [← E.out])
  clear E
  go_loopw [3] (fun i wr => ∃ k : Nat, k ≤ nr ∧ i = .int .i64 k ∧ Hid (∀ j, j < k → ∀ y, r.rings[j]? = some y → y.2.length ≤ 40) ∧ Hid (wr = V)) (fun i _ => nr - (intOf i).toNat)
  case atStart => exact ⟨0, Nat.zero_le _, rfl, Lib.hid (fun j hj => absurd hj (by omega)), Lib.hid rfl⟩
  case round =>
    obtain ⟨k, hk, rfl, HG, HW⟩ := hrel
    obtain rfl := HW.out
    by_cases hlt : k < nr
    · obtain ⟨x, hx⟩ : ∃ x, r.rings[k]? = some x := ⟨_, List.getElem?_eq_getElem (by omega)⟩
      obtain ⟨b1, o1, A, n, c, hR, _, c0, c1, hrow⟩ := (H.out.below B0.out).ringAt hx
      simp only at hR
      subst hR
      have HX := Lib.hid hx
      have HN := Lib.hid hrow.len
      have i0 : (0 : Int) ≤ (k : Int) := by omega
      have i1 : (k : Int) < (nr : Int) := by omega
      clear hx hrow
      by_cases l1 : 40 < n
      · obtain rfl := t_no HT (fun hM => by have := hM.ring x (List.mem_of_getElem? HX.out); have := HN.out; omega)
        have l1' : (40 : Int) < (n : Int) := by omega
        clear HT
        go_wp2_with fail
        go_ret
        exact ⟨rfl, (B0.out)⟩
      · have l1' : ¬ (40 : Int) < (n : Int) := by omega
        have HG2 := Lib.hid (show ∀ j, j < k + 1 → ∀ y, r.rings[j]? = some y → y.2.length ≤ 40 from fun j hj y hy => by
          by_cases e : j = k
          · subst e
            rw [HX.out] at hy
            injection hy with hy
            subst hy
            have := HN.out; omega
          · exact HG.out j (by omega) y hy)
        go_wp2_with fail
        go_roundw
        case rel => exact ⟨k + 1, by omega, by go_num, HG2, Lib.hid trivial⟩
        case measure => simp [intOf]; omega
    · obtain rfl : k = nr := by omega
      have HGA := Lib.hid (show ∀ y ∈ r.rings, y.2.length ≤ 40 from fun y hy => by
        obtain ⟨j, hj⟩ := List.mem_iff_getElem?.1 hy
        exact HG.out j (by rw [← hr1]; exact (List.getElem?_eq_some_iff.1 hj).1) y hj)
      clear HG HW
      go_wp2_with fail
      go_loopw [4] (fun i wr' => ∃ k : Nat, k ≤ ns ∧ i = .int .i64 k ∧ Hid (∀ j, j < k → ∀ y, r.rows[j]? = some y → y.length ≤ 40) ∧ Hid (wr' = wr)) (fun i _ => ns - (intOf i).toNat)
      case atStart => exact ⟨0, Nat.zero_le _, rfl, Lib.hid (fun j hj => absurd hj (by omega)), Lib.hid rfl⟩
      case round =>
        obtain ⟨j, hj, rfl, HG, HW⟩ := hrel
        obtain rfl := HW.out
        by_cases hlj : j < ns
        · obtain ⟨x, hx⟩ : ∃ x, r.rows[j]? = some x := ⟨_, List.getElem?_eq_getElem (by omega)⟩
          obtain ⟨b1, o1, A, n, c, hR, _, c0, hrow⟩ := (H.out.below B0.out).rowAt hx
          simp only at hR
          subst hR
          have HX := Lib.hid hx
          have HN := Lib.hid hrow.len
          have i0 : (0 : Int) ≤ (j : Int) := by omega
          have i1 : (j : Int) < (ns : Int) := by omega
          clear hx hrow
          by_cases l1 : 40 < n
          · obtain rfl := t_no HT (fun hM => by have := hM.row x (List.mem_of_getElem? HX.out); have := HN.out; omega)
            have l1' : (40 : Int) < (n : Int) := by omega
            clear HT
            go_wp2_with fail
            go_ret
            exact ⟨rfl, (B0.out)⟩
          · have l1' : ¬ (40 : Int) < (n : Int) := by omega
            have HG2 := Lib.hid (show ∀ t, t < j + 1 → ∀ y, r.rows[t]? = some y → y.length ≤ 40 from fun t ht y hy => by
              by_cases e : t = j
              · subst e
                rw [HX.out] at hy
                injection hy with hy
                subst hy
                have := HN.out; omega
              · exact HG.out t (by omega) y hy)
            go_wp2_with fail
            go_roundw
            case rel => exact ⟨j + 1, by omega, by go_num, HG2, Lib.hid trivial⟩
            case measure => simp [intOf]; omega
        · obtain rfl : j = ns := by omega
          obtain rfl : T = true := HT.out.2 ⟨by omega, by omega, by omega, HGA.out, fun y hy => by
            obtain ⟨t, ht⟩ := List.mem_iff_getElem?.1 hy
            exact HG.out t (by rw [← hs1]; exact (List.getElem?_eq_some_iff.1 ht).1) y ht, hfit⟩
          clear HT
          go_wp2_with fail
          go_ret
          exact ⟨rfl, (B0.out)⟩
set_option maxRecDepth 100000 in
set_option maxHeartbeats 2000000 in
/-- Two that are the same, in whatever places. -/
theorem jsame_any {F G : Nat → Prop} (d d' : Ad) (r r' : Jp.Rn) (w : World) (h : RM F w d r) (h' : RM G w d' r') (hlow : Low r) (er : r.rings = r'.rings) (es : r.rows = r'.rows) (eo : r.on = r'.on) :
    Calls Tryd.prog 16 #[jv d r, jv d' r'] w fun e w' => e = .returned (.bool true) ∧ Below w.heap.size w w' := by
  obtain ⟨A0, nt, ct, R, nr, cr, S, ns, cs⟩ := d
  obtain ⟨A1, nt', ct', R', nr', cr', S', ns', cs'⟩ := d'
  have H := Lib.hid h
  have H' := Lib.hid h'
  obtain ⟨hr1, hr2, hr3⟩ := h.nr
  obtain ⟨hs1, hs2, hs3⟩ := h.ns
  obtain ⟨hr1', hr2', hr3'⟩ := h'.nr
  obtain ⟨hs1', hs2', hs3'⟩ := h'.ns
  have hr4 := hlow.rings
  have hs4 := hlow.rows
  simp only at hr1 hr2 hr3 hs1 hs2 hs3 hr1' hr2' hr3' hs1' hs2' hs3'
  obtain rfl : nr' = nr := by rw [← hr1, ← hr1', er]
  obtain rfl : ns' = ns := by rw [← hs1, ← hs1', es]
  have ER := Lib.hid er
  have ES := Lib.hid es
  have HLR := Lib.hid hlow.ring
  have HLS := Lib.hid hlow.row
  clear h h' er es hlow
  obtain ⟨V1, hV1⟩ : ∃ V1, V1 = w.alloc (.cells #[.slice A0 nt ct, .int .i64 r.size, .slice R nr' cr, .slice S ns' cs, .int .u64 (r.on : Nat)] 27) := ⟨_, rfl⟩
  obtain ⟨V, hV⟩ : ∃ V, V = V1.alloc (.cells #[.slice A1 nt' ct', .int .i64 r'.size, .slice R' nr' cr', .slice S' ns' cs', .int .u64 (r.on : Nat)] 27) := ⟨_, rfl⟩
  have s1 : V1.heap.size = w.heap.size + 1 := by rw [hV1]; simp
  have X1 := B5.new w (.slice A0 nt ct) (.int .i64 r.size) (.slice R nr' cr) (.slice S ns' cs) (.int .u64 (r.on : Nat)) 27
  rw [← hV1] at X1
  have Y1 := B5.new V1 (.slice A1 nt' ct') (.int .i64 r'.size) (.slice R' nr' cr') (.slice S' ns' cs') (.int .u64 (r.on : Nat)) 27
  rw [← hV, s1] at Y1
  have b1 : Below V1.heap.size V1 V := by rw [hV]; exact below_new _ _
  have X0 := Lib.hid (X1.step b1)
  have Y0 := Lib.hid Y1
  have B0 := Lib.hid (show Below w.heap.size w V from (show Below w.heap.size w V1 from by rw [hV1]; exact below_new _ _).trans (b1.mono (by omega)))
  rw [hV1] at hV
  have E := Lib.hid hV
  have d2 := X0.out.c2
  have d3 := X0.out.c3
  have d4 := X0.out.c4
  have e2 := Y0.out.c2
  have e3 := Y0.out.c3
  have e4 := Y0.out.c4
  clear hV hV1 X1 Y1 b1 s1
  unfold jv
  simp only
  rw [← eo]
  clear eo
  go_enter Tryd.func16, Tryd.ntmps16
  go_wp2_with (rw [← E.out])
  clear E
  go_loopw [5] (fun i wr => ∃ k : Nat, k ≤ nr' ∧ i = .int .i64 k ∧ Hid (Below V.heap.size V wr)) (fun i _ => nr' - (intOf i).toNat)
  case atStart => exact ⟨0, Nat.zero_le _, rfl, Lib.hid (Below.refl _ _)⟩
  case round =>
    obtain ⟨k, hk, rfl, HB⟩ := hrel
    have B1 := Lib.hid (held_trans B0.out HB.out)
    have X1 := X0.out.step HB.out
    have Y1 := Y0.out.step HB.out
    have d2 := X1.c2
    have d3 := X1.c3
    have e2 := Y1.c2
    have e3 := Y1.c3
    clear X1 Y1
    by_cases hlt : k < nr'
    · obtain ⟨x, hx⟩ : ∃ x, r.rings[k]? = some x := ⟨_, List.getElem?_eq_getElem (by omega)⟩
      obtain ⟨b1, o1, A, n, c, hR, _, c0, c1, hrow⟩ := (H.out.below B1.out).ringAt hx
      obtain ⟨b2, o2, A2, n2, c2, hR2, _, f0, f1, hrow2⟩ := (H'.out.below B1.out).ringAt (x := x) (by rw [← ER.out]; exact hx)
      simp only at hR hR2
      subst hR hR2
      obtain rfl : n2 = n := hrow2.len.symm.trans hrow.len
      have HC := Lib.hid (same_any x.1 A A2 n2 c c2 x.2 wr.drew hrow.drew hrow2.drew)
      have i0 : (0 : Int) ≤ (k : Int) := by omega
      have i1 : (k : Int) < (nr' : Int) := by omega
      clear hx hrow hrow2
      go_wp2_with fail
      refine wp_region_held_drew (S := fun w' => w'.cell? ⟨w.heap.size, 2, none⟩ = some (.slice (some ⟨b1, o1, none⟩) nr' cr) ∧ w'.cell? ⟨w.heap.size + 1, 2, none⟩ = some (.slice (some ⟨b2, o2, none⟩) nr' cr') ∧ w'.cell? ⟨b1, o1 + k * 2, none⟩ = some (.int .i64 x.1) ∧ w'.cell? ⟨b1, o1 + k * 2 + 1, none⟩ = some (.slice A n2 c) ∧ w'.cell? ⟨b2, o2 + k * 2, none⟩ = some (.int .i64 x.1) ∧ w'.cell? ⟨b2, o2 + k * 2 + 1, none⟩ = some (.slice A2 n2 c2)) (by kernel_rfl) ⟨d2, e2, c0, c1, f0, f1⟩ (fun hHeld => ?_)
      refine wpAnyH_takesJ (i := 0) (v := (.pointer (some ⟨w.heap.size, 2, none⟩))) (some 37) rfl rfl (by kernel_rfl) (by kernel_rfl) (by kernel_rfl) (fun _ _ _ h => h) (Or.inl ⟨by rfl, (by intro W9 hSw; (try dsimp only at hSw); go_simp; first | done | with_reducible rfl)⟩) (by assumption) ?_
      simp only [Act.put, List.setIfInBounds_toArray]; try simp only [List.set_cons_zero, List.set_cons_succ]
      refine wpAnyH_takesJ (i := 1) (v := (.slice (some ⟨b1, o1, none⟩) nr' cr)) (some 38) rfl rfl (by kernel_rfl) (by kernel_rfl) (by kernel_rfl) (fun _ _ _ h => h) (Or.inl ⟨by rfl, (by intro W9 hSw; (try dsimp only at hSw); go_simp; first | done | with_reducible rfl)⟩) (by assumption) ?_
      simp only [Act.put, List.setIfInBounds_toArray]; try simp only [List.set_cons_zero, List.set_cons_succ]
      refine wpAnyH_takesJ (i := 2) (v := (.int .i64 (k : Nat))) (some 39) rfl rfl (by kernel_rfl) (by kernel_rfl) (by kernel_rfl) (fun _ _ _ h => h) (Or.inl ⟨by rfl, (by intro W9 hSw; (try dsimp only at hSw); go_simp; first | done | with_reducible rfl)⟩) (by assumption) ?_
      simp only [Act.put, List.setIfInBounds_toArray]; try simp only [List.set_cons_zero, List.set_cons_succ]
      refine wpAnyH_takesJ (i := 3) (v := (.pointer (some ⟨b1, o1 + k * 2, none⟩))) (some 40) rfl rfl (by kernel_rfl) (by kernel_rfl) (by kernel_rfl) (fun _ _ _ h => h) (Or.inl ⟨by rfl, (by intro W9 hSw; (try dsimp only at hSw); go_simp; first | done | with_reducible rfl)⟩) (by assumption) ?_
      simp only [Act.put, List.setIfInBounds_toArray]; try simp only [List.set_cons_zero, List.set_cons_succ]
      refine wpAnyH_takesJ (i := 4) (v := (.agg #[.int .i64 x.1, .slice A n2 c])) (some 41) rfl rfl (by kernel_rfl) (by kernel_rfl) (by kernel_rfl) (fun _ _ _ h => h) (Or.inl ⟨by rfl, (by intro W9 hSw; (try dsimp only at hSw); go_simp; first | done | with_reducible rfl)⟩) (by assumption) ?_
      simp only [Act.put, List.setIfInBounds_toArray]; try simp only [List.set_cons_zero, List.set_cons_succ]
      refine wpAnyH_takesJ (i := 5) (v := (.pointer (some ⟨w.heap.size + 1, 2, none⟩))) (some 42) rfl rfl (by kernel_rfl) (by kernel_rfl) (by kernel_rfl) (fun _ _ _ h => h) (Or.inl ⟨by rfl, (by intro W9 hSw; (try dsimp only at hSw); go_simp; first | done | with_reducible rfl)⟩) (by assumption) ?_
      simp only [Act.put, List.setIfInBounds_toArray]; try simp only [List.set_cons_zero, List.set_cons_succ]
      refine wpAnyH_takesJ (i := 6) (v := (.slice (some ⟨b2, o2, none⟩) nr' cr')) (some 43) rfl rfl (by kernel_rfl) (by kernel_rfl) (by kernel_rfl) (fun _ _ _ h => h) (Or.inl ⟨by rfl, (by intro W9 hSw; (try dsimp only at hSw); go_simp; first | done | with_reducible rfl)⟩) (by assumption) ?_
      simp only [Act.put, List.setIfInBounds_toArray]; try simp only [List.set_cons_zero, List.set_cons_succ]
      refine wpAnyH_takesJ (i := 7) (v := (.int .i64 (k : Nat))) (some 44) rfl rfl (by kernel_rfl) (by kernel_rfl) (by kernel_rfl) (fun _ _ _ h => h) (Or.inl ⟨by rfl, (by intro W9 hSw; (try dsimp only at hSw); go_simp; first | done | with_reducible rfl)⟩) (by assumption) ?_
      simp only [Act.put, List.setIfInBounds_toArray]; try simp only [List.set_cons_zero, List.set_cons_succ]
      refine wpAnyH_takesJ (i := 8) (v := (.pointer (some ⟨b2, o2 + k * 2, none⟩))) (some 45) rfl rfl (by kernel_rfl) (by kernel_rfl) (by kernel_rfl) (fun _ _ _ h => h) (Or.inl ⟨by rfl, (by intro W9 hSw; (try dsimp only at hSw); go_simp; first | done | with_reducible rfl)⟩) (by assumption) ?_
      simp only [Act.put, List.setIfInBounds_toArray]; try simp only [List.set_cons_zero, List.set_cons_succ]
      refine wpAnyH_takesJ (i := 9) (v := (.agg #[.int .i64 x.1, .slice A2 n2 c2])) (some 46) rfl rfl (by kernel_rfl) (by kernel_rfl) (by kernel_rfl) (fun _ _ _ h => h) (Or.inl ⟨by rfl, (by intro W9 hSw; (try dsimp only at hSw); go_simp; first | done | with_reducible rfl)⟩) (by assumption) ?_
      simp only [Act.put, List.setIfInBounds_toArray]; try simp only [List.set_cons_zero, List.set_cons_succ]
      refine wpAnyH_ready (rs := [10]) (by kernel_rfl) (by simp) ?_
      refine AllReadyH.cons rfl (fun K hK => ?_) AllReadyH.nil
      go_simp
      go_at_call 28
      refine HC.out.mono ?_
      rintro e w4 ⟨rfl, hb4⟩
      have hbe := (Below.refl wr.heap.size wr).drew.trans (hb4.mono (by simp))
      refine hK.out _ _ (by exact ⟨keepcell hbe d2, keepcell hbe e2, keepcell hbe c0, keepcell hbe c1, keepcell hbe f0, keepcell hbe f1⟩) (fun hHeld => ?_)
      clear hK K
      try dsimp only
      refine wpAnyH_takesJ (i := 11) (v := (.bool false)) (some 48) rfl rfl (by kernel_rfl) (by kernel_rfl) (by kernel_rfl) (fun _ _ _ h => h) (Or.inl ⟨by rfl, (by intro W9 hSw; (try dsimp only at hSw); go_simp; first | done | with_reducible rfl)⟩) (by assumption) ?_
      simp only [Act.put, List.setIfInBounds_toArray]; try simp only [List.set_cons_zero, List.set_cons_succ]
      refine wpAnyH_done (by kernel_rfl) ?_ _
      have HB2 := Lib.hid (HB.out.trans (hbe.mono HB.out.size))
      clear hbe hb4 d2 d3 e2 e3 c0 c1 f0 f1 HC hHeld
      go_wp2_with fail
      go_roundw
      case rel => exact ⟨k + 1, by omega, by go_num, HB2⟩
      case measure => simp [intOf]; omega
    · obtain rfl : k = nr' := by omega
      obtain ⟨wo, rfl⟩ : ∃ wo : World, wo = wr := ⟨_, rfl⟩
      go_wp2_with fail
      clear d2 d3 e2 e3
      go_loopw [6] (fun i wr => ∃ k : Nat, k ≤ ns' ∧ i = .int .i64 k ∧ Hid (Below V.heap.size V wr)) (fun i _ => ns' - (intOf i).toNat)
      case atStart => exact ⟨0, Nat.zero_le _, rfl, HB⟩
      case round =>
        clear HB B1
        obtain ⟨j, hj, rfl, HB⟩ := hrel
        have B1 := Lib.hid (held_trans B0.out HB.out)
        have X1 := X0.out.step HB.out
        have Y1 := Y0.out.step HB.out
        have d3 := X1.c3
        have e3 := Y1.c3
        clear X1 Y1
        by_cases hlj : j < ns'
        · obtain ⟨x, hx⟩ : ∃ x, r.rows[j]? = some x := ⟨_, List.getElem?_eq_getElem (by omega)⟩
          obtain ⟨b1, o1, A, n, c, hR, _, c0, hrow⟩ := (H.out.below B1.out).rowAt hx
          obtain ⟨b2, o2, A2, n2, c2, hR2, _, f0, hrow2⟩ := (H'.out.below B1.out).rowAt (x := x) (by rw [← ES.out]; exact hx)
          simp only at hR hR2
          subst hR hR2
          obtain rfl : n2 = n := hrow2.len.symm.trans hrow.len
          have HC := Lib.hid (ints_same A A2 n2 c c2 x wr.drew (Lib.hid hrow.len) (by have := hrow.cap; have := hrow.most; omega) hrow.drew.row hrow2.drew.row)
          have i0 : (0 : Int) ≤ (j : Int) := by omega
          have i1 : (j : Int) < (ns' : Int) := by omega
          clear hx hrow hrow2
          go_wp2_with fail
          refine wp_region_held_drew (S := fun w' => w'.cell? ⟨w.heap.size, 3, none⟩ = some (.slice (some ⟨b1, o1, none⟩) ns' cs) ∧ w'.cell? ⟨w.heap.size + 1, 3, none⟩ = some (.slice (some ⟨b2, o2, none⟩) ns' cs') ∧ w'.cell? ⟨b1, o1 + j, none⟩ = some (.slice A n2 c) ∧ w'.cell? ⟨b2, o2 + j, none⟩ = some (.slice A2 n2 c2)) (by kernel_rfl) ⟨d3, e3, c0, f0⟩ (fun hHeld => ?_)
          refine wpAnyH_takesJ (i := 0) (v := (.pointer (some ⟨w.heap.size, 3, none⟩))) (some 56) rfl rfl (by kernel_rfl) (by kernel_rfl) (by kernel_rfl) (fun _ _ _ h => h) (Or.inl ⟨by rfl, (by intro W9 hSw; (try dsimp only at hSw); go_simp; first | done | with_reducible rfl)⟩) (by assumption) ?_
          simp only [Act.put, List.setIfInBounds_toArray]; try simp only [List.set_cons_zero, List.set_cons_succ]
          refine wpAnyH_takesJ (i := 1) (v := (.slice (some ⟨b1, o1, none⟩) ns' cs)) (some 57) rfl rfl (by kernel_rfl) (by kernel_rfl) (by kernel_rfl) (fun _ _ _ h => h) (Or.inl ⟨by rfl, (by intro W9 hSw; (try dsimp only at hSw); go_simp; first | done | with_reducible rfl)⟩) (by assumption) ?_
          simp only [Act.put, List.setIfInBounds_toArray]; try simp only [List.set_cons_zero, List.set_cons_succ]
          refine wpAnyH_takesJ (i := 2) (v := (.int .i64 (j : Nat))) (some 58) rfl rfl (by kernel_rfl) (by kernel_rfl) (by kernel_rfl) (fun _ _ _ h => h) (Or.inl ⟨by rfl, (by intro W9 hSw; (try dsimp only at hSw); go_simp; first | done | with_reducible rfl)⟩) (by assumption) ?_
          simp only [Act.put, List.setIfInBounds_toArray]; try simp only [List.set_cons_zero, List.set_cons_succ]
          refine wpAnyH_takesJ (i := 3) (v := (.pointer (some ⟨b1, o1 + j, none⟩))) (some 59) rfl rfl (by kernel_rfl) (by kernel_rfl) (by kernel_rfl) (fun _ _ _ h => h) (Or.inl ⟨by rfl, (by intro W9 hSw; (try dsimp only at hSw); go_simp; first | done | with_reducible rfl)⟩) (by assumption) ?_
          simp only [Act.put, List.setIfInBounds_toArray]; try simp only [List.set_cons_zero, List.set_cons_succ]
          refine wpAnyH_takesJ (i := 4) (v := (.slice A n2 c)) (some 60) rfl rfl (by kernel_rfl) (by kernel_rfl) (by kernel_rfl) (fun _ _ _ h => h) (Or.inl ⟨by rfl, (by intro W9 hSw; (try dsimp only at hSw); go_simp; first | done | with_reducible rfl)⟩) (by assumption) ?_
          simp only [Act.put, List.setIfInBounds_toArray]; try simp only [List.set_cons_zero, List.set_cons_succ]
          refine wpAnyH_takesJ (i := 5) (v := (.pointer (some ⟨w.heap.size + 1, 3, none⟩))) (some 61) rfl rfl (by kernel_rfl) (by kernel_rfl) (by kernel_rfl) (fun _ _ _ h => h) (Or.inl ⟨by rfl, (by intro W9 hSw; (try dsimp only at hSw); go_simp; first | done | with_reducible rfl)⟩) (by assumption) ?_
          simp only [Act.put, List.setIfInBounds_toArray]; try simp only [List.set_cons_zero, List.set_cons_succ]
          refine wpAnyH_takesJ (i := 6) (v := (.slice (some ⟨b2, o2, none⟩) ns' cs')) (some 62) rfl rfl (by kernel_rfl) (by kernel_rfl) (by kernel_rfl) (fun _ _ _ h => h) (Or.inl ⟨by rfl, (by intro W9 hSw; (try dsimp only at hSw); go_simp; first | done | with_reducible rfl)⟩) (by assumption) ?_
          simp only [Act.put, List.setIfInBounds_toArray]; try simp only [List.set_cons_zero, List.set_cons_succ]
          refine wpAnyH_takesJ (i := 7) (v := (.int .i64 (j : Nat))) (some 63) rfl rfl (by kernel_rfl) (by kernel_rfl) (by kernel_rfl) (fun _ _ _ h => h) (Or.inl ⟨by rfl, (by intro W9 hSw; (try dsimp only at hSw); go_simp; first | done | with_reducible rfl)⟩) (by assumption) ?_
          simp only [Act.put, List.setIfInBounds_toArray]; try simp only [List.set_cons_zero, List.set_cons_succ]
          refine wpAnyH_takesJ (i := 8) (v := (.pointer (some ⟨b2, o2 + j, none⟩))) (some 64) rfl rfl (by kernel_rfl) (by kernel_rfl) (by kernel_rfl) (fun _ _ _ h => h) (Or.inl ⟨by rfl, (by intro W9 hSw; (try dsimp only at hSw); go_simp; first | done | with_reducible rfl)⟩) (by assumption) ?_
          simp only [Act.put, List.setIfInBounds_toArray]; try simp only [List.set_cons_zero, List.set_cons_succ]
          refine wpAnyH_takesJ (i := 9) (v := (.slice A2 n2 c2)) (some 65) rfl rfl (by kernel_rfl) (by kernel_rfl) (by kernel_rfl) (fun _ _ _ h => h) (Or.inl ⟨by rfl, (by intro W9 hSw; (try dsimp only at hSw); go_simp; first | done | with_reducible rfl)⟩) (by assumption) ?_
          simp only [Act.put, List.setIfInBounds_toArray]; try simp only [List.set_cons_zero, List.set_cons_succ]
          refine wpAnyH_ready (rs := [10]) (by kernel_rfl) (by simp) ?_
          refine AllReadyH.cons rfl (fun K hK => ?_) AllReadyH.nil
          go_simp
          go_at_call 29
          refine HC.out.mono ?_
          rintro e w4 ⟨rfl, hb4⟩
          have hbe := (Below.refl wr.heap.size wr).drew.trans (hb4.mono (by simp))
          refine hK.out _ _ (by exact ⟨keepcell hbe d3, keepcell hbe e3, keepcell hbe c0, keepcell hbe f0⟩) (fun hHeld => ?_)
          clear hK K
          try dsimp only
          refine wpAnyH_takesJ (i := 11) (v := (.bool false)) (some 67) rfl rfl (by kernel_rfl) (by kernel_rfl) (by kernel_rfl) (fun _ _ _ h => h) (Or.inl ⟨by rfl, (by intro W9 hSw; (try dsimp only at hSw); go_simp; first | done | with_reducible rfl)⟩) (by assumption) ?_
          simp only [Act.put, List.setIfInBounds_toArray]; try simp only [List.set_cons_zero, List.set_cons_succ]
          refine wpAnyH_done (by kernel_rfl) ?_ _
          have HB2 := Lib.hid (HB.out.trans (hbe.mono HB.out.size))
          clear hbe hb4 d3 e3 c0 f0 HC hHeld
          go_wp2_with fail
          go_roundw
          case rel => exact ⟨j + 1, by omega, by go_num, HB2⟩
          case measure => simp [intOf]; omega
        · obtain rfl : j = ns' := by omega
          go_wp2_with fail
          go_ret
          exact ⟨rfl, B1.out⟩
end Go.Proofs.YthbeldmgaioemaaDoor

