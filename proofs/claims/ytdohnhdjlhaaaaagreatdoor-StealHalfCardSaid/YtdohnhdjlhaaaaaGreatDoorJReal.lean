/- The law's real, by its contract: the same Runs, the rings in a row of its own. -/
import Derived.Test.YtdohnhdjlhaaaaaGreatDoorJRefMay
import Derived.Test.YtdohnhdjlhaaaaaGreatDoorM6
namespace Go.Proofs.YtdohnhdjlhaaaaaGreatDoor
open Go.RowKit
set_option linter.unusedVariables false

/-- A box, a result's place, and a variable. -/
theorem boxes3v (w : World) (p0 p1 p2 p3 p4 z0 z1 z2 z3 z4 x0 x1 x2 x3 x4 : Value) (T U U' : TypeId) : ∃ V, V = ((w.alloc (.cells #[p0, p1, p2, p3, p4] T)).alloc (.cells #[z0, z1, z2, z3, z4] U)).alloc (.cells #[x0, x1, x2, x3, x4] U') ∧
    B5 V w.heap.size p0 p1 p2 p3 p4 ∧ C5 V (w.heap.size + 1) z0 z1 z2 z3 z4 ∧ C5 V (w.heap.size + 1 + 1) x0 x1 x2 x3 x4 ∧ Below w.heap.size w V ∧ V.heap.size = w.heap.size + 1 + 1 + 1 := by
  obtain ⟨V1, hV1, a1, a2, a3, _⟩ := boxes2 w p0 p1 p2 p3 p4 z0 z1 z2 z3 z4 T U
  have s1 : V1.heap.size = w.heap.size + 1 + 1 := by rw [hV1]; simp
  have a4 := C5.new V1 x0 x1 x2 x3 x4 U'
  rw [s1] at a4
  have b1 := below_new V1 (.cells #[x0, x1, x2, x3, x4] U')
  exact ⟨V1.alloc (.cells #[x0, x1, x2, x3, x4] U'), by rw [hV1], a1.step b1, a2.step b1, a4, a3.trans (b1.mono a3.size), by simp [s1]⟩
set_option maxRecDepth 100000 in
set_option maxHeartbeats 2000000 in
theorem jreal_any {F : Nat → Prop} (d : Ad) (r : Jp.Rn) (w : World) (h : RM F w d r) (hF : ∀ b, F b → b < w.heap.size) (hlow : Low r) :
    Calls Tryz.prog 15 #[jv d r] w (TellJ F w r) := by
  obtain ⟨A0, nt, ct, R, nr, cr, S, ns, cs⟩ := d
  obtain ⟨gs, hgs, hge, hgl⟩ := h.rings
  have H := Lib.hid h
  have HFW := Lib.hid hF
  have HGS := Lib.hid hgs
  have HGE := Lib.hid hge
  have HGL := Lib.hid hgl
  obtain ⟨hr1, hr2, hr3⟩ := h.nr
  have hr4 := hlow.rings
  simp only at hr1 hr2 hr3
  have hgn : gs.length = nr := by rw [← hr1, hge, List.length_map]
  clear h hF hlow hgs hge hgl
  obtain ⟨V, hV, hX, hZ, hO, hB, hsz⟩ := boxes3v w (.slice A0 nt ct) (.int .i64 r.size) (.slice R nr cr) (.slice S ns cs) (.int .u64 (r.on : Nat)) (.slice none 0 0) (.int .i64 0) (.slice none 0 0) (.slice none 0 0) (.int .u64 0) (.slice A0 nt ct) (.int .i64 r.size) (.slice none 0 0) (.slice S ns cs) (.int .u64 (r.on : Nat)) 33 27 27
  have E := Lib.hid hV
  have X0 := Lib.hid hX
  have Z0 := Lib.hid hZ
  have O0 := Lib.hid hO
  have B0 := Lib.hid hB
  have SZ := Lib.hid hsz
  clear hV hX hZ hO hB hsz
  unfold jv
  go_enter Tryz.func15, Tryz.ntmps15
  go_wp2_with (rw [← E.out])
  clear E
  go_loopw [4] (fun i wr => ∃ k : Nat, k ≤ nr ∧ i = .int .i64 k ∧ ∃ v, Hid (XO csG 2 58 V.heap.size wr v k (gs.take k)) ∧ Hid (C5 wr (w.heap.size + 1 + 1) (.slice A0 nt ct) (.int .i64 r.size) v (.slice S ns cs) (.int .u64 (r.on : Nat))) ∧ Hid (C5 wr (w.heap.size + 1) (.slice none 0 0) (.int .i64 0) (.slice none 0 0) (.slice none 0 0) (.int .u64 0)) ∧ Hid (B5 wr w.heap.size (.slice A0 nt ct) (.int .i64 r.size) (.slice R nr cr) (.slice S ns cs) (.int .u64 (r.on : Nat))) ∧ Hid (Below w.heap.size w wr) ∧ Hid (V.heap.size ≤ wr.heap.size)) (fun i _ => nr - (intOf i).toNat)
  case atStart => exact ⟨0, Nat.zero_le _, rfl, _, Lib.hid (XO.none _ _), O0, Z0, X0, B0, Lib.hid (Nat.le_refl _)⟩
  case round =>
    obtain ⟨k, hk, rfl, v, XK, OK, ZK, PK, BK, HVB⟩ := hrel
    have d2 := PK.out.c2
    have o2 := OK.out.b5.c2
    have q2 := OK.out.f2
    obtain ⟨vA, vc, rfl⟩ := own_form XK.out.own
    by_cases hlt : k < nr
    · obtain ⟨e, he⟩ : ∃ e, gs[k]? = some e := ⟨_, List.getElem?_eq_getElem (by omega)⟩
      obtain ⟨b, off, rfl, hbw, hc⟩ := HGS.out.cells (by omega)
      have c0 := keepcell BK.out (hc k e he 0 _ rfl)
      have c1 := keepcell BK.out (hc k e he 1 _ rfl)
      rw [Nat.add_zero] at c0
      have hre := HGS.out.rows e (List.mem_of_getElem? he)
      have HRE := Lib.hid (hre.below BK.out)
      have HE := Lib.hid he
      have i0 : (0 : Int) ≤ (k : Int) := by omega
      have i1 : (k : Int) < (nr : Int) := by omega
      clear he hre hc
      go_wp2_with fail
      refine wp_region_held_drew (S := fun w' => w'.cell? ⟨w.heap.size, 2, none⟩ = some (.slice (some ⟨b, off, none⟩) nr cr) ∧ w'.cell? ⟨b, off + k * 2, none⟩ = some (.int .i64 e.x) ∧ w'.cell? ⟨b, off + k * 2 + 1, none⟩ = some (.slice e.A e.n e.c)) (by kernel_rfl) ⟨d2, c0, c1⟩ (fun hHeld => ?_)
      refine wpAnyH_takesJ (i := 0) (v := (.pointer (some ⟨w.heap.size + 1 + 1, 2, none⟩))) (some 21) rfl rfl (by kernel_rfl) (by kernel_rfl) (by kernel_rfl) (fun _ _ _ h => h) (Or.inl ⟨by rfl, (by intro W9 hSw; (try dsimp only at hSw); go_simp; first | done | with_reducible rfl)⟩) (by assumption) ?_
      simp only [Act.put, List.setIfInBounds_toArray]; try simp only [List.set_cons_zero, List.set_cons_succ]
      refine wpAnyH_takesJ (i := 2) (v := (.pointer (some ⟨w.heap.size, 2, none⟩))) (some 23) rfl rfl (by kernel_rfl) (by kernel_rfl) (by kernel_rfl) (fun _ _ _ h => h) (Or.inl ⟨by rfl, (by intro W9 hSw; (try dsimp only at hSw); go_simp; first | done | with_reducible rfl)⟩) (by assumption) ?_
      simp only [Act.put, List.setIfInBounds_toArray]; try simp only [List.set_cons_zero, List.set_cons_succ]
      refine wpAnyH_takesJ (i := 3) (v := (.slice (some ⟨b, off, none⟩) nr cr)) (some 24) rfl rfl (by kernel_rfl) (by kernel_rfl) (by kernel_rfl) (fun _ _ _ h => h) (Or.inl ⟨by rfl, (by intro W9 hSw; (try dsimp only at hSw); go_simp; first | done | with_reducible rfl)⟩) (by assumption) ?_
      simp only [Act.put, List.setIfInBounds_toArray]; try simp only [List.set_cons_zero, List.set_cons_succ]
      refine wpAnyH_takesJ (i := 4) (v := (.int .i64 (k : Nat))) (some 25) rfl rfl (by kernel_rfl) (by kernel_rfl) (by kernel_rfl) (fun _ _ _ h => h) (Or.inl ⟨by rfl, (by intro W9 hSw; (try dsimp only at hSw); go_simp; first | done | with_reducible rfl)⟩) (by assumption) ?_
      simp only [Act.put, List.setIfInBounds_toArray]; try simp only [List.set_cons_zero, List.set_cons_succ]
      refine wpAnyH_takesJ (i := 5) (v := (.pointer (some ⟨b, off + k * 2, none⟩))) (some 26) rfl rfl (by kernel_rfl) (by kernel_rfl) (by kernel_rfl) (fun _ _ _ h => h) (Or.inl ⟨by rfl, (by intro W9 hSw; (try dsimp only at hSw); go_simp; first | done | with_reducible rfl)⟩) (by assumption) ?_
      simp only [Act.put, List.setIfInBounds_toArray]; try simp only [List.set_cons_zero, List.set_cons_succ]
      refine wpAnyH_takesJ (i := 6) (v := (.pointer (some ⟨b, off + k * 2, none⟩))) (some 27) rfl rfl (by kernel_rfl) (by kernel_rfl) (by kernel_rfl) (fun _ _ _ h => h) (Or.inl ⟨by rfl, (by intro W9 hSw; (try dsimp only at hSw); go_simp; first | done | with_reducible rfl)⟩) (by assumption) ?_
      simp only [Act.put, List.setIfInBounds_toArray]; try simp only [List.set_cons_zero, List.set_cons_succ]
      refine wpAnyH_takesJ (i := 7) (v := (.int .i64 e.x)) (some 28) rfl rfl (by kernel_rfl) (by kernel_rfl) (by kernel_rfl) (fun _ _ _ h => h) (Or.inl ⟨by rfl, (by intro W9 hSw; (try dsimp only at hSw); go_simp; first | done | with_reducible rfl)⟩) (by assumption) ?_
      simp only [Act.put, List.setIfInBounds_toArray]; try simp only [List.set_cons_zero, List.set_cons_succ]
      refine wpAnyH_takesJ (i := 8) (v := (.pointer (some ⟨w.heap.size, 2, none⟩))) (some 29) rfl rfl (by kernel_rfl) (by kernel_rfl) (by kernel_rfl) (fun _ _ _ h => h) (Or.inl ⟨by rfl, (by intro W9 hSw; (try dsimp only at hSw); go_simp; first | done | with_reducible rfl)⟩) (by assumption) ?_
      simp only [Act.put, List.setIfInBounds_toArray]; try simp only [List.set_cons_zero, List.set_cons_succ]
      refine wpAnyH_takesJ (i := 9) (v := (.slice (some ⟨b, off, none⟩) nr cr)) (some 30) rfl rfl (by kernel_rfl) (by kernel_rfl) (by kernel_rfl) (fun _ _ _ h => h) (Or.inl ⟨by rfl, (by intro W9 hSw; (try dsimp only at hSw); go_simp; first | done | with_reducible rfl)⟩) (by assumption) ?_
      simp only [Act.put, List.setIfInBounds_toArray]; try simp only [List.set_cons_zero, List.set_cons_succ]
      refine wpAnyH_takesJ (i := 10) (v := (.int .i64 (k : Nat))) (some 31) rfl rfl (by kernel_rfl) (by kernel_rfl) (by kernel_rfl) (fun _ _ _ h => h) (Or.inl ⟨by rfl, (by intro W9 hSw; (try dsimp only at hSw); go_simp; first | done | with_reducible rfl)⟩) (by assumption) ?_
      simp only [Act.put, List.setIfInBounds_toArray]; try simp only [List.set_cons_zero, List.set_cons_succ]
      refine wpAnyH_takesJ (i := 11) (v := (.pointer (some ⟨b, off + k * 2, none⟩))) (some 32) rfl rfl (by kernel_rfl) (by kernel_rfl) (by kernel_rfl) (fun _ _ _ h => h) (Or.inl ⟨by rfl, (by intro W9 hSw; (try dsimp only at hSw); go_simp; first | done | with_reducible rfl)⟩) (by assumption) ?_
      simp only [Act.put, List.setIfInBounds_toArray]; try simp only [List.set_cons_zero, List.set_cons_succ]
      refine wpAnyH_takesJ (i := 12) (v := (.pointer (some ⟨b, off + k * 2 + 1, none⟩))) (some 33) rfl rfl (by kernel_rfl) (by kernel_rfl) (by kernel_rfl) (fun _ _ _ h => h) (Or.inl ⟨by rfl, (by intro W9 hSw; (try dsimp only at hSw); go_simp; first | done | with_reducible rfl)⟩) (by assumption) ?_
      simp only [Act.put, List.setIfInBounds_toArray]; try simp only [List.set_cons_zero, List.set_cons_succ]
      refine wpAnyH_takesJ (i := 13) (v := (.slice e.A e.n e.c)) (some 34) rfl rfl (by kernel_rfl) (by kernel_rfl) (by kernel_rfl) (fun _ _ _ h => h) (Or.inl ⟨by rfl, (by intro W9 hSw; (try dsimp only at hSw); go_simp; first | done | with_reducible rfl)⟩) (by assumption) ?_
      simp only [Act.put, List.setIfInBounds_toArray]; try simp only [List.set_cons_zero, List.set_cons_succ]
      refine wpAnyH_takesJ (i := 14) (v := (.agg #[.int .i64 e.x, .slice e.A e.n e.c])) (some 35) rfl rfl (by kernel_rfl) (by kernel_rfl) (by kernel_rfl) (fun _ _ _ h => h) (Or.inl ⟨by rfl, (by intro W9 hSw; (try dsimp only at hSw); go_simp; first | done | with_reducible rfl)⟩) (by assumption) ?_
      simp only [Act.put, List.setIfInBounds_toArray]; try simp only [List.set_cons_zero, List.set_cons_succ]
      refine wpAnyH_ready (rs := [1, 15]) (by kernel_rfl) (by simp) ?_
      refine AllReadyH.cons rfl (fun K hK => ?_) (AllReadyH.cons rfl (fun K hK => ?_) AllReadyH.nil)
      · go_simp
        refine hK.out _ _ (by exact ⟨d2, c0, c1⟩) (fun hHeld => ?_)
        clear hK K
        try dsimp only
        refine wpAnyH_ready (rs := [15]) (by kernel_rfl) (by simp) ?_
        refine AllReadyH.cons rfl (fun K hK => ?_) AllReadyH.nil
        go_simp
        have hb2 : Below wr.heap.size wr ((wr.alloc (.cells #[.int .i64 e.x, .slice e.A e.n e.c] 58)).drew) := (below_new wr _).drew
        have O2 := OK.out.step hb2
        have Z2 := ZK.out.step hb2
        have P2 := PK.out.step hb2
        have B2 := held_trans BK.out hb2
        have c02 := keepcell hb2 c0
        have c12 := keepcell hb2 c1
        have XK2 := XK.out.step hb2
        have hnews : ∀ j u, ([e].flatMap csG)[j]? = some u → ((wr.alloc (.cells #[.int .i64 e.x, .slice e.A e.n e.c] 58)).drew).cell? ((⟨wr.heap.size, 0, none⟩ : Addr).add j) = some u := one_new (T := 58) wr e
        have hrow1 : ∀ e' ∈ [e], Row ((wr.alloc (.cells #[.int .i64 e.x, .slice e.A e.n e.c] 58)).drew) e'.A e'.n e'.c e'.l := fun e' he' => by rw [List.mem_singleton.1 he']; exact HRE.out.below hb2
        have hap1 : ∀ e' ∈ [e], Apart (.slice vA k vc) e' := fun e' he' hne ad hA ho => by
          rw [List.mem_singleton.1 he'] at hne hA
          have := HFW.out _ (HGL.out.2 e (List.mem_of_getElem? HE.out) hne ad hA)
          have := (XK.out.own.lt _ ho).1
          have := SZ.out
          omega
        have hbs : V.heap.size ≤ ((wr.alloc (.cells #[.int .i64 e.x, .slice e.A e.n e.c] 58)).drew).heap.size := by have h1 := hb2.size; have h2 := HVB.out; omega
        refine hK.out _ _ (by exact ⟨P2.c2, c02, c12⟩) (fun hHeld => ?_)
        clear hK K
        try dsimp only
        refine wpAnyH_ready (rs := [16]) (by kernel_rfl) (by simp) ?_
        refine AllReadyH.cons rfl (fun K hK => ?_) AllReadyH.nil
        refine step_append_rring (by rfl) (.tmp 22) (.tmp 36) (by rfl) V.heap.size (.slice vA k vc) k (gs.take k) (by exact XK2) (by rfl) ⟨wr.heap.size, 0, none⟩ 1 1 [e] (by rfl) rfl (by exact hnews) (by exact hrow1) (by exact hap1) (by decide) (by omega) (by exact hbs) ?_
        intro g cap w' hx hg
        have hgb := hx.own.lt g rfl
        have hgk : ∀ j, (Value.slice vA k vc).ownBlock = some j → V.heap.size ≤ j := fun j hj => (XK.out.own.lt j hj).1
        have hne : ∀ j, j < w.heap.size + 1 + 1 + 1 → some j ≠ (Value.slice vA k vc).ownBlock := fun j hj e => by
          have := hgk j e.symm
          have := SZ.out
          omega
        have O3 := O2.grown hg (hne _ (by omega))
        have Z3 := Z2.grown hg (hne _ (by omega))
        have P3 := P2.grown hg (hne _ (by omega))
        have c03 := hg.cell c02 (hne b (by omega))
        have c13 := hg.cell c12 (hne b (by omega))
        have B3 := B2.grown hg B2.size (fun j hj => by have := hgk j hj; have := SZ.out; omega)
        refine hK.out _ _ (by exact ⟨P3.c2, c03, c13⟩) (fun hHeld => ?_)
        clear hK K
        try dsimp only
        refine wpAnyH_takesJ (i := 17) (v := (.pointer (some ⟨w.heap.size + 1 + 1, 2, none⟩))) (some 38) rfl rfl (by kernel_rfl) (by kernel_rfl) (by kernel_rfl) (fun _ _ _ h => h) (Or.inl ⟨by rfl, (by intro W9 hSw; (try dsimp only at hSw); go_simp; first | done | with_reducible rfl)⟩) (by assumption) ?_
        simp only [Act.put, List.setIfInBounds_toArray]; try simp only [List.set_cons_zero, List.set_cons_succ]
        have o23 := O3.b5.c2
        have q23 := O3.f2
        refine wpAnyH_ready (rs := [18]) (by kernel_rfl) (by simp) ?_
        refine AllReadyH.cons rfl (fun K hK => ?_) AllReadyH.nil
        go_simp
        have hrb : ∀ e' ∈ gs.take k ++ [e], e'.l ≠ [] → ∀ ad, e'.A = some ad → ad.block < w.heap.size := fun e' he' hne ad hA => by
          rcases List.mem_append.1 he' with h' | h'
          · exact HFW.out _ (HGL.out.2 e' (List.mem_of_mem_take h') hne ad hA)
          · rw [List.mem_singleton.1 h'] at hne hA
            exact HFW.out _ (HGL.out.2 e (List.mem_of_getElem? HE.out) hne ad hA)
        have XK4 := Lib.hid (show XO csG 2 58 V.heap.size (w'.setCell ⟨w.heap.size + 1 + 1, 2, none⟩ (.slice (some ⟨g, 0, none⟩) (k + 1) cap)) (.slice (some ⟨g, 0, none⟩) (k + 1) cap) (k + 1) (gs.take (k + 1)) from by
          rw [List.take_add_one, HE.out]
          exact hx.far (X := w.heap.size + 1 + 1) (j := 2) (u := .slice (some ⟨g, 0, none⟩) (k + 1) cap) (by have := SZ.out; omega) (fun e' he' hne ad hA => by have := hrb e' he' hne ad hA; omega))
        have O4 := Lib.hid (O3.set2 (.slice (some ⟨g, 0, none⟩) (k + 1) cap))
        have Z4 := Lib.hid (Z3.far (p := ⟨w.heap.size + 1 + 1, 2, none⟩) (u := .slice (some ⟨g, 0, none⟩) (k + 1) cap) (by simp only; omega))
        have P4 := Lib.hid (P3.far (p := ⟨w.heap.size + 1 + 1, 2, none⟩) (u := .slice (some ⟨g, 0, none⟩) (k + 1) cap) (by simp only; omega))
        have B4 := Lib.hid (B3.setCell (p := ⟨w.heap.size + 1 + 1, 2, none⟩) (by simp only; omega) (.slice (some ⟨g, 0, none⟩) (k + 1) cap))
        refine hK.out _ _ (by exact ⟨P4.out.c2, farcell (by omega) c03, farcell (by omega) c13⟩) (fun hHeld => ?_)
        clear hK K
        try dsimp only
        refine wpAnyH_done (by kernel_rfl) ?_ _
        have HV4 := Lib.hid (show V.heap.size ≤ (w'.setCell ⟨w.heap.size + 1 + 1, 2, none⟩ (.slice (some ⟨g, 0, none⟩) (k + 1) cap)).heap.size from by have := hgb; simp [World.setCell]; omega)
        clear hx hg O3 Z3 P3 c03 c13 B3 O2 Z2 P2 c02 c12 B2 XK2 hnews hrow1 hap1 hbs o23 q23 o2 q2 c0 c1 d2 hHeld hrb hne hgk
        go_wp2_with fail
        go_roundw
        case rel => exact ⟨k + 1, by omega, by go_num, _, XK4, O4, Z4, P4, B4, HV4⟩
        case measure => simp [intOf]; omega
      · go_simp
        have hb2 : Below wr.heap.size wr ((wr.alloc (.cells #[.int .i64 e.x, .slice e.A e.n e.c] 58)).drew) := (below_new wr _).drew
        have O2 := OK.out.step hb2
        have Z2 := ZK.out.step hb2
        have P2 := PK.out.step hb2
        have B2 := held_trans BK.out hb2
        have c02 := keepcell hb2 c0
        have c12 := keepcell hb2 c1
        have XK2 := XK.out.step hb2
        have hnews : ∀ j u, ([e].flatMap csG)[j]? = some u → ((wr.alloc (.cells #[.int .i64 e.x, .slice e.A e.n e.c] 58)).drew).cell? ((⟨wr.heap.size, 0, none⟩ : Addr).add j) = some u := one_new (T := 58) wr e
        have hrow1 : ∀ e' ∈ [e], Row ((wr.alloc (.cells #[.int .i64 e.x, .slice e.A e.n e.c] 58)).drew) e'.A e'.n e'.c e'.l := fun e' he' => by rw [List.mem_singleton.1 he']; exact HRE.out.below hb2
        have hap1 : ∀ e' ∈ [e], Apart (.slice vA k vc) e' := fun e' he' hne ad hA ho => by
          rw [List.mem_singleton.1 he'] at hne hA
          have := HFW.out _ (HGL.out.2 e (List.mem_of_getElem? HE.out) hne ad hA)
          have := (XK.out.own.lt _ ho).1
          have := SZ.out
          omega
        have hbs : V.heap.size ≤ ((wr.alloc (.cells #[.int .i64 e.x, .slice e.A e.n e.c] 58)).drew).heap.size := by have h1 := hb2.size; have h2 := HVB.out; omega
        have o22 := O2.b5.c2
        refine hK.out _ _ (by exact ⟨P2.c2, c02, c12⟩) (fun hHeld => ?_)
        clear hK K
        try dsimp only
        refine wpAnyH_ready (rs := [1]) (by kernel_rfl) (by simp) ?_
        refine AllReadyH.cons rfl (fun K hK => ?_) AllReadyH.nil
        go_simp
        refine hK.out _ _ (by exact ⟨P2.c2, c02, c12⟩) (fun hHeld => ?_)
        clear hK K o22
        try dsimp only
        refine wpAnyH_ready (rs := [16]) (by kernel_rfl) (by simp) ?_
        refine AllReadyH.cons rfl (fun K hK => ?_) AllReadyH.nil
        refine step_append_rring (by rfl) (.tmp 22) (.tmp 36) (by rfl) V.heap.size (.slice vA k vc) k (gs.take k) (by exact XK2) (by rfl) ⟨wr.heap.size, 0, none⟩ 1 1 [e] (by rfl) rfl (by exact hnews) (by exact hrow1) (by exact hap1) (by decide) (by omega) (by exact hbs) ?_
        intro g cap w' hx hg
        have hgb := hx.own.lt g rfl
        have hgk : ∀ j, (Value.slice vA k vc).ownBlock = some j → V.heap.size ≤ j := fun j hj => (XK.out.own.lt j hj).1
        have hne : ∀ j, j < w.heap.size + 1 + 1 + 1 → some j ≠ (Value.slice vA k vc).ownBlock := fun j hj e => by
          have := hgk j e.symm
          have := SZ.out
          omega
        have O3 := O2.grown hg (hne _ (by omega))
        have Z3 := Z2.grown hg (hne _ (by omega))
        have P3 := P2.grown hg (hne _ (by omega))
        have c03 := hg.cell c02 (hne b (by omega))
        have c13 := hg.cell c12 (hne b (by omega))
        have B3 := B2.grown hg B2.size (fun j hj => by have := hgk j hj; have := SZ.out; omega)
        refine hK.out _ _ (by exact ⟨P3.c2, c03, c13⟩) (fun hHeld => ?_)
        clear hK K
        try dsimp only
        refine wpAnyH_takesJ (i := 17) (v := (.pointer (some ⟨w.heap.size + 1 + 1, 2, none⟩))) (some 38) rfl rfl (by kernel_rfl) (by kernel_rfl) (by kernel_rfl) (fun _ _ _ h => h) (Or.inl ⟨by rfl, (by intro W9 hSw; (try dsimp only at hSw); go_simp; first | done | with_reducible rfl)⟩) (by assumption) ?_
        simp only [Act.put, List.setIfInBounds_toArray]; try simp only [List.set_cons_zero, List.set_cons_succ]
        have o23 := O3.b5.c2
        have q23 := O3.f2
        refine wpAnyH_ready (rs := [18]) (by kernel_rfl) (by simp) ?_
        refine AllReadyH.cons rfl (fun K hK => ?_) AllReadyH.nil
        go_simp
        have hrb : ∀ e' ∈ gs.take k ++ [e], e'.l ≠ [] → ∀ ad, e'.A = some ad → ad.block < w.heap.size := fun e' he' hne ad hA => by
          rcases List.mem_append.1 he' with h' | h'
          · exact HFW.out _ (HGL.out.2 e' (List.mem_of_mem_take h') hne ad hA)
          · rw [List.mem_singleton.1 h'] at hne hA
            exact HFW.out _ (HGL.out.2 e (List.mem_of_getElem? HE.out) hne ad hA)
        have XK4 := Lib.hid (show XO csG 2 58 V.heap.size (w'.setCell ⟨w.heap.size + 1 + 1, 2, none⟩ (.slice (some ⟨g, 0, none⟩) (k + 1) cap)) (.slice (some ⟨g, 0, none⟩) (k + 1) cap) (k + 1) (gs.take (k + 1)) from by
          rw [List.take_add_one, HE.out]
          exact hx.far (X := w.heap.size + 1 + 1) (j := 2) (u := .slice (some ⟨g, 0, none⟩) (k + 1) cap) (by have := SZ.out; omega) (fun e' he' hne ad hA => by have := hrb e' he' hne ad hA; omega))
        have O4 := Lib.hid (O3.set2 (.slice (some ⟨g, 0, none⟩) (k + 1) cap))
        have Z4 := Lib.hid (Z3.far (p := ⟨w.heap.size + 1 + 1, 2, none⟩) (u := .slice (some ⟨g, 0, none⟩) (k + 1) cap) (by simp only; omega))
        have P4 := Lib.hid (P3.far (p := ⟨w.heap.size + 1 + 1, 2, none⟩) (u := .slice (some ⟨g, 0, none⟩) (k + 1) cap) (by simp only; omega))
        have B4 := Lib.hid (B3.setCell (p := ⟨w.heap.size + 1 + 1, 2, none⟩) (by simp only; omega) (.slice (some ⟨g, 0, none⟩) (k + 1) cap))
        refine hK.out _ _ (by exact ⟨P4.out.c2, farcell (by omega) c03, farcell (by omega) c13⟩) (fun hHeld => ?_)
        clear hK K
        try dsimp only
        refine wpAnyH_done (by kernel_rfl) ?_ _
        have HV4 := Lib.hid (show V.heap.size ≤ (w'.setCell ⟨w.heap.size + 1 + 1, 2, none⟩ (.slice (some ⟨g, 0, none⟩) (k + 1) cap)).heap.size from by have := hgb; simp [World.setCell]; omega)
        clear hx hg O3 Z3 P3 c03 c13 B3 O2 Z2 P2 c02 c12 B2 XK2 hnews hrow1 hap1 hbs o23 q23 o2 q2 c0 c1 d2 hHeld hrb hne hgk
        go_wp2_with fail
        go_roundw
        case rel => exact ⟨k + 1, by omega, by go_num, _, XK4, O4, Z4, P4, B4, HV4⟩
        case measure => simp [intOf]; omega
    · obtain rfl : k = nr := by omega
      have XF := XK.out
      rw [List.take_of_length_le (by omega)] at XF
      have t0 := OK.out.b5.c0
      have t1 := OK.out.b5.c1
      have t3 := OK.out.b5.c3
      have t4 := OK.out.b5.c4
      have y0 := ZK.out.b5.c0
      have y1 := ZK.out.b5.c1
      have y2 := ZK.out.b5.c2
      have y3 := ZK.out.b5.c3
      have y4 := ZK.out.b5.c4
      have g0 := ZK.out.f0
      have g1 := ZK.out.f1
      have g2 := ZK.out.f2
      have g3 := ZK.out.f3
      have g4 := ZK.out.f4
      obtain ⟨A5, c5, e5, hx5, hf5⟩ := XF.xr csG_len (by decide)
      injection e5 with e51 _ e52
      subst e51 e52
      have hvs := SZ.out
      have hvs2 := HVB.out
      have B9 := below_put (b := w.heap.size + 1) BK.out (by omega) (.slice A0 nt ct) (.int .i64 r.size) (.slice vA k vc) (.slice S ns cs) (.int .u64 (r.on : Nat))
      have hlie : LieE (More F w) vA gs := ⟨fun _ ad e => .inr (by have := hf5 ad e; omega), fun e he hne ad hA => .inl (HGL.out.2 e he hne ad hA)⟩
      have hX : LieE (fun b => b ≠ w.heap.size + 1) vA gs := ⟨fun _ ad e => by have := hf5 ad e; omega, fun e he hne ad hA => by have := HFW.out _ (HGL.out.2 e he hne ad hA); omega⟩
      have hx9 := ((((hx5.farj (j := 0) (u := .slice A0 nt ct) hX).farj (j := 1) (u := .int .i64 r.size) hX).farj (j := 2) (u := .slice vA k vc) hX).farj (j := 3) (u := .slice S ns cs) hX).farj (j := 4) (u := .int .u64 (r.on : Nat)) hX
      have HB := (H.out.below B9).mono (G := More F w) More.in
      have HF := Lib.hid (TellJ.is (F := F) (w0 := w) (d := ⟨A0, nt, ct, vA, k, vc, S, ns, cs⟩) (r := r) ⟨HB.tlen, HB.tmax, HB.fit, HB.tree, HB.lie, ⟨gs, hx9, HGE.out, hlie⟩, HB.rows, HB.on, HB.size⟩ B9)
      obtain ⟨k0, k1, k2, k3, k4⟩ := put5_told ZK.out (.slice A0 nt ct) (.int .i64 r.size) (.slice vA k vc) (.slice S ns cs) (.int .u64 (r.on : Nat))
      unfold put5 at k0 k1 k2 k3 k4
      clear B9 hlie hX hx9 HB hx5 hf5 XF q2
      go_wp2_with fail
      refine bodyPost_ret ?_ rfl HF.out
      simp [results, Tryz.results15, go_sem, k0, k1, k2, k3, k4, jv]
end Go.Proofs.YtdohnhdjlhaaaaaGreatDoor

