/- runs.Put, by its contract. -/
import Derived.Test.YtgloibgmaiadfaaGreatDoorM8
import Derived.Test.YtgloibgmaiadfaaGreatDoorM6
namespace Go.Proofs.YtgloibgmaiadfaaGreatDoor
open Go.RowKit
set_option linter.unusedVariables false

set_option maxRecDepth 100000 in
set_option maxHeartbeats 4000000 in
theorem runsPut_any {F : Nat → Prop} (d : Ad) (r : Jp.Rn) (n g : Int) (w : World) (h : RM F w d r) (hF : ∀ b, F b → b < w.heap.size) (hlow : Low r) (hn : In64 n) (hg : In64 g) (hT : Tab w) :
    Calls Tryz.prog 7 #[jv d r, .int .i64 n, .int .i64 g] w (TellJE F w (Jp.put r n g)) := by
  obtain ⟨A0, nt, ct, R, nr, cr, S, ns, cs⟩ := d
  have H := Lib.hid h
  have HL := Lib.hid hlow
  obtain ⟨hs1, hs2, hs3⟩ := h.nr
  have hs4 := hlow.rings
  simp only at hs1 hs2 hs3
  have HTW := Lib.hid hT
  have HTL := Lib.hid h.tlen
  have HTM := Lib.hid h.tmax
  simp only at HTL HTM
  obtain ⟨V, hV, hX, hZ, hB, hsz⟩ := boxes2 w (.slice A0 nt ct) (.int .i64 r.size) (.slice R nr cr) (.slice S ns cs) (.int .u64 (r.on : Nat)) (.slice none 0 0) (.int .i64 0) (.slice none 0 0) (.slice none 0 0) (.int .u64 0) 33 33
  have hap := runsApart_any ⟨A0, nt, ct, R, nr, cr, S, ns, cs⟩ r V (h.below hB) hlow
  unfold jv at hap
  simp only at hap
  have AP := Lib.hid hap
  have E := Lib.hid hV
  have X0 := Lib.hid hX
  have Z0 := Lib.hid hZ
  have B0 := Lib.hid hB
  have SZ := hsz
  have d0 := hX.c0
  have d1 := hX.c1
  have d2 := hX.c2
  have d3 := hX.c3
  have d4 := hX.c4
  clear hV hX hZ hB hap h hlow hF hT hsz
  unfold jv
  go_enter Tryz.func7, Tryz.ntmps7
  go_wp2_with (rw [← E.out])
  clear E
  refine AP.out.mono ?_
  rintro e w1 ⟨⟨T1, nt1, ct1, R1, nr1, cr1, S1, ns1, cs1⟩, B1', B2', B3', es, ls, rfl, htold, hb1⟩
  unfold jv
  simp only
  have hb2 := below_new w1 (.cells #[.slice T1 nt1 ct1, .int .i64 r.size, .slice R1 nr1 cr1, .slice S1 ns1 cs1, .int .u64 (r.on : Nat)] 33)
  obtain ⟨w2, hw2⟩ : ∃ w2, w2 = w1.alloc (.cells #[.slice T1 nt1 ct1, .int .i64 r.size, .slice R1 nr1 cr1, .slice S1 ns1 cs1, .int .u64 (r.on : Nat)] 33) := ⟨_, rfl⟩
  have hY := C5.new w1 (.slice T1 nt1 ct1) (.int .i64 r.size) (.slice R1 nr1 cr1) (.slice S1 ns1 cs1) (.int .u64 (r.on : Nat)) 33
  rw [← hw2] at hb2 hY
  have E2 := Lib.hid hw2
  have hb12 := hb1.trans (hb2.mono hb1.size)
  have X2 := Lib.hid (X0.out.step hb12)
  have Z2 := Lib.hid (Z0.out.step hb12)
  have BB2 := Lib.hid (held_trans B0.out hb12)
  have T2 := Lib.hid (htold.step hb2)
  have TD := Lib.hid htold
  have Y2 := Lib.hid hY
  have hns := htold.nr
  have hs1' := hb1.size
  have hcm := comes_any ⟨A0, nt, ct, R, nr, cr, S, ns, cs⟩ r n (nr : Int) g w2 (H.out.below BB2.out) HL.out (HTW.out.step BB2.out)
  unfold jv at hcm
  simp only at hcm hns
  have CM := Lib.hid hcm
  have p0 := X2.out.c0
  have p1 := X2.out.c1
  have p2 := X2.out.c2
  have p3 := X2.out.c3
  have p4 := X2.out.c4
  obtain ⟨hns1, hns2⟩ := hns
  clear hb1 hb2 hb12 hw2 hY htold hcm X0 Z0 B0 AP d0 d1 d2 d3 d4
  go_wp2_with (rw [← E2.out])
  clear E2
  refine CM.out.mono ?_
  rintro e w3 ⟨rfl, hb3⟩
  have Z3 := Lib.hid (Z2.out.step hb3)
  have X3 := Lib.hid (Y2.out.step hb3)
  have BB3 := Lib.hid (held_trans BB2.out hb3)
  have T3 := Lib.hid (T2.out.step hb3)
  have SZ3 := hb3.size
  have SZ2 := Y2.out.lt
  have XX3 := Lib.hid (X2.out.step hb3)
  clear CM p0 p1 p2 p3 p4 X2 Z2 BB2 T2 Y2 hb3
  by_cases hA : ¬ Jp.May r ∨ n < 0 ∨ (nr : Int) ≤ n ∨ g < 1
  · have HP := Lib.hid (Jp.put_arg (r := r) (p := n) (g := g) (by rw [hs1]; exact hA))
    rw [cmV_arg hA]
    clear hA
    have d0 := ((X3.out)).b5.c0
    have d1 := ((X3.out)).b5.c1
    have d2 := ((X3.out)).b5.c2
    have d3 := ((X3.out)).b5.c3
    have d4 := ((X3.out)).b5.c4
    have y0 := ((Z3.out)).b5.c0
    have y1 := ((Z3.out)).b5.c1
    have y2 := ((Z3.out)).b5.c2
    have y3 := ((Z3.out)).b5.c3
    have y4 := ((Z3.out)).b5.c4
    have g0 := ((Z3.out)).f0
    have g1 := ((Z3.out)).f1
    have g2 := ((Z3.out)).f2
    have g3 := ((Z3.out)).f3
    have g4 := ((Z3.out)).f4
    have HF := Lib.hid (tell_no (F := F) (w := w) (Z := w.heap.size + 1) (e := 1) (HP.out) (T3.out) (by omega) (by omega) (by omega) (BB3.out) (.slice T1 nt1 ct1) (.int .i64 r.size) (.slice R1 nr1 cr1) (.slice S1 ns1 cs1) (.int .u64 (r.on : Nat)))
    obtain ⟨k0, k1, k2, k3, k4⟩ := put5_told ((Z3.out)) (.slice T1 nt1 ct1) (.int .i64 r.size) (.slice R1 nr1 cr1) (.slice S1 ns1 cs1) (.int .u64 (r.on : Nat))
    unfold put5 at k0 k1 k2 k3 k4
    go_wp2_with fail
    refine bodyPost_ret ?_ rfl HF.out
    simp [results, Tryz.results7, go_sem, k0, k1, k2, k3, k4, jv]
  have HNA := Lib.hid hA
  clear hA
  by_cases hh : Tp.has (Jp.all r) g = true
  · have HP := Lib.hid (Jp.put_there (r := r) (p := n) (g := g) (by rw [hs1]; exact HNA.out) hh)
    rw [cmV_there HNA.out hh]
    clear hh
    have d0 := ((X3.out)).b5.c0
    have d1 := ((X3.out)).b5.c1
    have d2 := ((X3.out)).b5.c2
    have d3 := ((X3.out)).b5.c3
    have d4 := ((X3.out)).b5.c4
    have y0 := ((Z3.out)).b5.c0
    have y1 := ((Z3.out)).b5.c1
    have y2 := ((Z3.out)).b5.c2
    have y3 := ((Z3.out)).b5.c3
    have y4 := ((Z3.out)).b5.c4
    have g0 := ((Z3.out)).f0
    have g1 := ((Z3.out)).f1
    have g2 := ((Z3.out)).f2
    have g3 := ((Z3.out)).f3
    have g4 := ((Z3.out)).f4
    have HF := Lib.hid (tell_no (F := F) (w := w) (Z := w.heap.size + 1) (e := 5) (HP.out) (T3.out) (by omega) (by omega) (by omega) (BB3.out) (.slice T1 nt1 ct1) (.int .i64 r.size) (.slice R1 nr1 cr1) (.slice S1 ns1 cs1) (.int .u64 (r.on : Nat)))
    obtain ⟨k0, k1, k2, k3, k4⟩ := put5_told ((Z3.out)) (.slice T1 nt1 ct1) (.int .i64 r.size) (.slice R1 nr1 cr1) (.slice S1 ns1 cs1) (.int .u64 (r.on : Nat))
    unfold put5 at k0 k1 k2 k3 k4
    go_wp2_with fail
    refine bodyPost_ret ?_ rfl HF.out
    simp [results, Tryz.results7, go_sem, k0, k1, k2, k3, k4, jv]
  have hf := Jp.has_no.2 (fun h => hh (Jp.has_iff.2 h))
  have hMM := Classical.byContradiction (fun h => HNA.out (.inl h))
  obtain ⟨p, rfl⟩ := Int.eq_ofNat_of_zero_le (show 0 ≤ n from Int.not_lt.1 (fun h => HNA.out (.inr (.inl h))))
  have hpn' : p < nr := by have := Int.not_le.1 (fun h => HNA.out (.inr (.inr (.inl h)))); omega
  rw [cmV_ok HNA.out hf]
  have HHS := Lib.hid (has_any r.on (p : Int) w3 H.out.on)
  have t4 := XX3.out.c4
  have HFF := Lib.hid hf
  have HMM := Lib.hid hMM
  clear hh hf hMM
  go_wp2_with fail
  refine HHS.out.mono ?_
  rintro e w4 ⟨rfl, hb4⟩
  have X4 := Lib.hid (X3.out.step hb4)
  have Z4 := Lib.hid (Z3.out.step hb4)
  have B4 := Lib.hid (held_trans BB3.out hb4)
  have T4 := Lib.hid (T3.out.step hb4)
  have XX4 := Lib.hid (XX3.out.step hb4)
  have SZ4 := hb4.size
  rw [has_onP]
  clear hb4 HHS t4 X3 Z3 T3 XX3
  cases hon : Jp.onP r (p : Int)
  · have HP := Lib.hid (Jp.put_off (r := r) (p := (p : Int)) (g := g) (by rw [hs1]; exact HNA.out) HFF.out hon)
    clear hon
    have d0 := ((X4.out)).b5.c0
    have d1 := ((X4.out)).b5.c1
    have d2 := ((X4.out)).b5.c2
    have d3 := ((X4.out)).b5.c3
    have d4 := ((X4.out)).b5.c4
    have y0 := ((Z4.out)).b5.c0
    have y1 := ((Z4.out)).b5.c1
    have y2 := ((Z4.out)).b5.c2
    have y3 := ((Z4.out)).b5.c3
    have y4 := ((Z4.out)).b5.c4
    have g0 := ((Z4.out)).f0
    have g1 := ((Z4.out)).f1
    have g2 := ((Z4.out)).f2
    have g3 := ((Z4.out)).f3
    have g4 := ((Z4.out)).f4
    have HF := Lib.hid (tell_no (F := F) (w := w) (Z := w.heap.size + 1) (e := 4) (HP.out) (T4.out) (by omega) (by omega) (by omega) (B4.out) (.slice T1 nt1 ct1) (.int .i64 r.size) (.slice R1 nr1 cr1) (.slice S1 ns1 cs1) (.int .u64 (r.on : Nat)))
    obtain ⟨k0, k1, k2, k3, k4⟩ := put5_told ((Z4.out)) (.slice T1 nt1 ct1) (.int .i64 r.size) (.slice R1 nr1 cr1) (.slice S1 ns1 cs1) (.int .u64 (r.on : Nat))
    unfold put5 at k0 k1 k2 k3 k4
    go_wp2_with fail
    refine bodyPost_ret ?_ rfl HF.out
    simp [results, Tryz.results7, go_sem, k0, k1, k2, k3, k4, jv]
  have HP := Lib.hid (Jp.put_done (r := r) (p := p) (g := g) (by rw [hs1]; exact HNA.out) HFF.out hon)
  clear hon HNA HFF
  have hpn : p < nr1 := by omega
  obtain ⟨m0, hnd, hm0⟩ := Jp.node_at HMM.out.tree (k := p) (by rw [← HMM.out.rings]; omega)
  have hrl := TD.out.ns
  simp only at hrl
  have hm1 : m0 < ns1 := by rw [← hrl.1, HMM.out.rows]; exact hm0
  obtain ⟨gS, cap, eS, _, hgS, _, _⟩ := TD.out.rows.form (show 0 < ns1 by omega)
  injection eS with eS1 _ eS2
  subst eS1 eS2
  obtain ⟨gR, cap, eR, _, hgR, _, _⟩ := TD.out.own.form (show 0 < nr1 by omega)
  injection eR with eR1 _ eR2
  subst eR1 eR2
  obtain ⟨e0, he0⟩ : ∃ e, ls[m0]? = some e := ⟨_, List.getElem?_eq_getElem (by omega)⟩
  obtain ⟨ep, hep⟩ : ∃ e, es[p]? = some e := ⟨_, List.getElem?_eq_getElem (by omega)⟩
  have hre0 : r.rows[m0]? = some e0.l := by rw [← TD.out.isl, List.getElem?_map, he0]; rfl
  obtain ⟨⟨xx, zs⟩, hx0⟩ : ∃ x, r.rings[p]? = some x := ⟨_, List.getElem?_eq_getElem (by omega)⟩
  obtain ⟨⟨⟨px, pl⟩, po⟩, hput⟩ : ∃ v, v = Rp.put (xx, zs) g r.size := ⟨_, rfl⟩
  have hex : ep.x = xx := by
    have := hx0
    rw [← TD.out.is, List.getElem?_map, hep] at this
    injection this with this
    exact congrArg Prod.fst this
  have HEX := Lib.hid hex
  have HEP := Lib.hid hep
  have hnO : Jp.nodeOf r p = m0 := by unfold Jp.nodeOf; rw [hnd]; rfl
  have HPE := Lib.hid (show Jp.put r p g = (Jp.rowed (Jp.ringed r p (px, pl)) m0 (e0.l ++ po), 0) by
    rw [HP.out]; unfold Jp.done; rw [hnO]; unfold Jp.rowAt Jp.ringAt; rw [hre0, hx0]; simp only [Option.getD_some]; rw [← hput])
  have HND := Lib.hid hnd
  have hQB := fun k' hk' => ((TD.out.ours m0 e0 he0).lt k' hk').2
  have HQB := Lib.hid hQB
  have HSB := Lib.hid (show ∀ k, (Value.slice (some ⟨gS, 0, none⟩) ns1 cs1).ownBlock = some k → k < w1.heap.size from fun k hk => by cases hk; exact hgS)
  have HGY := Lib.hid hgS
  have HGR := Lib.hid hgR
  have TUP := Lib.hid (show V.heap.size + 2 ≤ w1.heap.size by have := TD.out.o01; have := TD.out.o12; have := TD.out.o23; have := TD.out.up; omega)
  have RD := Lib.hid (T4.out.ready (may_tree HMM.out) he0)
  have hm : e0.n ≤ 400 := by
    rw [← (TD.out.rows.rows e0 (List.mem_of_getElem? he0)).len]
    exact HL.out.row e0.l (List.mem_of_getElem? hre0)
  obtain ⟨b, off, A, na0, ca0, hR, _, c0x, c1x, hrow⟩ := (H.out.below B4.out).ringAt hx0
  simp only at hR
  subst hR
  have hna0 : na0 ≤ 400 := by rw [← hrow.len]; exact HL.out.ring (xx, zs) (List.mem_of_getElem? hx0)
  have HRW := Lib.hid hrow
  have i0 : (0 : Int) ≤ (p : Int) := by omega
  have i1 : (p : Int) < (nr : Int) := by omega
  have i1' : (p : Int) < (nr1 : Int) := by omega
  have q1 := XX4.out.c1
  have q2 := XX4.out.c2
  have hsp := Jp.put_spill (xx, zs) g r.size
  rw [← hput] at hsp
  simp only at hsp
  have HSP := Lib.hid hsp.1
  have HPUT := Lib.hid hput
  clear hput
  clear he0 hre0 hx0 hex hep hnO HP hnd hQB hrow hgS hgR hm0 hrl T4 TD hsp
  go_wp2_with fail
  refine wp_region_held_drew (S := fun w' => (w'.cell? ⟨w.heap.size, 1, none⟩ = some (.int .i64 r.size) ∧ w'.cell? ⟨w.heap.size, 2, none⟩ = some (.slice (some ⟨b, off, none⟩) nr cr)) ∧ w'.cell? ⟨b, off + p * 2, none⟩ = some (.int .i64 xx) ∧ w'.cell? ⟨b, off + p * 2 + 1, none⟩ = some (.slice A na0 ca0)) (by kernel_rfl) ⟨⟨q1, q2⟩, c0x, c1x⟩ (fun hHeld => ?_)
  refine wpAnyH_takesJ (i := 0) (v := (.pointer (some ⟨w.heap.size, 2, none⟩))) (some 33) rfl rfl (by kernel_rfl) (by kernel_rfl) (by kernel_rfl) (fun _ _ _ h => h) (Or.inl ⟨by rfl, (by intro W9 hSw; (try dsimp only at hSw); go_simp; first | done | with_reducible rfl)⟩) (by assumption) ?_
  simp only [Act.put, List.setIfInBounds_toArray]; try simp only [List.set_cons_zero, List.set_cons_succ]
  refine wpAnyH_takesJ (i := 1) (v := (.slice (some ⟨b, off, none⟩) nr cr)) (some 34) rfl rfl (by kernel_rfl) (by kernel_rfl) (by kernel_rfl) (fun _ _ _ h => h) (Or.inl ⟨by rfl, (by intro W9 hSw; (try dsimp only at hSw); go_simp; first | done | with_reducible rfl)⟩) (by assumption) ?_
  simp only [Act.put, List.setIfInBounds_toArray]; try simp only [List.set_cons_zero, List.set_cons_succ]
  refine wpAnyH_takesJ (i := 2) (v := (.int .i64 (p : Nat))) (some 35) rfl rfl (by kernel_rfl) (by kernel_rfl) (by kernel_rfl) (fun _ _ _ h => h) (Or.inl ⟨by rfl, (by intro W9 hSw; (try dsimp only at hSw); go_simp; first | done | with_reducible rfl)⟩) (by assumption) ?_
  simp only [Act.put, List.setIfInBounds_toArray]; try simp only [List.set_cons_zero, List.set_cons_succ]
  refine wpAnyH_takesJ (i := 3) (v := (.pointer (some ⟨b, off + p * 2, none⟩))) (some 36) rfl rfl (by kernel_rfl) (by kernel_rfl) (by kernel_rfl) (fun _ _ _ h => h) (Or.inl ⟨by rfl, (by intro W9 hSw; (try dsimp only at hSw); go_simp; first | done | with_reducible rfl)⟩) (by assumption) ?_
  simp only [Act.put, List.setIfInBounds_toArray]; try simp only [List.set_cons_zero, List.set_cons_succ]
  refine wpAnyH_takesJ (i := 4) (v := (.agg #[.int .i64 xx, .slice A na0 ca0])) (some 37) rfl rfl (by kernel_rfl) (by kernel_rfl) (by kernel_rfl) (fun _ _ _ h => h) (Or.inl ⟨by rfl, (by intro W9 hSw; (try dsimp only at hSw); go_simp; first | done | with_reducible rfl)⟩) (by assumption) ?_
  simp only [Act.put, List.setIfInBounds_toArray]; try simp only [List.set_cons_zero, List.set_cons_succ]
  refine wpAnyH_takesJ (i := 5) (v := (.int .i64 g)) (some 38) rfl rfl (by kernel_rfl) (by kernel_rfl) (by kernel_rfl) (fun _ _ _ h => h) (Or.inl ⟨by rfl, (by intro W9 hSw; (try dsimp only at hSw); go_simp; first | done | with_reducible rfl)⟩) (by assumption) ?_
  simp only [Act.put, List.setIfInBounds_toArray]; try simp only [List.set_cons_zero, List.set_cons_succ]
  refine wpAnyH_takesJ (i := 6) (v := (.pointer (some ⟨w.heap.size, 1, none⟩))) (some 39) rfl rfl (by kernel_rfl) (by kernel_rfl) (by kernel_rfl) (fun _ _ _ h => h) (Or.inl ⟨by rfl, (by intro W9 hSw; (try dsimp only at hSw); go_simp; first | done | with_reducible rfl)⟩) (by assumption) ?_
  simp only [Act.put, List.setIfInBounds_toArray]; try simp only [List.set_cons_zero, List.set_cons_succ]
  refine wpAnyH_takesJ (i := 7) (v := (.int .i64 r.size)) (some 40) rfl rfl (by kernel_rfl) (by kernel_rfl) (by kernel_rfl) (fun _ _ _ h => h) (Or.inl ⟨by rfl, (by intro W9 hSw; (try dsimp only at hSw); go_simp; first | done | with_reducible rfl)⟩) (by assumption) ?_
  simp only [Act.put, List.setIfInBounds_toArray]; try simp only [List.set_cons_zero, List.set_cons_succ]
  refine wpAnyH_ready (rs := [8, 12]) (by kernel_rfl) (by simp) ?_
  refine AllReadyH.cons rfl (fun K hK => ?_) (AllReadyH.cons rfl (fun K hK => ?_) AllReadyH.nil)
  · go_simp
    go_at_call 24
    have hPA := put_any xx A na0 ca0 zs g r.size w4.drew (by exact HRW.out.drew) (by omega)
    rw [← HPUT.out] at hPA
    refine hPA.mono ?_
    rintro e w5 ⟨Aa, na, ca, Ao, mo, co, rfl, hra, hfa, hro, hfo, hb5⟩
    simp only at hra hro
    have hb5' := below_of_drew hb5
    refine hK.out _ _ (by exact ⟨⟨keepcell hb5' q1, keepcell hb5' q2⟩, keepcell hb5' c0x, keepcell hb5' c1x⟩) (fun hHeld => ?_)
    clear hK K
    try dsimp only
    refine wpAnyH_takesJ (i := 9) (v := (.tuple #[.agg #[.int .i64 px, .slice Aa na ca], .slice Ao mo co])) (some 32) rfl rfl (by kernel_rfl) (by kernel_rfl) (by kernel_rfl) (fun _ _ _ h => h) (Or.inl ⟨by rfl, (by intro W9 hSw; (try dsimp only at hSw); go_simp; first | done | with_reducible rfl)⟩) (by assumption) ?_
    simp only [Act.put, List.setIfInBounds_toArray]; try simp only [List.set_cons_zero, List.set_cons_succ]
    refine wpAnyH_takesJ (i := 10) (v := (.agg #[.int .i64 px, .slice Aa na ca])) (some 42) rfl rfl (by kernel_rfl) (by kernel_rfl) (by kernel_rfl) (fun _ _ _ h => h) (Or.inl ⟨by rfl, (by intro W9 hSw; (try dsimp only at hSw); go_simp; first | done | with_reducible rfl)⟩) (by assumption) ?_
    simp only [Act.put, List.setIfInBounds_toArray]; try simp only [List.set_cons_zero, List.set_cons_succ]
    refine wpAnyH_takesJ (i := 11) (v := (.slice Ao mo co)) (some 43) rfl rfl (by kernel_rfl) (by kernel_rfl) (by kernel_rfl) (fun _ _ _ h => h) (Or.inl ⟨by rfl, (by intro W9 hSw; (try dsimp only at hSw); go_simp; first | done | with_reducible rfl)⟩) (by assumption) ?_
    simp only [Act.put, List.setIfInBounds_toArray]; try simp only [List.set_cons_zero, List.set_cons_succ]
    refine wpAnyH_ready (rs := [12]) (by kernel_rfl) (by simp) ?_
    refine AllReadyH.cons rfl (fun K hK => ?_) AllReadyH.nil
    go_simp
    have hb6 := below_new w5 (.cells #[.int .i64 0, .slice none 0 0] 55)
    have m0' : (w5.alloc (.cells #[.int .i64 0, .slice none 0 0] 55)).cell? ⟨w5.heap.size, 0, none⟩ = some (.int .i64 0) := by rw [World.cell?_alloc_at _ _ _ _ rfl]; rfl
    have m1' : (w5.alloc (.cells #[.int .i64 0, .slice none 0 0] 55)).cell? ⟨w5.heap.size, 1, none⟩ = some (.slice none 0 0) := by rw [World.cell?_alloc_at _ _ _ _ rfl]; rfl
    have mf0 : (w5.alloc (.cells #[.int .i64 0, .slice none 0 0] 55)).frozen? ⟨w5.heap.size, 0, none⟩ = false := by rw [World.frozen?_alloc_at _ _ _ _ rfl]
    have mf1 : (w5.alloc (.cells #[.int .i64 0, .slice none 0 0] 55)).frozen? ⟨w5.heap.size, 1, none⟩ = false := by rw [World.frozen?_alloc_at _ _ _ _ rfl]
    obtain ⟨w6, hw6⟩ : ∃ w6, w6 = w5.alloc (.cells #[.int .i64 0, .slice none 0 0] 55) := ⟨_, rfl⟩
    rw [← hw6] at hb6 m0' m1' mf0 mf1 ⊢
    clear hw6
    have hb46 := hb5'.trans (hb6.mono hb5'.size)
    have RA6 := Lib.hid (hra.below hb6)
    have RO6 := Lib.hid (hro.below hb6)
    have LA6 := Lib.hid (show pl ≠ [] → ∀ ad, Aa = some ad → ad.block ≠ w5.heap.size from fun hne ad hA => by have := row_block hra hne hA; omega)
    have LO6 := Lib.hid (show po ≠ [] → ∀ ad, Ao = some ad → ad.block ≠ w5.heap.size from fun hne ad hA => by have := row_block hro hne hA; omega)
    have hN : w4.heap.size ≤ w5.heap.size := hb5'.size
    obtain ⟨N, hNN⟩ : ∃ N, N = w5.heap.size := ⟨_, rfl⟩
    rw [← hNN] at m0' m1' mf0 mf1 LA6 LO6 hN ⊢
    clear hNN
    have FA7 := Lib.hid (show From w1.heap.size Aa from hfa.mono (by show w1.heap.size ≤ w4.heap.size; omega))
    have FO7 := Lib.hid (show From w1.heap.size Ao from hfo.mono (by show w1.heap.size ≤ w4.heap.size; omega))
    have FO8 := Lib.hid (show From w4.heap.size Ao from hfo)
    refine hK.out _ _ (by exact ⟨⟨keepcell hb46 q1, keepcell hb46 q2⟩, keepcell hb46 c0x, keepcell hb46 c1x⟩) (fun hHeld => ?_)
    clear hK K hb5 hb6 hra hro hfa hfo
    try dsimp only
    refine wpAnyH_ready (rs := [13]) (by kernel_rfl) (by simp) ?_
    refine AllReadyH.cons rfl (fun K hK => ?_) AllReadyH.nil
    go_simp
    have hN4 : w.heap.size + 2 ≤ N := by omega
    have hHH := (show ((w6.setCell ⟨N, 0, none⟩ (.int .i64 px)).setCell ⟨N, 1, none⟩ (.slice Aa na ca)).cell? ⟨w.heap.size, 1, none⟩ = some (.int .i64 r.size) ∧ ((w6.setCell ⟨N, 0, none⟩ (.int .i64 px)).setCell ⟨N, 1, none⟩ (.slice Aa na ca)).cell? ⟨w.heap.size, 2, none⟩ = some (.slice (some ⟨b, off, none⟩) nr cr) from ⟨farcell (by omega) (farcell (by omega) (keepcell hb46 q1)), farcell (by omega) (farcell (by omega) (keepcell hb46 q2))⟩)
    have hbw : b < w4.heap.size := World.block_lt_of_cell? w4 ⟨b, off + p * 2, none⟩ c0x
    have hHX := (show ((w6.setCell ⟨N, 0, none⟩ (.int .i64 px)).setCell ⟨N, 1, none⟩ (.slice Aa na ca)).cell? ⟨b, off + p * 2, none⟩ = some (.int .i64 xx) ∧ ((w6.setCell ⟨N, 0, none⟩ (.int .i64 px)).setCell ⟨N, 1, none⟩ (.slice Aa na ca)).cell? ⟨b, off + p * 2 + 1, none⟩ = some (.slice A na0 ca0) from ⟨farcell (by omega) (farcell (by omega) (keepcell hb46 c0x)), farcell (by omega) (farcell (by omega) (keepcell hb46 c1x))⟩)
    refine hK.out _ _ (by exact ⟨hHH, hHX⟩) (fun hHeld => ?_)
    clear hK K hHH hHX
    try dsimp only
    refine wpAnyH_takesJ (i := 14) (v := (.slice Ao mo co)) (some 11) rfl rfl (by kernel_rfl) (by kernel_rfl) (by kernel_rfl) (fun _ _ _ h => h) (Or.inl ⟨by rfl, (by intro W9 hSw; (try dsimp only at hSw); go_simp; first | done | with_reducible rfl)⟩) (by assumption) ?_
    simp only [Act.put, List.setIfInBounds_toArray]; try simp only [List.set_cons_zero, List.set_cons_succ]
    refine wpAnyH_done (by kernel_rfl) ?_ _
    have hn0 : ((w6.setCell ⟨N, 0, none⟩ (.int .i64 px)).setCell ⟨N, 1, none⟩ (.slice Aa na ca)).cell? ⟨N, 0, none⟩ = some (.int .i64 px) := by
      rw [World.cell?_setCell_other _ _ _ _ (fun e => by injection e with _ e; omega)]
      exact World.cell?_setCell_same' _ _ _ (by rw [m0']; rfl)
    have hn1 : ((w6.setCell ⟨N, 0, none⟩ (.int .i64 px)).setCell ⟨N, 1, none⟩ (.slice Aa na ca)).cell? ⟨N, 1, none⟩ = some (.slice Aa na ca) :=
      World.cell?_setCell_same' _ _ _ (by rw [World.cell?_setCell_other _ _ _ _ (fun e => by injection e with _ e; omega), m1']; rfl)
    have hB7 := ((hb46.setCell (p := ⟨N, 0, none⟩) (by exact hN) (.int .i64 px)).setCell (p := ⟨N, 1, none⟩) (by exact hN) (.slice Aa na ca))
    have hRA7 := row_farj (j := 1) (u := .slice Aa na ca) (row_farj (j := 0) (u := .int .i64 px) RA6.out LA6.out) LA6.out
    have hRO7 := row_farj (j := 1) (u := .slice Aa na ca) (row_farj (j := 0) (u := .int .i64 px) RO6.out LO6.out) LO6.out
    obtain ⟨w7, hw7⟩ : ∃ w7, w7 = (w6.setCell ⟨N, 0, none⟩ (.int .i64 px)).setCell ⟨N, 1, none⟩ (.slice Aa na ca) := ⟨_, rfl⟩
    rw [← hw7] at hn0 hn1 hB7 hRA7 hRO7 ⊢
    have n07 := hn0
    have n17 := hn1
    have RA7 := Lib.hid hRA7
    have RO7 := Lib.hid hRO7
    have B7 := Lib.hid (held_trans B4.out hB7)
    have X7 := Lib.hid (XX4.out.step hB7)
    have Y7 := Lib.hid (X4.out.step hB7)
    have Z7 := Lib.hid (Z4.out.step hB7)
    have RD7 := Lib.hid (RD.out.step hB7)
    have hmo : mo ≤ 401 := by rw [← hRO7.len]; have := HSP.out; have := HRW.out.len; omega
    clear hn0 hn1 hB7 hRA7 hRO7 hw7 m0' m1' mf0 mf1 RA6 RO6 LA6 LO6 hb46 q1 q2 hHeld
    clear c0x c1x
    have HNO := Lib.hid (node_any A0 nt ct r.tree (p : Int) w7 HTL HTM.out (Lib.hid H.out.fit) (H.out.below B7.out).tree)
    have d0 := X7.out.c0
    go_wp2_with fail
    refine HNO.out.mono ?_
    rintro e w8 ⟨rfl, hb8⟩
    rw [HND.out]
    have B8 := Lib.hid (held_trans B7.out hb8)
    have Y8 := Lib.hid (Y7.out.step hb8)
    have Z8 := Lib.hid (Z7.out.step hb8)
    have RD8 := Lib.hid (RD7.out.step hb8)
    have RA8 := Lib.hid (RA7.out.below hb8)
    have RO8 := Lib.hid (RO7.out.below hb8)
    have n0 := keepcell hb8 n07
    have n1 := keepcell hb8 n17
    have SZ8 := hb8.size
    have y2 := Y8.out.b5.c2
    have HRG := Lib.hid (RD8.out.ring (p := p) (x := (px, pl)) hpn RA8.out FA7.out (show V.heap.size + 2 ≤ w1.heap.size by have := TUP.out; omega) HGR.out HQB.out HSB.out)
    have r0 : w8.cell? ⟨gR, p * 2, none⟩ = some (.int .i64 xx) := by
      have p4 := RD8.out.own.own.cellAt (p * 2) (show p * 2 < nr1 * 2 by omega)
      have p5 := flat_at csG_len es p ep 0 HEP.out (by decide)
      rw [Nat.add_zero] at p5
      rw [p5] at p4
      rw [← HEX.out]
      exact p4
    have r1 : w8.cell? ⟨gR, p * 2 + 1, none⟩ = some (.slice ep.A ep.n ep.c) := by
      have p4 := RD8.out.own.own.cellAt (p * 2 + 1) (show p * 2 + 1 < nr1 * 2 by omega)
      have p5 := flat_at csG_len es p ep 1 HEP.out (by decide)
      rw [p5] at p4
      exact p4
    have f0 := RD8.out.own.own.frozenAt (p * 2)
    have f1 := RD8.out.own.own.frozenAt (p * 2 + 1)
    have hgRlt := RD8.out.own.own.lt gR rfl
    obtain ⟨w9, hw9⟩ : ∃ w9, w9 = (w8.setCell ⟨gR, p * 2, none⟩ (.int .i64 px)).setCell ⟨gR, p * 2 + 1, none⟩ (.slice Aa na ca) := ⟨_, rfl⟩
    have hRG := HRG.out
    have hY9 := (Y8.out.far (p := ⟨gR, p * 2, none⟩) (u := .int .i64 px) (by have := HGR.out; simp only; omega)).far (p := ⟨gR, p * 2 + 1, none⟩) (u := .slice Aa na ca) (by have := HGR.out; simp only; omega)
    have hZ9 := (Z8.out.far (p := ⟨gR, p * 2, none⟩) (u := .int .i64 px) (by simp only; omega)).far (p := ⟨gR, p * 2 + 1, none⟩) (u := .slice Aa na ca) (by simp only; omega)
    have hB9 := (B8.out.setCell (p := ⟨gR, p * 2, none⟩) (by simp only; omega) (.int .i64 px)).setCell (p := ⟨gR, p * 2 + 1, none⟩) (by simp only; omega) (.slice Aa na ca)
    have hRO9 := row_farj (X := gR) (j := p * 2 + 1) (u := .slice Aa na ca) (row_farj (X := gR) (j := p * 2) (u := .int .i64 px) RO8.out (fun _ ad hA => by have := FO7.out ad hA; have := HGR.out; omega)) (fun _ ad hA => by have := FO7.out ad hA; have := HGR.out; omega)
    simp only at hRG
    rw [← hw9] at hRG hY9 hZ9 hB9 hRO9
    have E9 := Lib.hid hw9
    have RDb := Lib.hid hRG
    have Xb := Lib.hid hY9
    have Zb := Lib.hid hZ9
    have Bb := Lib.hid hB9
    have Rb := Lib.hid hRO9
    have q3 := hY9.b5.c3
    obtain ⟨z2, _⟩ := own_slice csL_len (by decide) hRG.rows
    obtain ⟨bz, offz, ebz, _, hcz⟩ := z2.cell m0 e0 hRG.at'
    injection ebz with ebz
    injection ebz with ebz1 ebz2 _
    subst ebz1 ebz2
    have c0 := hcz 0 _ rfl
    rw [Nat.zero_add, Nat.mul_one, Nat.add_zero] at c0
    have i2 : (0 : Int) ≤ (m0 : Int) := by omega
    have i3 : (m0 : Int) < (ns1 : Int) := by omega
    clear hRG hY9 hZ9 hB9 hRO9 hw9 z2 hcz hb8 RD8 HRG Y8 Z8 B8 RA8 RO8 HNO d0 n07 n17
    go_wp2_with (rw [← E9.out])
    clear r0 r1 f0 f1 n0 n1 y2 E9
    refine wp_region_held_drew (S := fun w' => w'.cell? ⟨w1.heap.size, 3, none⟩ = some (.slice (some ⟨gS, 0, none⟩) ns1 cs1)) (by kernel_rfl) q3 (fun hHeld => ?_)
    refine wpAnyH_takesJ (i := 0) (v := (.pointer (some ⟨w1.heap.size, 3, none⟩))) (some 53) rfl rfl (by kernel_rfl) (by kernel_rfl) (by kernel_rfl) (fun _ _ _ h => h) (Or.inl ⟨by rfl, (by intro W9 hSw; (try dsimp only at hSw); go_simp; first | done | with_reducible rfl)⟩) (by assumption) ?_
    simp only [Act.put, List.setIfInBounds_toArray]; try simp only [List.set_cons_zero, List.set_cons_succ]
    refine wpAnyH_takesJ (i := 1) (v := (.slice (some ⟨gS, 0, none⟩) ns1 cs1)) (some 54) rfl rfl (by kernel_rfl) (by kernel_rfl) (by kernel_rfl) (fun _ _ _ h => h) (Or.inl ⟨by rfl, (by intro W9 hSw; (try dsimp only at hSw); go_simp; first | done | with_reducible rfl)⟩) (by assumption) ?_
    simp only [Act.put, List.setIfInBounds_toArray]; try simp only [List.set_cons_zero, List.set_cons_succ]
    refine wpAnyH_takesJ (i := 2) (v := (.int .i64 (m0 : Nat))) (some 55) rfl rfl (by kernel_rfl) (by kernel_rfl) (by kernel_rfl) (fun _ _ _ h => h) (Or.inl ⟨by rfl, (by intro W9 hSw; (try dsimp only at hSw); go_simp; first | done | with_reducible rfl)⟩) (by assumption) ?_
    simp only [Act.put, List.setIfInBounds_toArray]; try simp only [List.set_cons_zero, List.set_cons_succ]
    refine wpAnyH_takesJ (i := 3) (v := (.pointer (some ⟨w1.heap.size, 3, none⟩))) (some 56) rfl rfl (by kernel_rfl) (by kernel_rfl) (by kernel_rfl) (fun _ _ _ h => h) (Or.inl ⟨by rfl, (by intro W9 hSw; (try dsimp only at hSw); go_simp; first | done | with_reducible rfl)⟩) (by assumption) ?_
    simp only [Act.put, List.setIfInBounds_toArray]; try simp only [List.set_cons_zero, List.set_cons_succ]
    refine wpAnyH_takesJ (i := 4) (v := (.slice (some ⟨gS, 0, none⟩) ns1 cs1)) (some 57) rfl rfl (by kernel_rfl) (by kernel_rfl) (by kernel_rfl) (fun _ _ _ h => h) (Or.inl ⟨by rfl, (by intro W9 hSw; (try dsimp only at hSw); go_simp; first | done | with_reducible rfl)⟩) (by assumption) ?_
    simp only [Act.put, List.setIfInBounds_toArray]; try simp only [List.set_cons_zero, List.set_cons_succ]
    refine wpAnyH_takesJ (i := 5) (v := (.int .i64 (m0 : Nat))) (some 58) rfl rfl (by kernel_rfl) (by kernel_rfl) (by kernel_rfl) (fun _ _ _ h => h) (Or.inl ⟨by rfl, (by intro W9 hSw; (try dsimp only at hSw); go_simp; first | done | with_reducible rfl)⟩) (by assumption) ?_
    simp only [Act.put, List.setIfInBounds_toArray]; try simp only [List.set_cons_zero, List.set_cons_succ]
    refine wpAnyH_takesJ (i := 6) (v := (.pointer (some ⟨gS, m0, none⟩))) (some 59) rfl rfl (by kernel_rfl) (by kernel_rfl) (by kernel_rfl) (fun _ _ _ h => h) (Or.inl ⟨by rfl, (by intro W9 hSw; (try dsimp only at hSw); go_simp; first | done | with_reducible rfl)⟩) (by assumption) ?_
    simp only [Act.put, List.setIfInBounds_toArray]; try simp only [List.set_cons_zero, List.set_cons_succ]
    refine wpAnyH_takesJ (i := 8) (v := (.slice Ao mo co)) (some 61) rfl rfl (by kernel_rfl) (by kernel_rfl) (by kernel_rfl) (fun _ _ _ h => h) (Or.inl ⟨by rfl, (by intro W9 hSw; (try dsimp only at hSw); go_simp; first | done | with_reducible rfl)⟩) (by assumption) ?_
    simp only [Act.put, List.setIfInBounds_toArray]; try simp only [List.set_cons_zero, List.set_cons_succ]
    refine wpAnyH_ready (rs := [7]) (by kernel_rfl) (by simp) ?_
    refine AllReadyH.cons rfl (fun K hK => ?_) AllReadyH.nil
    go_simp
    refine hK.out _ _ (by exact q3) (fun hHeld => ?_)
    clear hK K
    try dsimp only
    have hbd : Below w9.heap.size w9 w9.drew := (Below.refl _ _).drew
    obtain ⟨wa, hwa⟩ : ∃ wa, wa = w9.drew := ⟨_, rfl⟩
    rw [← hwa] at hbd ⊢
    clear hwa
    have RDa := Lib.hid (RDb.out.step hbd)
    have Xa := Lib.hid (Xb.out.step hbd)
    have Za := Lib.hid (Zb.out.step hbd)
    have Ba := Lib.hid (held_trans Bb.out hbd)
    have Ra := Lib.hid (Rb.out.below hbd)
    clear RDb Xb Zb Bb Rb hbd q3
    refine wpAnyH_ready (rs := [9]) (by kernel_rfl) (by simp) ?_
    refine AllReadyH.cons rfl (fun K hK => ?_) AllReadyH.nil
    refine step_append_rowat (by rfl) (.tmp 60) (.tmp 61) (by rfl) (V.heap.size + 2) (.slice e0.A e0.n e0.c) e0.n e0.l (by rfl) RDa.out.ours Ao mo co po (by rfl) Ra.out (by omega) RDa.out.up ?_
    intro v5 w5 ho5 hg5 hat5
    obtain ⟨A5, c5, rfl⟩ := own_form ho5
    have nX : ∀ k, (Value.slice e0.A e0.n e0.c).ownBlock = some k → V.heap.size + 2 ≤ k ∧ k < w1.heap.size := fun k hk => ⟨(RDa.out.ours.lt k hk).1, HQB.out k hk⟩
    have X5 := Lib.hid (Xa.out.grown hg5 (fun e => by have := (nX _ e.symm).2; omega))
    have Z5 := Lib.hid (Za.out.grown hg5 (fun e => by have := (nX _ e.symm).1; omega))
    have BB5 := Lib.hid (Ba.out.grown hg5 Ba.out.size (fun k hk => by have := (nX k hk).1; omega))
    have hgs := (RDa.out.rows.own.lt gS rfl)
    have hgY := HGY.out
    have MM := Lib.hid (RDa.out.push (F := fun _ => False) (w0 := V) (by omega) ho5 hg5 hat5)
    have XX := Lib.hid (RDa.out.rows.own.kept hg5 (by
      cases hob : (Value.slice e0.A e0.n e0.c).ownBlock with
      | none => exact .inr (by simp [Value.ownBlock])
      | some k => exact .inr (RDa.out.t4 k hob)))
    refine hK.out _ _ (by exact X5.out.b5.c3) (fun hHeld => ?_)
    clear hK K hg5 hat5 ho5 nX
    try dsimp only
    refine wpAnyH_takesJ (i := 10) (v := (.pointer (some ⟨gS, m0, none⟩))) (some 63) rfl rfl (by kernel_rfl) (by kernel_rfl) (by kernel_rfl) (fun _ _ _ h => h) (Or.inl ⟨by rfl, (by intro W9 hSw; (try dsimp only at hSw); go_simp; first | done | with_reducible rfl)⟩) (by assumption) ?_
    simp only [Act.put, List.setIfInBounds_toArray]; try simp only [List.set_cons_zero, List.set_cons_succ]
    have cc : w5.cell? ⟨gS, m0, none⟩ = some (.slice e0.A e0.n e0.c) := by
      have p4 := XX.out.cellAt m0 (show m0 < ns1 * 1 by omega)
      have p5 := flat_at csL_len ls m0 e0 0 RDa.out.at' (by decide)
      rw [Nat.mul_one, Nat.add_zero] at p5
      rw [p5] at p4
      exact p4
    have ff := XX.out.frozenAt m0
    refine wpAnyH_ready (rs := [11]) (by kernel_rfl) (by simp) ?_
    refine AllReadyH.cons rfl (fun K hK => ?_) AllReadyH.nil
    go_simp
    have X6 := X5.out.far (p := ⟨gS, m0, none⟩) (u := .slice A5 (e0.n + mo) c5) (by simp only; omega)
    have Z6 := Z5.out.far (p := ⟨gS, m0, none⟩) (u := .slice A5 (e0.n + mo) c5) (by simp only; omega)
    have BB6 := BB5.out.setCell (p := ⟨gS, m0, none⟩) (by simp only; omega) (.slice A5 (e0.n + mo) c5)
    refine hK.out _ _ (by exact X6.b5.c3) (fun hHeld => ?_)
    clear hK K
    try dsimp only
    refine wpAnyH_done (by kernel_rfl) ?_ _
    obtain ⟨W6, hW6⟩ : ∃ W6, W6 = w5.setCell ⟨gS, m0, none⟩ (.slice A5 (e0.n + mo) c5) := ⟨_, rfl⟩
    rw [← hW6] at X6 Z6 BB6 MM ⊢
    have HX6 := Lib.hid X6
    have HZ6 := Lib.hid Z6
    have HB6 := Lib.hid BB6
    clear hW6 X6 Z6 BB6 cc ff X5 Z5 BB5 XX Xa Za Ba RDa Ra
    have d0 := HX6.out.b5.c0
    have d1 := HX6.out.b5.c1
    have d2 := HX6.out.b5.c2
    have d3 := HX6.out.b5.c3
    have d4 := HX6.out.b5.c4
    have y0 := HZ6.out.b5.c0
    have y1 := HZ6.out.b5.c1
    have y2 := HZ6.out.b5.c2
    have y3 := HZ6.out.b5.c3
    have y4 := HZ6.out.b5.c4
    have g0 := HZ6.out.f0
    have g1 := HZ6.out.f1
    have g2 := HZ6.out.f2
    have g3 := HZ6.out.f3
    have g4 := HZ6.out.f4
    have HF := Lib.hid (tell_yes (F := F) (w := w) (V := V) (Z := w.heap.size + 1) (e := 0) HPE.out MM.out (by omega) (by omega) (by omega) HB6.out (.slice T1 nt1 ct1) (.int .i64 r.size) (.slice (some ⟨gR, 0, none⟩) nr1 cr1) (.slice (some ⟨gS, 0, none⟩) ns1 cs1) (.int .u64 (r.on : Nat)))
    obtain ⟨k0, k1, k2, k3, k4⟩ := put5_told HZ6.out (.slice T1 nt1 ct1) (.int .i64 r.size) (.slice (some ⟨gR, 0, none⟩) nr1 cr1) (.slice (some ⟨gS, 0, none⟩) ns1 cs1) (.int .u64 (r.on : Nat))
    unfold put5 at k0 k1 k2 k3 k4
    clear MM c0
    go_wp2_with fail
    refine bodyPost_ret ?_ rfl HF.out
    simp [results, Tryz.results7, go_sem, k0, k1, k2, k3, k4, jv, Jp.rowed, Jp.ringed]
  · go_simp
    have hb6 := (below_new w4 (.cells #[.int .i64 0, .slice none 0 0] 55)).drew
    have m0' : (w4.alloc (.cells #[.int .i64 0, .slice none 0 0] 55)).drew.cell? ⟨w4.heap.size, 0, none⟩ = some (.int .i64 0) := by
      show (w4.alloc (.cells #[.int .i64 0, .slice none 0 0] 55)).cell? ⟨w4.heap.size, 0, none⟩ = some (.int .i64 0)
      rw [World.cell?_alloc_at _ _ _ _ rfl]; rfl
    have m1' : (w4.alloc (.cells #[.int .i64 0, .slice none 0 0] 55)).drew.cell? ⟨w4.heap.size, 1, none⟩ = some (.slice none 0 0) := by
      show (w4.alloc (.cells #[.int .i64 0, .slice none 0 0] 55)).cell? ⟨w4.heap.size, 1, none⟩ = some (.slice none 0 0)
      rw [World.cell?_alloc_at _ _ _ _ rfl]; rfl
    have mf0 : (w4.alloc (.cells #[.int .i64 0, .slice none 0 0] 55)).drew.frozen? ⟨w4.heap.size, 0, none⟩ = false := by
      show (w4.alloc (.cells #[.int .i64 0, .slice none 0 0] 55)).frozen? ⟨w4.heap.size, 0, none⟩ = false
      rw [World.frozen?_alloc_at _ _ _ _ rfl]
    have mf1 : (w4.alloc (.cells #[.int .i64 0, .slice none 0 0] 55)).drew.frozen? ⟨w4.heap.size, 1, none⟩ = false := by
      show (w4.alloc (.cells #[.int .i64 0, .slice none 0 0] 55)).frozen? ⟨w4.heap.size, 1, none⟩ = false
      rw [World.frozen?_alloc_at _ _ _ _ rfl]
    have hszz : w4.heap.size < (w4.alloc (.cells #[.int .i64 0, .slice none 0 0] 55)).drew.heap.size := by
      show w4.heap.size < (w4.alloc (.cells #[.int .i64 0, .slice none 0 0] 55)).heap.size
      simp
    obtain ⟨w5, hw5⟩ : ∃ w5, w5 = (w4.alloc (.cells #[.int .i64 0, .slice none 0 0] 55)).drew := ⟨_, rfl⟩
    rw [← hw5] at hb6 m0' m1' mf0 mf1 hszz ⊢
    clear hw5
    refine hK.out _ _ (by exact ⟨⟨keepcell hb6 q1, keepcell hb6 q2⟩, keepcell hb6 c0x, keepcell hb6 c1x⟩) (fun hHeld => ?_)
    clear hK K
    try dsimp only
    refine wpAnyH_ready (rs := [8]) (by kernel_rfl) (by simp) ?_
    refine AllReadyH.cons rfl (fun K hK => ?_) AllReadyH.nil
    go_simp
    go_at_call 24
    have hPA := put_any xx A na0 ca0 zs g r.size w5 (by exact HRW.out.below hb6) (by omega)
    rw [← HPUT.out] at hPA
    refine hPA.mono ?_
    rintro e w6 ⟨Aa, na, ca, Ao, mo, co, rfl, hra, hfa, hro, hfo, hb56⟩
    simp only at hra hro
    have hb46 := hb6.trans (hb56.mono hb6.size)
    have RA6 := Lib.hid hra
    have RO6 := Lib.hid hro
    have LA6 := Lib.hid (show pl ≠ [] → ∀ ad, Aa = some ad → ad.block ≠ w4.heap.size from fun hne ad hA => by have := hfa ad hA; omega)
    have LO6 := Lib.hid (show po ≠ [] → ∀ ad, Ao = some ad → ad.block ≠ w4.heap.size from fun hne ad hA => by have := hfo ad hA; omega)
    have mf0 := keepfree hb56 m0' mf0
    have mf1 := keepfree hb56 m1' mf1
    have m0' := keepcell hb56 m0'
    have m1' := keepcell hb56 m1'
    have FA7 := Lib.hid (show From w1.heap.size Aa from hfa.mono (by omega))
    have FO7 := Lib.hid (show From w1.heap.size Ao from hfo.mono (by omega))
    have FO8 := Lib.hid (show From w4.heap.size Ao from hfo.mono (by omega))
    have hN : w4.heap.size ≤ w4.heap.size := Nat.le_refl _
    obtain ⟨N, hNN⟩ : ∃ N, N = w4.heap.size := ⟨_, rfl⟩
    have hN : w4.heap.size ≤ N := by omega
    rw [← hNN] at m0' m1' mf0 mf1 LA6 LO6 ⊢
    clear hNN
    refine hK.out _ _ (by exact ⟨⟨keepcell hb46 q1, keepcell hb46 q2⟩, keepcell hb46 c0x, keepcell hb46 c1x⟩) (fun hHeld => ?_)
    clear hK K hb6 hra hro hfa hfo hb56
    try dsimp only
    refine wpAnyH_takesJ (i := 9) (v := (.tuple #[.agg #[.int .i64 px, .slice Aa na ca], .slice Ao mo co])) (some 32) rfl rfl (by kernel_rfl) (by kernel_rfl) (by kernel_rfl) (fun _ _ _ h => h) (Or.inl ⟨by rfl, (by intro W9 hSw; (try dsimp only at hSw); go_simp; first | done | with_reducible rfl)⟩) (by assumption) ?_
    simp only [Act.put, List.setIfInBounds_toArray]; try simp only [List.set_cons_zero, List.set_cons_succ]
    refine wpAnyH_takesJ (i := 10) (v := (.agg #[.int .i64 px, .slice Aa na ca])) (some 42) rfl rfl (by kernel_rfl) (by kernel_rfl) (by kernel_rfl) (fun _ _ _ h => h) (Or.inl ⟨by rfl, (by intro W9 hSw; (try dsimp only at hSw); go_simp; first | done | with_reducible rfl)⟩) (by assumption) ?_
    simp only [Act.put, List.setIfInBounds_toArray]; try simp only [List.set_cons_zero, List.set_cons_succ]
    refine wpAnyH_takesJ (i := 11) (v := (.slice Ao mo co)) (some 43) rfl rfl (by kernel_rfl) (by kernel_rfl) (by kernel_rfl) (fun _ _ _ h => h) (Or.inl ⟨by rfl, (by intro W9 hSw; (try dsimp only at hSw); go_simp; first | done | with_reducible rfl)⟩) (by assumption) ?_
    simp only [Act.put, List.setIfInBounds_toArray]; try simp only [List.set_cons_zero, List.set_cons_succ]
    refine wpAnyH_ready (rs := [13]) (by kernel_rfl) (by simp) ?_
    refine AllReadyH.cons rfl (fun K hK => ?_) AllReadyH.nil
    go_simp
    have hN4 : w.heap.size + 2 ≤ N := by omega
    have hHH := (show ((w6.setCell ⟨N, 0, none⟩ (.int .i64 px)).setCell ⟨N, 1, none⟩ (.slice Aa na ca)).cell? ⟨w.heap.size, 1, none⟩ = some (.int .i64 r.size) ∧ ((w6.setCell ⟨N, 0, none⟩ (.int .i64 px)).setCell ⟨N, 1, none⟩ (.slice Aa na ca)).cell? ⟨w.heap.size, 2, none⟩ = some (.slice (some ⟨b, off, none⟩) nr cr) from ⟨farcell (by omega) (farcell (by omega) (keepcell hb46 q1)), farcell (by omega) (farcell (by omega) (keepcell hb46 q2))⟩)
    have hbw : b < w4.heap.size := World.block_lt_of_cell? w4 ⟨b, off + p * 2, none⟩ c0x
    have hHX := (show ((w6.setCell ⟨N, 0, none⟩ (.int .i64 px)).setCell ⟨N, 1, none⟩ (.slice Aa na ca)).cell? ⟨b, off + p * 2, none⟩ = some (.int .i64 xx) ∧ ((w6.setCell ⟨N, 0, none⟩ (.int .i64 px)).setCell ⟨N, 1, none⟩ (.slice Aa na ca)).cell? ⟨b, off + p * 2 + 1, none⟩ = some (.slice A na0 ca0) from ⟨farcell (by omega) (farcell (by omega) (keepcell hb46 c0x)), farcell (by omega) (farcell (by omega) (keepcell hb46 c1x))⟩)
    refine hK.out _ _ (by exact ⟨hHH, hHX⟩) (fun hHeld => ?_)
    clear hK K hHH hHX
    try dsimp only
    refine wpAnyH_takesJ (i := 14) (v := (.slice Ao mo co)) (some 11) rfl rfl (by kernel_rfl) (by kernel_rfl) (by kernel_rfl) (fun _ _ _ h => h) (Or.inl ⟨by rfl, (by intro W9 hSw; (try dsimp only at hSw); go_simp; first | done | with_reducible rfl)⟩) (by assumption) ?_
    simp only [Act.put, List.setIfInBounds_toArray]; try simp only [List.set_cons_zero, List.set_cons_succ]
    refine wpAnyH_done (by kernel_rfl) ?_ _
    have hn0 : ((w6.setCell ⟨N, 0, none⟩ (.int .i64 px)).setCell ⟨N, 1, none⟩ (.slice Aa na ca)).cell? ⟨N, 0, none⟩ = some (.int .i64 px) := by
      rw [World.cell?_setCell_other _ _ _ _ (fun e => by injection e with _ e; omega)]
      exact World.cell?_setCell_same' _ _ _ (by rw [m0']; rfl)
    have hn1 : ((w6.setCell ⟨N, 0, none⟩ (.int .i64 px)).setCell ⟨N, 1, none⟩ (.slice Aa na ca)).cell? ⟨N, 1, none⟩ = some (.slice Aa na ca) :=
      World.cell?_setCell_same' _ _ _ (by rw [World.cell?_setCell_other _ _ _ _ (fun e => by injection e with _ e; omega), m1']; rfl)
    have hB7 := ((hb46.setCell (p := ⟨N, 0, none⟩) (by exact hN) (.int .i64 px)).setCell (p := ⟨N, 1, none⟩) (by exact hN) (.slice Aa na ca))
    have hRA7 := row_farj (j := 1) (u := .slice Aa na ca) (row_farj (j := 0) (u := .int .i64 px) RA6.out LA6.out) LA6.out
    have hRO7 := row_farj (j := 1) (u := .slice Aa na ca) (row_farj (j := 0) (u := .int .i64 px) RO6.out LO6.out) LO6.out
    obtain ⟨w7, hw7⟩ : ∃ w7, w7 = (w6.setCell ⟨N, 0, none⟩ (.int .i64 px)).setCell ⟨N, 1, none⟩ (.slice Aa na ca) := ⟨_, rfl⟩
    rw [← hw7] at hn0 hn1 hB7 hRA7 hRO7 ⊢
    have n07 := hn0
    have n17 := hn1
    have RA7 := Lib.hid hRA7
    have RO7 := Lib.hid hRO7
    have B7 := Lib.hid (held_trans B4.out hB7)
    have X7 := Lib.hid (XX4.out.step hB7)
    have Y7 := Lib.hid (X4.out.step hB7)
    have Z7 := Lib.hid (Z4.out.step hB7)
    have RD7 := Lib.hid (RD.out.step hB7)
    have hmo : mo ≤ 401 := by rw [← hRO7.len]; have := HSP.out; have := HRW.out.len; omega
    clear hn0 hn1 hB7 hRA7 hRO7 hw7 m0' m1' mf0 mf1 RA6 RO6 LA6 LO6 hb46 q1 q2 hHeld
    clear c0x c1x
    have HNO := Lib.hid (node_any A0 nt ct r.tree (p : Int) w7 HTL HTM.out (Lib.hid H.out.fit) (H.out.below B7.out).tree)
    have d0 := X7.out.c0
    go_wp2_with fail
    refine HNO.out.mono ?_
    rintro e w8 ⟨rfl, hb8⟩
    rw [HND.out]
    have B8 := Lib.hid (held_trans B7.out hb8)
    have Y8 := Lib.hid (Y7.out.step hb8)
    have Z8 := Lib.hid (Z7.out.step hb8)
    have RD8 := Lib.hid (RD7.out.step hb8)
    have RA8 := Lib.hid (RA7.out.below hb8)
    have RO8 := Lib.hid (RO7.out.below hb8)
    have n0 := keepcell hb8 n07
    have n1 := keepcell hb8 n17
    have SZ8 := hb8.size
    have y2 := Y8.out.b5.c2
    have HRG := Lib.hid (RD8.out.ring (p := p) (x := (px, pl)) hpn RA8.out FA7.out (show V.heap.size + 2 ≤ w1.heap.size by have := TUP.out; omega) HGR.out HQB.out HSB.out)
    have r0 : w8.cell? ⟨gR, p * 2, none⟩ = some (.int .i64 xx) := by
      have p4 := RD8.out.own.own.cellAt (p * 2) (show p * 2 < nr1 * 2 by omega)
      have p5 := flat_at csG_len es p ep 0 HEP.out (by decide)
      rw [Nat.add_zero] at p5
      rw [p5] at p4
      rw [← HEX.out]
      exact p4
    have r1 : w8.cell? ⟨gR, p * 2 + 1, none⟩ = some (.slice ep.A ep.n ep.c) := by
      have p4 := RD8.out.own.own.cellAt (p * 2 + 1) (show p * 2 + 1 < nr1 * 2 by omega)
      have p5 := flat_at csG_len es p ep 1 HEP.out (by decide)
      rw [p5] at p4
      exact p4
    have f0 := RD8.out.own.own.frozenAt (p * 2)
    have f1 := RD8.out.own.own.frozenAt (p * 2 + 1)
    have hgRlt := RD8.out.own.own.lt gR rfl
    obtain ⟨w9, hw9⟩ : ∃ w9, w9 = (w8.setCell ⟨gR, p * 2, none⟩ (.int .i64 px)).setCell ⟨gR, p * 2 + 1, none⟩ (.slice Aa na ca) := ⟨_, rfl⟩
    have hRG := HRG.out
    have hY9 := (Y8.out.far (p := ⟨gR, p * 2, none⟩) (u := .int .i64 px) (by have := HGR.out; simp only; omega)).far (p := ⟨gR, p * 2 + 1, none⟩) (u := .slice Aa na ca) (by have := HGR.out; simp only; omega)
    have hZ9 := (Z8.out.far (p := ⟨gR, p * 2, none⟩) (u := .int .i64 px) (by simp only; omega)).far (p := ⟨gR, p * 2 + 1, none⟩) (u := .slice Aa na ca) (by simp only; omega)
    have hB9 := (B8.out.setCell (p := ⟨gR, p * 2, none⟩) (by simp only; omega) (.int .i64 px)).setCell (p := ⟨gR, p * 2 + 1, none⟩) (by simp only; omega) (.slice Aa na ca)
    have hRO9 := row_farj (X := gR) (j := p * 2 + 1) (u := .slice Aa na ca) (row_farj (X := gR) (j := p * 2) (u := .int .i64 px) RO8.out (fun _ ad hA => by have := FO7.out ad hA; have := HGR.out; omega)) (fun _ ad hA => by have := FO7.out ad hA; have := HGR.out; omega)
    simp only at hRG
    rw [← hw9] at hRG hY9 hZ9 hB9 hRO9
    have E9 := Lib.hid hw9
    have RDb := Lib.hid hRG
    have Xb := Lib.hid hY9
    have Zb := Lib.hid hZ9
    have Bb := Lib.hid hB9
    have Rb := Lib.hid hRO9
    have q3 := hY9.b5.c3
    obtain ⟨z2, _⟩ := own_slice csL_len (by decide) hRG.rows
    obtain ⟨bz, offz, ebz, _, hcz⟩ := z2.cell m0 e0 hRG.at'
    injection ebz with ebz
    injection ebz with ebz1 ebz2 _
    subst ebz1 ebz2
    have c0 := hcz 0 _ rfl
    rw [Nat.zero_add, Nat.mul_one, Nat.add_zero] at c0
    have i2 : (0 : Int) ≤ (m0 : Int) := by omega
    have i3 : (m0 : Int) < (ns1 : Int) := by omega
    clear hRG hY9 hZ9 hB9 hRO9 hw9 z2 hcz hb8 RD8 HRG Y8 Z8 B8 RA8 RO8 HNO d0 n07 n17
    go_wp2_with (rw [← E9.out])
    clear r0 r1 f0 f1 n0 n1 y2 E9
    refine wp_region_held_drew (S := fun w' => w'.cell? ⟨w1.heap.size, 3, none⟩ = some (.slice (some ⟨gS, 0, none⟩) ns1 cs1)) (by kernel_rfl) q3 (fun hHeld => ?_)
    refine wpAnyH_takesJ (i := 0) (v := (.pointer (some ⟨w1.heap.size, 3, none⟩))) (some 53) rfl rfl (by kernel_rfl) (by kernel_rfl) (by kernel_rfl) (fun _ _ _ h => h) (Or.inl ⟨by rfl, (by intro W9 hSw; (try dsimp only at hSw); go_simp; first | done | with_reducible rfl)⟩) (by assumption) ?_
    simp only [Act.put, List.setIfInBounds_toArray]; try simp only [List.set_cons_zero, List.set_cons_succ]
    refine wpAnyH_takesJ (i := 1) (v := (.slice (some ⟨gS, 0, none⟩) ns1 cs1)) (some 54) rfl rfl (by kernel_rfl) (by kernel_rfl) (by kernel_rfl) (fun _ _ _ h => h) (Or.inl ⟨by rfl, (by intro W9 hSw; (try dsimp only at hSw); go_simp; first | done | with_reducible rfl)⟩) (by assumption) ?_
    simp only [Act.put, List.setIfInBounds_toArray]; try simp only [List.set_cons_zero, List.set_cons_succ]
    refine wpAnyH_takesJ (i := 2) (v := (.int .i64 (m0 : Nat))) (some 55) rfl rfl (by kernel_rfl) (by kernel_rfl) (by kernel_rfl) (fun _ _ _ h => h) (Or.inl ⟨by rfl, (by intro W9 hSw; (try dsimp only at hSw); go_simp; first | done | with_reducible rfl)⟩) (by assumption) ?_
    simp only [Act.put, List.setIfInBounds_toArray]; try simp only [List.set_cons_zero, List.set_cons_succ]
    refine wpAnyH_takesJ (i := 3) (v := (.pointer (some ⟨w1.heap.size, 3, none⟩))) (some 56) rfl rfl (by kernel_rfl) (by kernel_rfl) (by kernel_rfl) (fun _ _ _ h => h) (Or.inl ⟨by rfl, (by intro W9 hSw; (try dsimp only at hSw); go_simp; first | done | with_reducible rfl)⟩) (by assumption) ?_
    simp only [Act.put, List.setIfInBounds_toArray]; try simp only [List.set_cons_zero, List.set_cons_succ]
    refine wpAnyH_takesJ (i := 4) (v := (.slice (some ⟨gS, 0, none⟩) ns1 cs1)) (some 57) rfl rfl (by kernel_rfl) (by kernel_rfl) (by kernel_rfl) (fun _ _ _ h => h) (Or.inl ⟨by rfl, (by intro W9 hSw; (try dsimp only at hSw); go_simp; first | done | with_reducible rfl)⟩) (by assumption) ?_
    simp only [Act.put, List.setIfInBounds_toArray]; try simp only [List.set_cons_zero, List.set_cons_succ]
    refine wpAnyH_takesJ (i := 5) (v := (.int .i64 (m0 : Nat))) (some 58) rfl rfl (by kernel_rfl) (by kernel_rfl) (by kernel_rfl) (fun _ _ _ h => h) (Or.inl ⟨by rfl, (by intro W9 hSw; (try dsimp only at hSw); go_simp; first | done | with_reducible rfl)⟩) (by assumption) ?_
    simp only [Act.put, List.setIfInBounds_toArray]; try simp only [List.set_cons_zero, List.set_cons_succ]
    refine wpAnyH_takesJ (i := 6) (v := (.pointer (some ⟨gS, m0, none⟩))) (some 59) rfl rfl (by kernel_rfl) (by kernel_rfl) (by kernel_rfl) (fun _ _ _ h => h) (Or.inl ⟨by rfl, (by intro W9 hSw; (try dsimp only at hSw); go_simp; first | done | with_reducible rfl)⟩) (by assumption) ?_
    simp only [Act.put, List.setIfInBounds_toArray]; try simp only [List.set_cons_zero, List.set_cons_succ]
    refine wpAnyH_takesJ (i := 8) (v := (.slice Ao mo co)) (some 61) rfl rfl (by kernel_rfl) (by kernel_rfl) (by kernel_rfl) (fun _ _ _ h => h) (Or.inl ⟨by rfl, (by intro W9 hSw; (try dsimp only at hSw); go_simp; first | done | with_reducible rfl)⟩) (by assumption) ?_
    simp only [Act.put, List.setIfInBounds_toArray]; try simp only [List.set_cons_zero, List.set_cons_succ]
    refine wpAnyH_ready (rs := [7]) (by kernel_rfl) (by simp) ?_
    refine AllReadyH.cons rfl (fun K hK => ?_) AllReadyH.nil
    go_simp
    refine hK.out _ _ (by exact q3) (fun hHeld => ?_)
    clear hK K
    try dsimp only
    have hbd : Below w9.heap.size w9 w9.drew := (Below.refl _ _).drew
    obtain ⟨wa, hwa⟩ : ∃ wa, wa = w9.drew := ⟨_, rfl⟩
    rw [← hwa] at hbd ⊢
    clear hwa
    have RDa := Lib.hid (RDb.out.step hbd)
    have Xa := Lib.hid (Xb.out.step hbd)
    have Za := Lib.hid (Zb.out.step hbd)
    have Ba := Lib.hid (held_trans Bb.out hbd)
    have Ra := Lib.hid (Rb.out.below hbd)
    clear RDb Xb Zb Bb Rb hbd q3
    refine wpAnyH_ready (rs := [9]) (by kernel_rfl) (by simp) ?_
    refine AllReadyH.cons rfl (fun K hK => ?_) AllReadyH.nil
    refine step_append_rowat (by rfl) (.tmp 60) (.tmp 61) (by rfl) (V.heap.size + 2) (.slice e0.A e0.n e0.c) e0.n e0.l (by rfl) RDa.out.ours Ao mo co po (by rfl) Ra.out (by omega) RDa.out.up ?_
    intro v5 w5 ho5 hg5 hat5
    obtain ⟨A5, c5, rfl⟩ := own_form ho5
    have nX : ∀ k, (Value.slice e0.A e0.n e0.c).ownBlock = some k → V.heap.size + 2 ≤ k ∧ k < w1.heap.size := fun k hk => ⟨(RDa.out.ours.lt k hk).1, HQB.out k hk⟩
    have X5 := Lib.hid (Xa.out.grown hg5 (fun e => by have := (nX _ e.symm).2; omega))
    have Z5 := Lib.hid (Za.out.grown hg5 (fun e => by have := (nX _ e.symm).1; omega))
    have BB5 := Lib.hid (Ba.out.grown hg5 Ba.out.size (fun k hk => by have := (nX k hk).1; omega))
    have hgs := (RDa.out.rows.own.lt gS rfl)
    have hgY := HGY.out
    have MM := Lib.hid (RDa.out.push (F := fun _ => False) (w0 := V) (by omega) ho5 hg5 hat5)
    have XX := Lib.hid (RDa.out.rows.own.kept hg5 (by
      cases hob : (Value.slice e0.A e0.n e0.c).ownBlock with
      | none => exact .inr (by simp [Value.ownBlock])
      | some k => exact .inr (RDa.out.t4 k hob)))
    refine hK.out _ _ (by exact X5.out.b5.c3) (fun hHeld => ?_)
    clear hK K hg5 hat5 ho5 nX
    try dsimp only
    refine wpAnyH_takesJ (i := 10) (v := (.pointer (some ⟨gS, m0, none⟩))) (some 63) rfl rfl (by kernel_rfl) (by kernel_rfl) (by kernel_rfl) (fun _ _ _ h => h) (Or.inl ⟨by rfl, (by intro W9 hSw; (try dsimp only at hSw); go_simp; first | done | with_reducible rfl)⟩) (by assumption) ?_
    simp only [Act.put, List.setIfInBounds_toArray]; try simp only [List.set_cons_zero, List.set_cons_succ]
    have cc : w5.cell? ⟨gS, m0, none⟩ = some (.slice e0.A e0.n e0.c) := by
      have p4 := XX.out.cellAt m0 (show m0 < ns1 * 1 by omega)
      have p5 := flat_at csL_len ls m0 e0 0 RDa.out.at' (by decide)
      rw [Nat.mul_one, Nat.add_zero] at p5
      rw [p5] at p4
      exact p4
    have ff := XX.out.frozenAt m0
    refine wpAnyH_ready (rs := [11]) (by kernel_rfl) (by simp) ?_
    refine AllReadyH.cons rfl (fun K hK => ?_) AllReadyH.nil
    go_simp
    have X6 := X5.out.far (p := ⟨gS, m0, none⟩) (u := .slice A5 (e0.n + mo) c5) (by simp only; omega)
    have Z6 := Z5.out.far (p := ⟨gS, m0, none⟩) (u := .slice A5 (e0.n + mo) c5) (by simp only; omega)
    have BB6 := BB5.out.setCell (p := ⟨gS, m0, none⟩) (by simp only; omega) (.slice A5 (e0.n + mo) c5)
    refine hK.out _ _ (by exact X6.b5.c3) (fun hHeld => ?_)
    clear hK K
    try dsimp only
    refine wpAnyH_done (by kernel_rfl) ?_ _
    obtain ⟨W6, hW6⟩ : ∃ W6, W6 = w5.setCell ⟨gS, m0, none⟩ (.slice A5 (e0.n + mo) c5) := ⟨_, rfl⟩
    rw [← hW6] at X6 Z6 BB6 MM ⊢
    have HX6 := Lib.hid X6
    have HZ6 := Lib.hid Z6
    have HB6 := Lib.hid BB6
    clear hW6 X6 Z6 BB6 cc ff X5 Z5 BB5 XX Xa Za Ba RDa Ra
    have d0 := HX6.out.b5.c0
    have d1 := HX6.out.b5.c1
    have d2 := HX6.out.b5.c2
    have d3 := HX6.out.b5.c3
    have d4 := HX6.out.b5.c4
    have y0 := HZ6.out.b5.c0
    have y1 := HZ6.out.b5.c1
    have y2 := HZ6.out.b5.c2
    have y3 := HZ6.out.b5.c3
    have y4 := HZ6.out.b5.c4
    have g0 := HZ6.out.f0
    have g1 := HZ6.out.f1
    have g2 := HZ6.out.f2
    have g3 := HZ6.out.f3
    have g4 := HZ6.out.f4
    have HF := Lib.hid (tell_yes (F := F) (w := w) (V := V) (Z := w.heap.size + 1) (e := 0) HPE.out MM.out (by omega) (by omega) (by omega) HB6.out (.slice T1 nt1 ct1) (.int .i64 r.size) (.slice (some ⟨gR, 0, none⟩) nr1 cr1) (.slice (some ⟨gS, 0, none⟩) ns1 cs1) (.int .u64 (r.on : Nat)))
    obtain ⟨k0, k1, k2, k3, k4⟩ := put5_told HZ6.out (.slice T1 nt1 ct1) (.int .i64 r.size) (.slice (some ⟨gR, 0, none⟩) nr1 cr1) (.slice (some ⟨gS, 0, none⟩) ns1 cs1) (.int .u64 (r.on : Nat))
    unfold put5 at k0 k1 k2 k3 k4
    clear MM c0
    go_wp2_with fail
    refine bodyPost_ret ?_ rfl HF.out
    simp [results, Tryz.results7, go_sem, k0, k1, k2, k3, k4, jv, Jp.rowed, Jp.ringed]
end Go.Proofs.YtgloibgmaiadfaaGreatDoor

