/- The document's Local, by its contract. -/
import Derived.Test.YtinmmcikhjacoaaDoorM6
import Derived.Test.YtinmmcikhjacoaaDoorJRefMay
import Derived.Test.YtinmmcikhjacoaaDoorM5
import Derived.Test.YtinmmcikhjacoaaDoorM7
namespace Go.Proofs.YtinmmcikhjacoaaDoor
open Go.RowKit
set_option linter.unusedVariables false

set_option maxRecDepth 100000 in
set_option maxHeartbeats 2000000 in
theorem jrefLoc_any {F : Nat → Prop} (d : Ad) (r : Jp.Rn) (p tick : Int) (w : World) (h : RM F w d r) (hF : ∀ b, F b → b < w.heap.size) (hlow : Low r) (ht : In64 tick) :
    Calls Tryd.prog 12 #[jv d r, .int .i64 p, .int .i64 tick] w (TellJG F w (Jp.loc r p tick)) := by
  obtain ⟨A0, nt, ct, R, nr, cr, S, ns, cs⟩ := d
  have H := Lib.hid h
  have HL := Lib.hid hlow
  obtain ⟨hr1, hr2, hr3⟩ := h.nr
  obtain ⟨hs1, hs2, hs3⟩ := h.ns
  have hr4 := hlow.rings
  have hs4 := hlow.rows
  have HTL := Lib.hid h.tlen
  have HTM := Lib.hid h.tmax
  simp only at hr1 hr2 hr3 hs1 hs2 hs3 HTL HTM
  have HFW := Lib.hid hF
  have HTI := Lib.hid ht
  clear h hlow hF ht
  obtain ⟨V, hV, hX, hZ, hB, hsz⟩ := boxes2 w (.slice A0 nt ct) (.int .i64 r.size) (.slice R nr cr) (.slice S ns cs) (.int .u64 (r.on : Nat)) (.slice none 0 0) (.int .i64 0) (.slice none 0 0) (.slice none 0 0) (.int .u64 0) 27 27
  have E := Lib.hid hV
  have X0 := Lib.hid hX
  have Z0 := Lib.hid hZ
  have B0 := Lib.hid hB
  have SZ := Lib.hid hsz
  have hMY := fun T HT => jrefMay_any ⟨A0, nt, ct, R, nr, cr, S, ns, cs⟩ r T V HT (H.out.below B0.out) HL.out
  unfold jv at hMY
  simp only at hMY
  have MY := Lib.hid hMY
  have q0 := hX.c0
  have q1 := hX.c1
  have q2 := hX.c2
  have q3 := hX.c3
  have q4 := hX.c4
  clear hV hX hB hZ hMY hsz
  unfold jv
  go_enter Tryd.func12, Tryd.ntmps12
  go_wp2_with (rw [← E.out])
  clear E
  by_cases hM : ¬ Jp.May r
  · refine (MY.out false (Lib.hid (by simp [hM]))).mono ?_
    rintro e w1 ⟨rfl, hb1⟩
    have X1 := X0.out.step hb1
    have Z1 := Z0.out.step hb1
    have B1 := held_trans B0.out hb1
    have HP := Lib.hid (Jp.loc_no (r := r) (p := p) (tick := tick) (.inl hM))
    clear q0 q1 q2 q3 q4
    have d0 := (X1).c0
    have d1 := (X1).c1
    have d2 := (X1).c2
    have d3 := (X1).c3
    have d4 := (X1).c4
    have y0 := (Z1).b5.c0
    have y1 := (Z1).b5.c1
    have y2 := (Z1).b5.c2
    have y3 := (Z1).b5.c3
    have y4 := (Z1).b5.c4
    have g0 := (Z1).f0
    have g1 := (Z1).f1
    have g2 := (Z1).f2
    have g3 := (Z1).f3
    have g4 := (Z1).f4
    have HF := Lib.hid (TellJG.is (F := F) (w0 := w) (d := ⟨A0, nt, ct, R, nr, cr, S, ns, cs⟩) (r := r) (g := 0) (k := 0) (HP.out) ((H.out.below (below_put (b := w.heap.size + 1) B1 (by omega) (.slice A0 nt ct) (.int .i64 r.size) (.slice R nr cr) (.slice S ns cs) (.int .u64 (r.on : Nat)))).mono More.in) (below_put (b := w.heap.size + 1) B1 (by omega) (.slice A0 nt ct) (.int .i64 r.size) (.slice R nr cr) (.slice S ns cs) (.int .u64 (r.on : Nat))))
    obtain ⟨k0, k1, k2, k3, k4⟩ := put5_told (Z1) (.slice A0 nt ct) (.int .i64 r.size) (.slice R nr cr) (.slice S ns cs) (.int .u64 (r.on : Nat))
    unfold put5 at k0 k1 k2 k3 k4
    go_wp2_with fail
    refine bodyPost_ret ?_ rfl HF.out
    simp [results, Tryd.results12, go_sem, k0, k1, k2, k3, k4, jv]
  have hM := Classical.not_not.1 hM
  refine (MY.out true (Lib.hid (by simp [hM]))).mono ?_
  rintro e w1 ⟨rfl, hb1⟩
  have X1 := Lib.hid (X0.out.step hb1)
  have Z1 := Lib.hid (Z0.out.step hb1)
  have B1 := Lib.hid (held_trans B0.out hb1)
  have SZ1 := Lib.hid (Nat.lt_of_lt_of_le SZ.out hb1.size)
  have HMM := Lib.hid hM
  have hON := fun W => jrefOn_any ⟨A0, nt, ct, R, nr, cr, S, ns, cs⟩ r p W H.out.on
  obtain ⟨ob, hob⟩ : ∃ ob, ob = Jp.onP r p := ⟨_, rfl⟩
  rw [← hob] at hON
  unfold jv at hON
  simp only at hON
  have ON := Lib.hid hON
  have HOB := Lib.hid hob
  clear hb1 X0 Z0 B0 MY hM hob hON q0 q1 q2 q3 q4
  have q0 := X1.out.c0
  have q1 := X1.out.c1
  have q2 := X1.out.c2
  have q3 := X1.out.c3
  have q4 := X1.out.c4
  go_wp2_with fail
  refine (ON.out _).mono ?_
  rintro e w2 ⟨rfl, hb2⟩
  have X2 := Lib.hid (X1.out.step hb2)
  have Z2 := Lib.hid (Z1.out.step hb2)
  have B2 := Lib.hid (held_trans B1.out hb2)
  have SZ2 := Lib.hid (Nat.lt_of_lt_of_le SZ1.out hb2.size)
  clear hb2 X1 Z1 B1 q0 q1 q2 q3 q4 ON
  cases ob
  · have HP := Lib.hid (Jp.loc_no (r := r) (p := p) (tick := tick) (.inr HOB.out.symm))
    have d0 := ((X2.out)).c0
    have d1 := ((X2.out)).c1
    have d2 := ((X2.out)).c2
    have d3 := ((X2.out)).c3
    have d4 := ((X2.out)).c4
    have y0 := ((Z2.out)).b5.c0
    have y1 := ((Z2.out)).b5.c1
    have y2 := ((Z2.out)).b5.c2
    have y3 := ((Z2.out)).b5.c3
    have y4 := ((Z2.out)).b5.c4
    have g0 := ((Z2.out)).f0
    have g1 := ((Z2.out)).f1
    have g2 := ((Z2.out)).f2
    have g3 := ((Z2.out)).f3
    have g4 := ((Z2.out)).f4
    have HF := Lib.hid (TellJG.is (F := F) (w0 := w) (d := ⟨A0, nt, ct, R, nr, cr, S, ns, cs⟩) (r := r) (g := 0) (k := 0) (HP.out) ((H.out.below (below_put (b := w.heap.size + 1) (B2.out) (by omega) (.slice A0 nt ct) (.int .i64 r.size) (.slice R nr cr) (.slice S ns cs) (.int .u64 (r.on : Nat)))).mono More.in) (below_put (b := w.heap.size + 1) (B2.out) (by omega) (.slice A0 nt ct) (.int .i64 r.size) (.slice R nr cr) (.slice S ns cs) (.int .u64 (r.on : Nat))))
    obtain ⟨k0, k1, k2, k3, k4⟩ := put5_told ((Z2.out)) (.slice A0 nt ct) (.int .i64 r.size) (.slice R nr cr) (.slice S ns cs) (.int .u64 (r.on : Nat))
    unfold put5 at k0 k1 k2 k3 k4
    go_wp2_with fail
    refine bodyPost_ret ?_ rfl HF.out
    simp [results, Tryd.results12, go_sem, k0, k1, k2, k3, k4, jv]
  obtain ⟨k, rfl, hk⟩ := Jp.onP_lt HMM.out HOB.out.symm
  have HLO := Lib.hid (Jp.loc_on (p := k) (tick := tick) HMM.out HOB.out.symm)
  obtain ⟨m0, hnd, hm0⟩ := Jp.node_at HMM.out.tree (k := k) (by rw [← HMM.out.rings]; omega)
  have hmn : m0 < ns := by rw [← hs1, HMM.out.rows]; exact hm0
  have hnO : Jp.nodeOf r k = m0 := by unfold Jp.nodeOf; rw [hnd]; rfl
  have HNO := Lib.hid (refNode_any A0 nt ct r.tree (k : Int) w2 HTL HTM.out (Lib.hid H.out.fit) (H.out.below B2.out).tree)
  have HND := Lib.hid hnd
  have q0 := X2.out.c0
  clear hnd hm0
  go_wp2_with fail
  refine HNO.out.mono ?_
  rintro e w3 ⟨rfl, hb3⟩
  rw [HND.out]
  have X3 := Lib.hid (X2.out.step hb3)
  have Z3 := Lib.hid (Z2.out.step hb3)
  have B3 := Lib.hid (held_trans B2.out hb3)
  have SZ3 := Lib.hid (Nat.lt_of_lt_of_le SZ2.out hb3.size)
  obtain ⟨l, hl⟩ : ∃ l, r.rows[m0]? = some l := ⟨_, List.getElem?_eq_getElem (by omega)⟩
  obtain ⟨⟨x, t⟩, hx⟩ : ∃ x, r.rings[k]? = some x := ⟨_, List.getElem?_eq_getElem (by omega)⟩
  obtain ⟨bS, oS, AL, nl, cl, hS, _, cS, hrowL, hFL⟩ := (H.out.below B3.out).rowAt2 hl
  obtain ⟨bR, oR, AT, na, ca, hR, _, cR0, cR1, hrowT, hFT⟩ := (H.out.below B3.out).ringAt2 hx
  simp only at hS hR
  subst hS hR
  have HXL := Lib.hid (show Jp.rowAt r (Jp.nodeOf r k) = l by rw [hnO]; exact Jp.rowAt_some hl)
  have HXM := Lib.hid (show Jp.rowAt r m0 = l from Jp.rowAt_some hl)
  have HXT := Lib.hid (show Jp.ringAt r k = (x, t) from Jp.ringAt_some hx)
  have hnl : nl ≤ 400 := by rw [← hrowL.len]; exact HL.out.row l (List.mem_of_getElem? hl)
  have hna : na ≤ 400 := by rw [← hrowT.len]; exact HL.out.ring (x, t) (List.mem_of_getElem? hx)
  have HRL := Lib.hid hrowL
  have HRT := Lib.hid hrowT
  have HFL := Lib.hid hFL
  have HFT := Lib.hid hFT
  have i0 : (0 : Int) ≤ (m0 : Int) := by omega
  have i1 : (m0 : Int) < (ns : Int) := by omega
  have i2 : (0 : Int) ≤ (k : Int) := by omega
  have i3 : (k : Int) < (nr : Int) := by omega
  have HNN := Lib.hid hnO
  have q2 := X3.out.c2
  have q3 := X3.out.c3
  have hll := hrowL.len
  have htl := hrowT.len
  obtain ⟨w4, hw4⟩ : ∃ w4, w4 = w3.alloc (.cells #[.int .i64 x, .slice AT na ca] 57) := ⟨_, rfl⟩
  have hb4 : Below w3.heap.size w3 w4 := by rw [hw4]; exact below_new _ _
  have n0 : w4.cell? ⟨w3.heap.size, 0, none⟩ = some (.int .i64 x) := by rw [hw4, World.cell?_alloc_at _ _ _ _ rfl]; rfl
  have n1 : w4.cell? ⟨w3.heap.size, 1, none⟩ = some (.slice AT na ca) := by rw [hw4, World.cell?_alloc_at _ _ _ _ rfl]; rfl
  have E4 := Lib.hid hw4
  have X4 := Lib.hid (X3.out.step hb4)
  have Z4 := Lib.hid (Z3.out.step hb4)
  have B4 := Lib.hid (held_trans B3.out hb4)
  have SZ4 := Lib.hid (Nat.lt_of_lt_of_le SZ3.out hb4.size)
  have HRL4 := Lib.hid (hrowL.below hb4)
  have HRT4 := Lib.hid (hrowT.below hb4)
  have hw61 : IntKind.i64.wrap (tick.tmod 61) = tick.tmod 61 := by
    have h1 := Int.tmod_lt_of_pos tick (show (0 : Int) < 61 by decide)
    have h2 := Int.lt_tmod_of_pos tick (show (0 : Int) < 61 by decide)
    exact IntWalk.i64_in _ (by omega)
  clear hb3 X2 Z2 B2 HNO q0 hl hx hrowL hrowT hFL hFT hw4 hb4 hnO X3 Z3 B3 HRL HRT
  go_upto_region 6 with (rw [← E4.out])
  clear E4 q2 q3 cS cR0 cR1
  by_cases t1 : nl = 0
  · have hl0 : l = [] := List.length_eq_zero_iff.1 (by omega)
    have HWN := Lib.hid (show ¬ (l ≠ [] ∧ (tick.tmod 61 = 0 ∨ (x = 0 ∧ t = []))) from fun h => h.1 hl0)
    have z1 : ¬ (0 : Int) < (nl : Int) := by omega
    clear hl0
    by_cases t2 : x = 0
    · subst t2
      have x0 : ((0 : Int) != 0) = false := rfl
      by_cases t3 : na = 0
      · have ht0 : t = [] := List.length_eq_zero_iff.1 (by have h9 : t.length = na := htl; omega)
        have HP := Lib.hid (show Jp.loc r k tick = (r, 0, 0) by rw [HLO.out]; exact Jp.locOn_none HNN.out HXM.out HXT.out HWN.out rfl ht0)
        have z3 : ¬ (0 : Int) < (na : Int) := by omega
        have q0 := X4.out.c0
        clear ht0
        have d0 := (X4.out).c0
        have d1 := (X4.out).c1
        have d2 := (X4.out).c2
        have d3 := (X4.out).c3
        have d4 := (X4.out).c4
        have y0 := (Z4.out).b5.c0
        have y1 := (Z4.out).b5.c1
        have y2 := (Z4.out).b5.c2
        have y3 := (Z4.out).b5.c3
        have y4 := (Z4.out).b5.c4
        have g0 := (Z4.out).f0
        have g1 := (Z4.out).f1
        have g2 := (Z4.out).f2
        have g3 := (Z4.out).f3
        have g4 := (Z4.out).f4
        have HF := Lib.hid (TellJG.is (F := F) (w0 := w) (d := ⟨A0, nt, ct, some ⟨bR, oR, none⟩, nr, cr, some ⟨bS, oS, none⟩, ns, cs⟩) (r := r) (g := 0) (k := 0) (HP.out) ((H.out.below (below_put (b := w.heap.size + 1) B4.out (by omega) (.slice A0 nt ct) (.int .i64 r.size) (.slice (some ⟨bR, oR, none⟩) nr cr) (.slice (some ⟨bS, oS, none⟩) ns cs) (.int .u64 (r.on : Nat)))).mono More.in) (below_put (b := w.heap.size + 1) B4.out (by omega) (.slice A0 nt ct) (.int .i64 r.size) (.slice (some ⟨bR, oR, none⟩) nr cr) (.slice (some ⟨bS, oS, none⟩) ns cs) (.int .u64 (r.on : Nat))))
        obtain ⟨k0, k1, k2, k3, k4⟩ := put5_told (Z4.out) (.slice A0 nt ct) (.int .i64 r.size) (.slice (some ⟨bR, oR, none⟩) nr cr) (.slice (some ⟨bS, oS, none⟩) ns cs) (.int .u64 (r.on : Nat))
        unfold put5 at k0 k1 k2 k3 k4
        go_wp2_with fail
        refine bodyPost_ret ?_ rfl HF.out
        simp [results, Tryd.results12, go_sem, k0, k1, k2, k3, k4, jv]
      · have HX0 := Lib.hid (rfl : (0 : Int) = 0)
        have l1 : t ≠ [] := fun e => by have h9 : t.length = na := htl; rw [e] at h9; simp at h9; omega
        obtain ⟨gg, t', hcons⟩ := List.exists_cons_of_ne_nil l1
        obtain ⟨bT, oT, hAT, hbT, hcT⟩ := HRT4.out.cells (by omega)
        have cg := hcT 0 gg (show t[0]? = some gg by rw [hcons]; rfl)
        rw [Nat.add_zero] at cg
        have HP0 := Lib.hid (show Jp.loc r k tick = (Jp.ringed r k (0, t'), gg, 2) by rw [HLO.out, Jp.locOn_ring HNN.out HXM.out HXT.out HWN.out HX0.out (by rw [hcons]; simp), hcons]; rfl)
        subst hAT hcons
        have HBZ := Lib.hid (show bT ≠ w.heap.size + 1 from fun e => by have := HFW.out _ (HFT.out (by simp) ⟨bT, oT, none⟩ rfl); simp only at this; omega)
        have s1 : (1 : Int) ≤ (na : Int) := by omega
        have s2 : ¬ ((na : Int) < 1) := by omega
        have s4 : (0 : Int) < (na : Int) := by omega
        have hncl := HRT4.out.cap
        have s5 : ¬ ca < 1 := by omega
        have s6 : 1 ≤ na := by omega
        have s7 : ((na : Int) == 0) = false := by rw [beq_eq_false_iff_ne]; omega
        clear hcT hbT l1
        go_wp2_with fail
        by_cases hc1 : ca = 1
        · obtain rfl : na = 1 := by omega
          subst hc1
          refine wp_region_held_drew (S := fun w' => (w'.cell? ⟨w.heap.size, 0, none⟩ = some (.slice A0 nt ct) ∧ w'.cell? ⟨w.heap.size, 1, none⟩ = some (.int .i64 r.size) ∧ w'.cell? ⟨w.heap.size, 2, none⟩ = some (.slice (some ⟨bR, oR, none⟩) nr cr) ∧ w'.cell? ⟨w.heap.size, 3, none⟩ = some (.slice (some ⟨bS, oS, none⟩) ns cs) ∧ w'.cell? ⟨w.heap.size, 4, none⟩ = some (.int .u64 (r.on : Nat))) ∧ w'.cell? ⟨w3.heap.size, 1, none⟩ = some (.slice (some ⟨bT, oT, none⟩) 1 1) ∧ w'.cell? ⟨bT, oT, none⟩ = some (.int .i64 gg)) (by kernel_rfl) ⟨⟨X4.out.c0, X4.out.c1, X4.out.c2, X4.out.c3, X4.out.c4⟩, n1, cg⟩ (fun hHeld => ?_)
          have hbd : Below w4.heap.size w4 w4.drew := (Below.refl _ _).drew
          obtain ⟨w5, hw5⟩ : ∃ w5, w5 = w4.drew := ⟨_, rfl⟩
          rw [← hw5] at hbd hHeld ⊢
          clear hw5
          have X5 := Lib.hid (X4.out.step hbd)
          have Z5 := Lib.hid (Z4.out.step hbd)
          have B5h := Lib.hid (held_trans B4.out hbd)
          have SZ5 := Lib.hid (Nat.lt_of_lt_of_le SZ4.out hbd.size)
          have HRS := Lib.hid (HRT4.out.below hbd)
          have cg5 := keepcell hbd cg
          have n15 := keepcell hbd n1
          clear hbd cg n0 n1
          refine wpAnyH_takesJ (i := 0) (v := (.agg #[.slice A0 nt ct, .int .i64 r.size, .slice (some ⟨bR, oR, none⟩) nr cr, .slice (some ⟨bS, oS, none⟩) ns cs, .int .u64 (r.on : Nat)])) (some 78) rfl rfl (by kernel_rfl) (by kernel_rfl) (by kernel_rfl) (fun _ _ _ h => h) (Or.inl ⟨by rfl, (by intro W9 hSw; (try dsimp only at hSw); go_simp; first | done | with_reducible rfl)⟩) (by assumption) ?_
          simp only [Act.put, List.setIfInBounds_toArray]; try simp only [List.set_cons_zero, List.set_cons_succ]
          refine wpAnyH_takesJ (i := 1) (v := (.int .i64 (k : Nat))) (some 79) rfl rfl (by kernel_rfl) (by kernel_rfl) (by kernel_rfl) (fun _ _ _ h => h) (Or.inl ⟨by rfl, (by intro W9 hSw; (try dsimp only at hSw); go_simp; first | done | with_reducible rfl)⟩) (by assumption) ?_
          simp only [Act.put, List.setIfInBounds_toArray]; try simp only [List.set_cons_zero, List.set_cons_succ]
          refine wpAnyH_takesJ (i := 2) (v := (.pointer (some ⟨w3.heap.size, 1, none⟩))) (some 80) rfl rfl (by kernel_rfl) (by kernel_rfl) (by kernel_rfl) (fun _ _ _ h => h) (Or.inl ⟨by rfl, (by intro W9 hSw; (try dsimp only at hSw); go_simp; first | done | with_reducible rfl)⟩) (by assumption) ?_
          simp only [Act.put, List.setIfInBounds_toArray]; try simp only [List.set_cons_zero, List.set_cons_succ]
          refine wpAnyH_takesJ (i := 3) (v := (.slice (some ⟨bT, oT, none⟩) 1 1)) (some 81) rfl rfl (by kernel_rfl) (by kernel_rfl) (by kernel_rfl) (fun _ _ _ h => h) (Or.inl ⟨by rfl, (by intro W9 hSw; (try dsimp only at hSw); go_simp; first | done | with_reducible rfl)⟩) (by assumption) ?_
          simp only [Act.put, List.setIfInBounds_toArray]; try simp only [List.set_cons_zero, List.set_cons_succ]
          refine wpAnyH_takesJ (i := 4) (v := (.slice (some ⟨bT, oT, none⟩) 0 0)) (some 82) rfl rfl (by kernel_rfl) (by kernel_rfl) (by kernel_rfl) (fun _ _ _ h => h) (Or.inl ⟨by rfl, (by intro W9 hSw; (try dsimp only at hSw); go_simp; first | done | with_reducible rfl)⟩) (by assumption) ?_
          simp only [Act.put, List.setIfInBounds_toArray]; try simp only [List.set_cons_zero, List.set_cons_succ]
          refine wpAnyH_takesJ (i := 5) (v := (.agg #[.int .i64 0, .slice (some ⟨bT, oT, none⟩) 0 0])) (some 83) rfl rfl (by kernel_rfl) (by kernel_rfl) (by kernel_rfl) (fun _ _ _ h => h) (Or.inl ⟨by rfl, (by intro W9 hSw; (try dsimp only at hSw); go_simp; first | done | with_reducible rfl)⟩) (by assumption) ?_
          simp only [Act.put, List.setIfInBounds_toArray]; try simp only [List.set_cons_zero, List.set_cons_succ]
          refine wpAnyH_takesJ (i := 7) (v := (.pointer (some ⟨w3.heap.size, 1, none⟩))) (some 85) rfl rfl (by kernel_rfl) (by kernel_rfl) (by kernel_rfl) (fun _ _ _ h => h) (Or.inl ⟨by rfl, (by intro W9 hSw; (try dsimp only at hSw); go_simp; first | done | with_reducible rfl)⟩) (by assumption) ?_
          simp only [Act.put, List.setIfInBounds_toArray]; try simp only [List.set_cons_zero, List.set_cons_succ]
          refine wpAnyH_takesJ (i := 8) (v := (.slice (some ⟨bT, oT, none⟩) 1 1)) (some 86) rfl rfl (by kernel_rfl) (by kernel_rfl) (by kernel_rfl) (fun _ _ _ h => h) (Or.inl ⟨by rfl, (by intro W9 hSw; (try dsimp only at hSw); go_simp; first | done | with_reducible rfl)⟩) (by assumption) ?_
          simp only [Act.put, List.setIfInBounds_toArray]; try simp only [List.set_cons_zero, List.set_cons_succ]
          refine wpAnyH_takesJ (i := 9) (v := (.pointer (some ⟨bT, oT, none⟩))) (some 87) rfl rfl (by kernel_rfl) (by kernel_rfl) (by kernel_rfl) (fun _ _ _ h => h) (Or.inl ⟨by rfl, (by intro W9 hSw; (try dsimp only at hSw); go_simp; first | done | with_reducible rfl)⟩) (by assumption) ?_
          simp only [Act.put, List.setIfInBounds_toArray]; try simp only [List.set_cons_zero, List.set_cons_succ]
          refine wpAnyH_takesJ (i := 10) (v := (.int .i64 gg)) (some 88) rfl rfl (by kernel_rfl) (by kernel_rfl) (by kernel_rfl) (fun _ _ _ h => h) (Or.inl ⟨by rfl, (by intro W9 hSw; (try dsimp only at hSw); go_simp; first | done | with_reducible rfl)⟩) (by assumption) ?_
          simp only [Act.put, List.setIfInBounds_toArray]; try simp only [List.set_cons_zero, List.set_cons_succ]
          refine wpAnyH_ready (rs := [6]) (by kernel_rfl) (by simp) ?_
          refine AllReadyH.cons rfl (fun K hK => ?_) AllReadyH.nil
          go_simp
          go_at_call 35
          have hsl := HRS.out.slice 1 (by omega)
          rw [(if_pos rfl), List.drop_one, List.tail_cons] at hsl
          have hrw := jringed_any ⟨A0, nt, ct, some ⟨bR, oR, none⟩, nr, cr, some ⟨bS, oS, none⟩, ns, cs⟩ r k 0 t' (some ⟨bT, oT, none⟩) 0 0 w5 (H.out.below B5h.out) (by simp only; omega) (by simp only; omega) hsl (fun _ ad e => by injection e with e; subst e; exact HFT.out (by simp) ⟨bT, oT, none⟩ rfl)
          obtain ⟨q, hq⟩ : ∃ q, q = Jp.ringed r k (0, t') := ⟨_, rfl⟩
          rw [← hq] at hrw
          have HP := Lib.hid (show Jp.loc r k tick = (q, gg, 2) by rw [HP0.out, hq])
          clear hq hsl HRS
          refine hrw.mono ?_
          rintro e w6 ⟨⟨T6, nt6, ct6, R6, nr6, cr6, S6, ns6, cs6⟩, rfl, hm6, hb6⟩
          have cg6 := keepcell hb6 cg5
          have n16 := keepcell hb6 n15
          have X6 := Lib.hid (X5.out.step hb6)
          have Z6 := Lib.hid (Z5.out.step hb6)
          have B6 := Lib.hid (held_trans B5h.out hb6)
          have M6 := Lib.hid hm6
          unfold jv
          simp only
          refine hK.out _ _ (by (exact ⟨⟨X6.out.c0, X6.out.c1, X6.out.c2, X6.out.c3, X6.out.c4⟩, n16, cg6⟩)) (fun hHeld => ?_)
          clear hK K hm6
          try dsimp only
          have y0 := Z6.out.b5.c0
          have y1 := Z6.out.b5.c1
          have y2 := Z6.out.b5.c2
          have y3 := Z6.out.b5.c3
          have y4 := Z6.out.b5.c4
          have g0 := Z6.out.f0
          have g1 := Z6.out.f1
          have g2 := Z6.out.f2
          have g3 := Z6.out.f3
          have g4 := Z6.out.f4
          clear hb6 hrw
          refine wpAnyH_ready (rs := [11]) (by kernel_rfl) (by simp) ?_
          refine AllReadyH.cons rfl (fun K hK => ?_) AllReadyH.nil
          go_simp
          have X7 := (((((X6.out.far (p := ⟨w.heap.size + 1, 0, none⟩) (u := .slice T6 nt6 ct6) (by simp)).far (p := ⟨w.heap.size + 1, 1, none⟩) (u := .int .i64 q.size) (by simp)).far (p := ⟨w.heap.size + 1, 2, none⟩) (u := .slice R6 nr6 cr6) (by simp)).far (p := ⟨w.heap.size + 1, 3, none⟩) (u := .slice S6 ns6 cs6) (by simp)).far (p := ⟨w.heap.size + 1, 4, none⟩) (u := .int .u64 (q.on : Nat)) (by simp))
          have hbZ : bT ≠ w.heap.size + 1 := HBZ.out
          have hbN : w3.heap.size ≠ w.heap.size + 1 := by have := SZ3.out; omega
          refine hK.out _ _ (by (exact ⟨⟨X7.c0, X7.c1, X7.c2, X7.c3, X7.c4⟩, far5 hbN n16, far5 hbZ cg6⟩)) (fun hHeld => ?_)
          clear hK K y0 y1 y2 y3 y4 g0 g1 g2 g3 g4
          try dsimp only
          refine wpAnyH_takesJ (i := 12) (v := (.int .i64 gg)) (some 7) rfl rfl (by kernel_rfl) (by kernel_rfl) (by kernel_rfl) (fun _ _ _ h => h) (Or.inl ⟨by rfl, (by intro W9 hSw; (try dsimp only at hSw); go_simp; first | done | with_reducible rfl)⟩) (by assumption) ?_
          simp only [Act.put, List.setIfInBounds_toArray]; try simp only [List.set_cons_zero, List.set_cons_succ]
          refine wpAnyH_takesJ (i := 13) (v := (.int .i64 2)) (some 8) rfl rfl (by kernel_rfl) (by kernel_rfl) (by kernel_rfl) (fun _ _ _ h => h) (Or.inl ⟨by rfl, (by intro W9 hSw; (try dsimp only at hSw); go_simp; first | done | with_reducible rfl)⟩) (by assumption) ?_
          simp only [Act.put, List.setIfInBounds_toArray]; try simp only [List.set_cons_zero, List.set_cons_succ]
          refine wpAnyH_done (by kernel_rfl) ?_ _
          obtain ⟨k0, k1, k2, k3, k4⟩ := put5_told Z6.out (.slice T6 nt6 ct6) (.int .i64 q.size) (.slice R6 nr6 cr6) (.slice S6 ns6 cs6) (.int .u64 (q.on : Nat))
          have B7 := below_put (b := w.heap.size + 1) B6.out (by omega) (.slice T6 nt6 ct6) (.int .i64 q.size) (.slice R6 nr6 cr6) (.slice S6 ns6 cs6) (.int .u64 (q.on : Nat))
          have hX : ¬ More F w5 (w.heap.size + 1) := fun h => by
            rcases h with h | h
            · have := HFW.out _ h; omega
            · have := SZ5.out; omega
          have M7 := (M6.out.put hX (.slice T6 nt6 ct6) (.int .i64 q.size) (.slice R6 nr6 cr6) (.slice S6 ns6 cs6) (.int .u64 (q.on : Nat))).mono (G := More F w) (fun b h => by
            rcases h with h | h
            · exact .inl h
            · exact .inr (by have := SZ5.out; omega))
          have HF := Lib.hid (TellJG.is (F := F) (HP.out) M7 B7)
          unfold put5 at k0 k1 k2 k3 k4
          clear M7 B7 hX
          go_wp2_with fail
          refine bodyPost_ret ?_ rfl HF.out
          simp [results, Tryd.results12, go_sem, k0, k1, k2, k3, k4, jv]
        · skip
          refine wp_region_held_drew (S := fun w' => (w'.cell? ⟨w.heap.size, 0, none⟩ = some (.slice A0 nt ct) ∧ w'.cell? ⟨w.heap.size, 1, none⟩ = some (.int .i64 r.size) ∧ w'.cell? ⟨w.heap.size, 2, none⟩ = some (.slice (some ⟨bR, oR, none⟩) nr cr) ∧ w'.cell? ⟨w.heap.size, 3, none⟩ = some (.slice (some ⟨bS, oS, none⟩) ns cs) ∧ w'.cell? ⟨w.heap.size, 4, none⟩ = some (.int .u64 (r.on : Nat))) ∧ w'.cell? ⟨w3.heap.size, 1, none⟩ = some (.slice (some ⟨bT, oT, none⟩) na ca) ∧ w'.cell? ⟨bT, oT, none⟩ = some (.int .i64 gg)) (by kernel_rfl) ⟨⟨X4.out.c0, X4.out.c1, X4.out.c2, X4.out.c3, X4.out.c4⟩, n1, cg⟩ (fun hHeld => ?_)
          have hbd : Below w4.heap.size w4 w4.drew := (Below.refl _ _).drew
          obtain ⟨w5, hw5⟩ : ∃ w5, w5 = w4.drew := ⟨_, rfl⟩
          rw [← hw5] at hbd hHeld ⊢
          clear hw5
          have X5 := Lib.hid (X4.out.step hbd)
          have Z5 := Lib.hid (Z4.out.step hbd)
          have B5h := Lib.hid (held_trans B4.out hbd)
          have SZ5 := Lib.hid (Nat.lt_of_lt_of_le SZ4.out hbd.size)
          have HRS := Lib.hid (HRT4.out.below hbd)
          have cg5 := keepcell hbd cg
          have n15 := keepcell hbd n1
          clear hbd cg n0 n1
          refine wpAnyH_takesJ (i := 0) (v := (.agg #[.slice A0 nt ct, .int .i64 r.size, .slice (some ⟨bR, oR, none⟩) nr cr, .slice (some ⟨bS, oS, none⟩) ns cs, .int .u64 (r.on : Nat)])) (some 78) rfl rfl (by kernel_rfl) (by kernel_rfl) (by kernel_rfl) (fun _ _ _ h => h) (Or.inl ⟨by rfl, (by intro W9 hSw; (try dsimp only at hSw); go_simp; first | done | with_reducible rfl)⟩) (by assumption) ?_
          simp only [Act.put, List.setIfInBounds_toArray]; try simp only [List.set_cons_zero, List.set_cons_succ]
          refine wpAnyH_takesJ (i := 1) (v := (.int .i64 (k : Nat))) (some 79) rfl rfl (by kernel_rfl) (by kernel_rfl) (by kernel_rfl) (fun _ _ _ h => h) (Or.inl ⟨by rfl, (by intro W9 hSw; (try dsimp only at hSw); go_simp; first | done | with_reducible rfl)⟩) (by assumption) ?_
          simp only [Act.put, List.setIfInBounds_toArray]; try simp only [List.set_cons_zero, List.set_cons_succ]
          refine wpAnyH_takesJ (i := 2) (v := (.pointer (some ⟨w3.heap.size, 1, none⟩))) (some 80) rfl rfl (by kernel_rfl) (by kernel_rfl) (by kernel_rfl) (fun _ _ _ h => h) (Or.inl ⟨by rfl, (by intro W9 hSw; (try dsimp only at hSw); go_simp; first | done | with_reducible rfl)⟩) (by assumption) ?_
          simp only [Act.put, List.setIfInBounds_toArray]; try simp only [List.set_cons_zero, List.set_cons_succ]
          refine wpAnyH_takesJ (i := 3) (v := (.slice (some ⟨bT, oT, none⟩) na ca)) (some 81) rfl rfl (by kernel_rfl) (by kernel_rfl) (by kernel_rfl) (fun _ _ _ h => h) (Or.inl ⟨by rfl, (by intro W9 hSw; (try dsimp only at hSw); go_simp; first | done | with_reducible rfl)⟩) (by assumption) ?_
          simp only [Act.put, List.setIfInBounds_toArray]; try simp only [List.set_cons_zero, List.set_cons_succ]
          refine wpAnyH_takesJ (i := 4) (v := (.slice (some ⟨bT, (oT + 1), none⟩) (na - 1) (ca - 1))) (some 82) rfl rfl (by kernel_rfl) (by kernel_rfl) (by kernel_rfl) (fun _ _ _ h => h) (Or.inl ⟨by rfl, (by intro W9 hSw; (try dsimp only at hSw); go_simp; first | done | with_reducible rfl)⟩) (by assumption) ?_
          simp only [Act.put, List.setIfInBounds_toArray]; try simp only [List.set_cons_zero, List.set_cons_succ]
          refine wpAnyH_takesJ (i := 5) (v := (.agg #[.int .i64 0, .slice (some ⟨bT, (oT + 1), none⟩) (na - 1) (ca - 1)])) (some 83) rfl rfl (by kernel_rfl) (by kernel_rfl) (by kernel_rfl) (fun _ _ _ h => h) (Or.inl ⟨by rfl, (by intro W9 hSw; (try dsimp only at hSw); go_simp; first | done | with_reducible rfl)⟩) (by assumption) ?_
          simp only [Act.put, List.setIfInBounds_toArray]; try simp only [List.set_cons_zero, List.set_cons_succ]
          refine wpAnyH_takesJ (i := 7) (v := (.pointer (some ⟨w3.heap.size, 1, none⟩))) (some 85) rfl rfl (by kernel_rfl) (by kernel_rfl) (by kernel_rfl) (fun _ _ _ h => h) (Or.inl ⟨by rfl, (by intro W9 hSw; (try dsimp only at hSw); go_simp; first | done | with_reducible rfl)⟩) (by assumption) ?_
          simp only [Act.put, List.setIfInBounds_toArray]; try simp only [List.set_cons_zero, List.set_cons_succ]
          refine wpAnyH_takesJ (i := 8) (v := (.slice (some ⟨bT, oT, none⟩) na ca)) (some 86) rfl rfl (by kernel_rfl) (by kernel_rfl) (by kernel_rfl) (fun _ _ _ h => h) (Or.inl ⟨by rfl, (by intro W9 hSw; (try dsimp only at hSw); go_simp; first | done | with_reducible rfl)⟩) (by assumption) ?_
          simp only [Act.put, List.setIfInBounds_toArray]; try simp only [List.set_cons_zero, List.set_cons_succ]
          refine wpAnyH_takesJ (i := 9) (v := (.pointer (some ⟨bT, oT, none⟩))) (some 87) rfl rfl (by kernel_rfl) (by kernel_rfl) (by kernel_rfl) (fun _ _ _ h => h) (Or.inl ⟨by rfl, (by intro W9 hSw; (try dsimp only at hSw); go_simp; first | done | with_reducible rfl)⟩) (by assumption) ?_
          simp only [Act.put, List.setIfInBounds_toArray]; try simp only [List.set_cons_zero, List.set_cons_succ]
          refine wpAnyH_takesJ (i := 10) (v := (.int .i64 gg)) (some 88) rfl rfl (by kernel_rfl) (by kernel_rfl) (by kernel_rfl) (fun _ _ _ h => h) (Or.inl ⟨by rfl, (by intro W9 hSw; (try dsimp only at hSw); go_simp; first | done | with_reducible rfl)⟩) (by assumption) ?_
          simp only [Act.put, List.setIfInBounds_toArray]; try simp only [List.set_cons_zero, List.set_cons_succ]
          refine wpAnyH_ready (rs := [6]) (by kernel_rfl) (by simp) ?_
          refine AllReadyH.cons rfl (fun K hK => ?_) AllReadyH.nil
          go_simp
          go_at_call 35
          have hsl := HRS.out.slice 1 (by omega)
          rw [(if_neg hc1), List.drop_one, List.tail_cons] at hsl
          have hrw := jringed_any ⟨A0, nt, ct, some ⟨bR, oR, none⟩, nr, cr, some ⟨bS, oS, none⟩, ns, cs⟩ r k 0 t' (some ⟨bT, (oT + 1), none⟩) (na - 1) (ca - 1) w5 (H.out.below B5h.out) (by simp only; omega) (by simp only; omega) hsl (fun _ ad e => by injection e with e; subst e; exact HFT.out (by simp) ⟨bT, oT, none⟩ rfl)
          obtain ⟨q, hq⟩ : ∃ q, q = Jp.ringed r k (0, t') := ⟨_, rfl⟩
          rw [← hq] at hrw
          have HP := Lib.hid (show Jp.loc r k tick = (q, gg, 2) by rw [HP0.out, hq])
          clear hq hsl HRS
          refine hrw.mono ?_
          rintro e w6 ⟨⟨T6, nt6, ct6, R6, nr6, cr6, S6, ns6, cs6⟩, rfl, hm6, hb6⟩
          have cg6 := keepcell hb6 cg5
          have n16 := keepcell hb6 n15
          have X6 := Lib.hid (X5.out.step hb6)
          have Z6 := Lib.hid (Z5.out.step hb6)
          have B6 := Lib.hid (held_trans B5h.out hb6)
          have M6 := Lib.hid hm6
          unfold jv
          simp only
          refine hK.out _ _ (by (exact ⟨⟨X6.out.c0, X6.out.c1, X6.out.c2, X6.out.c3, X6.out.c4⟩, n16, cg6⟩)) (fun hHeld => ?_)
          clear hK K hm6
          try dsimp only
          have y0 := Z6.out.b5.c0
          have y1 := Z6.out.b5.c1
          have y2 := Z6.out.b5.c2
          have y3 := Z6.out.b5.c3
          have y4 := Z6.out.b5.c4
          have g0 := Z6.out.f0
          have g1 := Z6.out.f1
          have g2 := Z6.out.f2
          have g3 := Z6.out.f3
          have g4 := Z6.out.f4
          clear hb6 hrw
          refine wpAnyH_ready (rs := [11]) (by kernel_rfl) (by simp) ?_
          refine AllReadyH.cons rfl (fun K hK => ?_) AllReadyH.nil
          go_simp
          have X7 := (((((X6.out.far (p := ⟨w.heap.size + 1, 0, none⟩) (u := .slice T6 nt6 ct6) (by simp)).far (p := ⟨w.heap.size + 1, 1, none⟩) (u := .int .i64 q.size) (by simp)).far (p := ⟨w.heap.size + 1, 2, none⟩) (u := .slice R6 nr6 cr6) (by simp)).far (p := ⟨w.heap.size + 1, 3, none⟩) (u := .slice S6 ns6 cs6) (by simp)).far (p := ⟨w.heap.size + 1, 4, none⟩) (u := .int .u64 (q.on : Nat)) (by simp))
          have hbZ : bT ≠ w.heap.size + 1 := HBZ.out
          have hbN : w3.heap.size ≠ w.heap.size + 1 := by have := SZ3.out; omega
          refine hK.out _ _ (by (exact ⟨⟨X7.c0, X7.c1, X7.c2, X7.c3, X7.c4⟩, far5 hbN n16, far5 hbZ cg6⟩)) (fun hHeld => ?_)
          clear hK K y0 y1 y2 y3 y4 g0 g1 g2 g3 g4
          try dsimp only
          refine wpAnyH_takesJ (i := 12) (v := (.int .i64 gg)) (some 7) rfl rfl (by kernel_rfl) (by kernel_rfl) (by kernel_rfl) (fun _ _ _ h => h) (Or.inl ⟨by rfl, (by intro W9 hSw; (try dsimp only at hSw); go_simp; first | done | with_reducible rfl)⟩) (by assumption) ?_
          simp only [Act.put, List.setIfInBounds_toArray]; try simp only [List.set_cons_zero, List.set_cons_succ]
          refine wpAnyH_takesJ (i := 13) (v := (.int .i64 2)) (some 8) rfl rfl (by kernel_rfl) (by kernel_rfl) (by kernel_rfl) (fun _ _ _ h => h) (Or.inl ⟨by rfl, (by intro W9 hSw; (try dsimp only at hSw); go_simp; first | done | with_reducible rfl)⟩) (by assumption) ?_
          simp only [Act.put, List.setIfInBounds_toArray]; try simp only [List.set_cons_zero, List.set_cons_succ]
          refine wpAnyH_done (by kernel_rfl) ?_ _
          obtain ⟨k0, k1, k2, k3, k4⟩ := put5_told Z6.out (.slice T6 nt6 ct6) (.int .i64 q.size) (.slice R6 nr6 cr6) (.slice S6 ns6 cs6) (.int .u64 (q.on : Nat))
          have B7 := below_put (b := w.heap.size + 1) B6.out (by omega) (.slice T6 nt6 ct6) (.int .i64 q.size) (.slice R6 nr6 cr6) (.slice S6 ns6 cs6) (.int .u64 (q.on : Nat))
          have hX : ¬ More F w5 (w.heap.size + 1) := fun h => by
            rcases h with h | h
            · have := HFW.out _ h; omega
            · have := SZ5.out; omega
          have M7 := (M6.out.put hX (.slice T6 nt6 ct6) (.int .i64 q.size) (.slice R6 nr6 cr6) (.slice S6 ns6 cs6) (.int .u64 (q.on : Nat))).mono (G := More F w) (fun b h => by
            rcases h with h | h
            · exact .inl h
            · exact .inr (by have := SZ5.out; omega))
          have HF := Lib.hid (TellJG.is (F := F) (HP.out) M7 B7)
          unfold put5 at k0 k1 k2 k3 k4
          clear M7 B7 hX
          go_wp2_with fail
          refine bodyPost_ret ?_ rfl HF.out
          simp [results, Tryd.results12, go_sem, k0, k1, k2, k3, k4, jv]
    · have x0 : (x != 0) = true := by rw [bne_iff_ne]; exact t2
      have x1 : (x == 0) = false := by rw [beq_eq_false_iff_ne]; exact t2
      have HX0 := Lib.hid t2
      have HP0 := Lib.hid (show Jp.loc r k tick = (Jp.ringed r k (0, t), x, 1) by rw [HLO.out]; exact Jp.locOn_next HNN.out HXM.out HXT.out HWN.out HX0.out)
      go_wp2_with fail
      refine wp_region_held_drew (S := fun w' => (w'.cell? ⟨w.heap.size, 0, none⟩ = some (.slice A0 nt ct) ∧ w'.cell? ⟨w.heap.size, 1, none⟩ = some (.int .i64 r.size) ∧ w'.cell? ⟨w.heap.size, 2, none⟩ = some (.slice (some ⟨bR, oR, none⟩) nr cr) ∧ w'.cell? ⟨w.heap.size, 3, none⟩ = some (.slice (some ⟨bS, oS, none⟩) ns cs) ∧ w'.cell? ⟨w.heap.size, 4, none⟩ = some (.int .u64 (r.on : Nat))) ∧ w'.cell? ⟨w3.heap.size, 0, none⟩ = some (.int .i64 x) ∧ w'.cell? ⟨w3.heap.size, 1, none⟩ = some (.slice AT na ca)) (by kernel_rfl) ⟨⟨X4.out.c0, X4.out.c1, X4.out.c2, X4.out.c3, X4.out.c4⟩, n0, n1⟩ (fun hHeld => ?_)
      have hbd : Below w4.heap.size w4 w4.drew := (Below.refl _ _).drew
      obtain ⟨w5, hw5⟩ : ∃ w5, w5 = w4.drew := ⟨_, rfl⟩
      rw [← hw5] at hbd hHeld ⊢
      clear hw5
      have X5 := Lib.hid (X4.out.step hbd)
      have Z5 := Lib.hid (Z4.out.step hbd)
      have B5h := Lib.hid (held_trans B4.out hbd)
      have SZ5 := Lib.hid (Nat.lt_of_lt_of_le SZ4.out hbd.size)
      have HRS := Lib.hid (HRT4.out.below hbd)
      have n05 := keepcell hbd n0
      have n15 := keepcell hbd n1
      clear hbd n0 n1
      refine wpAnyH_takesJ (i := 0) (v := (.agg #[.slice A0 nt ct, .int .i64 r.size, .slice (some ⟨bR, oR, none⟩) nr cr, .slice (some ⟨bS, oS, none⟩) ns cs, .int .u64 (r.on : Nat)])) (some 66) rfl rfl (by kernel_rfl) (by kernel_rfl) (by kernel_rfl) (fun _ _ _ h => h) (Or.inl ⟨by rfl, (by intro W9 hSw; (try dsimp only at hSw); go_simp; first | done | with_reducible rfl)⟩) (by assumption) ?_
      simp only [Act.put, List.setIfInBounds_toArray]; try simp only [List.set_cons_zero, List.set_cons_succ]
      refine wpAnyH_takesJ (i := 1) (v := (.int .i64 (k : Nat))) (some 67) rfl rfl (by kernel_rfl) (by kernel_rfl) (by kernel_rfl) (fun _ _ _ h => h) (Or.inl ⟨by rfl, (by intro W9 hSw; (try dsimp only at hSw); go_simp; first | done | with_reducible rfl)⟩) (by assumption) ?_
      simp only [Act.put, List.setIfInBounds_toArray]; try simp only [List.set_cons_zero, List.set_cons_succ]
      refine wpAnyH_takesJ (i := 2) (v := (.pointer (some ⟨w3.heap.size, 1, none⟩))) (some 68) rfl rfl (by kernel_rfl) (by kernel_rfl) (by kernel_rfl) (fun _ _ _ h => h) (Or.inl ⟨by rfl, (by intro W9 hSw; (try dsimp only at hSw); go_simp; first | done | with_reducible rfl)⟩) (by assumption) ?_
      simp only [Act.put, List.setIfInBounds_toArray]; try simp only [List.set_cons_zero, List.set_cons_succ]
      refine wpAnyH_takesJ (i := 3) (v := (.slice AT na ca)) (some 69) rfl rfl (by kernel_rfl) (by kernel_rfl) (by kernel_rfl) (fun _ _ _ h => h) (Or.inl ⟨by rfl, (by intro W9 hSw; (try dsimp only at hSw); go_simp; first | done | with_reducible rfl)⟩) (by assumption) ?_
      simp only [Act.put, List.setIfInBounds_toArray]; try simp only [List.set_cons_zero, List.set_cons_succ]
      refine wpAnyH_takesJ (i := 4) (v := (.agg #[.int .i64 0, .slice AT na ca])) (some 70) rfl rfl (by kernel_rfl) (by kernel_rfl) (by kernel_rfl) (fun _ _ _ h => h) (Or.inl ⟨by rfl, (by intro W9 hSw; (try dsimp only at hSw); go_simp; first | done | with_reducible rfl)⟩) (by assumption) ?_
      simp only [Act.put, List.setIfInBounds_toArray]; try simp only [List.set_cons_zero, List.set_cons_succ]
      refine wpAnyH_takesJ (i := 6) (v := (.pointer (some ⟨w3.heap.size, 0, none⟩))) (some 72) rfl rfl (by kernel_rfl) (by kernel_rfl) (by kernel_rfl) (fun _ _ _ h => h) (Or.inl ⟨by rfl, (by intro W9 hSw; (try dsimp only at hSw); go_simp; first | done | with_reducible rfl)⟩) (by assumption) ?_
      simp only [Act.put, List.setIfInBounds_toArray]; try simp only [List.set_cons_zero, List.set_cons_succ]
      refine wpAnyH_takesJ (i := 7) (v := (.int .i64 x)) (some 73) rfl rfl (by kernel_rfl) (by kernel_rfl) (by kernel_rfl) (fun _ _ _ h => h) (Or.inl ⟨by rfl, (by intro W9 hSw; (try dsimp only at hSw); go_simp; first | done | with_reducible rfl)⟩) (by assumption) ?_
      simp only [Act.put, List.setIfInBounds_toArray]; try simp only [List.set_cons_zero, List.set_cons_succ]
      refine wpAnyH_ready (rs := [5]) (by kernel_rfl) (by simp) ?_
      refine AllReadyH.cons rfl (fun K hK => ?_) AllReadyH.nil
      go_simp
      go_at_call 35
      have hrw := jringed_any ⟨A0, nt, ct, some ⟨bR, oR, none⟩, nr, cr, some ⟨bS, oS, none⟩, ns, cs⟩ r k 0 t AT na ca w5 (H.out.below B5h.out) (by simp only; omega) (by simp only; omega) HRS.out HFT.out
      obtain ⟨q, hq⟩ : ∃ q, q = Jp.ringed r k (0, t) := ⟨_, rfl⟩
      rw [← hq] at hrw
      have HP := Lib.hid (show Jp.loc r k tick = (q, x, 1) by rw [HP0.out, hq])
      clear hq HRS
      refine hrw.mono ?_
      rintro e w6 ⟨⟨T6, nt6, ct6, R6, nr6, cr6, S6, ns6, cs6⟩, rfl, hm6, hb6⟩
      have n06 := keepcell hb6 n05
      have n16 := keepcell hb6 n15
      have X6 := Lib.hid (X5.out.step hb6)
      have Z6 := Lib.hid (Z5.out.step hb6)
      have B6 := Lib.hid (held_trans B5h.out hb6)
      have M6 := Lib.hid hm6
      unfold jv
      simp only
      refine hK.out _ _ (by (exact ⟨⟨X6.out.c0, X6.out.c1, X6.out.c2, X6.out.c3, X6.out.c4⟩, n06, n16⟩)) (fun hHeld => ?_)
      clear hK K hm6
      try dsimp only
      have y0 := Z6.out.b5.c0
      have y1 := Z6.out.b5.c1
      have y2 := Z6.out.b5.c2
      have y3 := Z6.out.b5.c3
      have y4 := Z6.out.b5.c4
      have g0 := Z6.out.f0
      have g1 := Z6.out.f1
      have g2 := Z6.out.f2
      have g3 := Z6.out.f3
      have g4 := Z6.out.f4
      clear hb6 hrw
      refine wpAnyH_ready (rs := [8]) (by kernel_rfl) (by simp) ?_
      refine AllReadyH.cons rfl (fun K hK => ?_) AllReadyH.nil
      go_simp
      have X7 := (((((X6.out.far (p := ⟨w.heap.size + 1, 0, none⟩) (u := .slice T6 nt6 ct6) (by simp)).far (p := ⟨w.heap.size + 1, 1, none⟩) (u := .int .i64 q.size) (by simp)).far (p := ⟨w.heap.size + 1, 2, none⟩) (u := .slice R6 nr6 cr6) (by simp)).far (p := ⟨w.heap.size + 1, 3, none⟩) (u := .slice S6 ns6 cs6) (by simp)).far (p := ⟨w.heap.size + 1, 4, none⟩) (u := .int .u64 (q.on : Nat)) (by simp))
      have hbN : w3.heap.size ≠ w.heap.size + 1 := by have := SZ3.out; omega
      refine hK.out _ _ (by (exact ⟨⟨X7.c0, X7.c1, X7.c2, X7.c3, X7.c4⟩, far5 hbN n06, far5 hbN n16⟩)) (fun hHeld => ?_)
      clear hK K y0 y1 y2 y3 y4 g0 g1 g2 g3 g4
      try dsimp only
      refine wpAnyH_takesJ (i := 9) (v := (.int .i64 x)) (some 7) rfl rfl (by kernel_rfl) (by kernel_rfl) (by kernel_rfl) (fun _ _ _ h => h) (Or.inl ⟨by rfl, (by intro W9 hSw; (try dsimp only at hSw); go_simp; first | done | with_reducible rfl)⟩) (by assumption) ?_
      simp only [Act.put, List.setIfInBounds_toArray]; try simp only [List.set_cons_zero, List.set_cons_succ]
      refine wpAnyH_takesJ (i := 10) (v := (.int .i64 1)) (some 8) rfl rfl (by kernel_rfl) (by kernel_rfl) (by kernel_rfl) (fun _ _ _ h => h) (Or.inl ⟨by rfl, (by intro W9 hSw; (try dsimp only at hSw); go_simp; first | done | with_reducible rfl)⟩) (by assumption) ?_
      simp only [Act.put, List.setIfInBounds_toArray]; try simp only [List.set_cons_zero, List.set_cons_succ]
      refine wpAnyH_done (by kernel_rfl) ?_ _
      obtain ⟨k0, k1, k2, k3, k4⟩ := put5_told Z6.out (.slice T6 nt6 ct6) (.int .i64 q.size) (.slice R6 nr6 cr6) (.slice S6 ns6 cs6) (.int .u64 (q.on : Nat))
      have B7 := below_put (b := w.heap.size + 1) B6.out (by omega) (.slice T6 nt6 ct6) (.int .i64 q.size) (.slice R6 nr6 cr6) (.slice S6 ns6 cs6) (.int .u64 (q.on : Nat))
      have hX : ¬ More F w5 (w.heap.size + 1) := fun h => by
        rcases h with h | h
        · have := HFW.out _ h; omega
        · have := SZ5.out; omega
      have M7 := (M6.out.put hX (.slice T6 nt6 ct6) (.int .i64 q.size) (.slice R6 nr6 cr6) (.slice S6 ns6 cs6) (.int .u64 (q.on : Nat))).mono (G := More F w) (fun b h => by
        rcases h with h | h
        · exact .inl h
        · exact .inr (by have := SZ5.out; omega))
      have HF := Lib.hid (TellJG.is (F := F) (HP.out) M7 B7)
      unfold put5 at k0 k1 k2 k3 k4
      clear M7 B7 hX
      go_wp2_with fail
      refine bodyPost_ret ?_ rfl HF.out
      simp [results, Tryd.results12, go_sem, k0, k1, k2, k3, k4, jv]
  · have z1 : (0 : Int) < (nl : Int) := by omega
    by_cases tu : tick.tmod 61 = 0
    · have u0 : (tick.tmod 61 == 0) = true := by rw [beq_iff_eq]; exact tu
      have HWY := Lib.hid (show tick.tmod 61 = 0 ∨ (x = 0 ∧ t = []) from .inl tu)
      have l1 : l ≠ [] := fun e => by have h9 : l.length = nl := hll; rw [e] at h9; simp at h9; omega
      obtain ⟨gg, l', hcons⟩ := List.exists_cons_of_ne_nil l1
      obtain ⟨bL, oL, hAL, hbL, hcL⟩ := HRL4.out.cells (by omega)
      have cg := hcL 0 gg (by rw [hcons]; rfl)
      rw [Nat.add_zero] at cg
      have HP0 := Lib.hid (show Jp.loc r k tick = (Jp.rowed r m0 l', gg, 3) by rw [HLO.out, Jp.locOn_row HNN.out HXM.out HXT.out (by rw [hcons]; simp) HWY.out, hcons]; rfl)
      subst hAL hcons
      have HBZ := Lib.hid (show bL ≠ w.heap.size + 1 from fun e => by have := HFW.out _ (HFL.out (by simp) ⟨bL, oL, none⟩ rfl); simp only at this; omega)
      have s1 : (1 : Int) ≤ (nl : Int) := by omega
      have s2 : ¬ ((nl : Int) < 1) := by omega
      have s4 : (0 : Int) < (nl : Int) := by omega
      have hncl := HRL4.out.cap
      have s5 : ¬ cl < 1 := by omega
      have s6 : 1 ≤ nl := by omega
      clear hcL hbL l1
      go_wp2_with fail
      by_cases hc1 : cl = 1
      · obtain rfl : nl = 1 := by omega
        subst hc1
        refine wp_region_held_drew (S := fun w' => (w'.cell? ⟨w.heap.size, 0, none⟩ = some (.slice A0 nt ct) ∧ w'.cell? ⟨w.heap.size, 1, none⟩ = some (.int .i64 r.size) ∧ w'.cell? ⟨w.heap.size, 2, none⟩ = some (.slice (some ⟨bR, oR, none⟩) nr cr) ∧ w'.cell? ⟨w.heap.size, 3, none⟩ = some (.slice (some ⟨bS, oS, none⟩) ns cs) ∧ w'.cell? ⟨w.heap.size, 4, none⟩ = some (.int .u64 (r.on : Nat))) ∧ w'.cell? ⟨bL, oL, none⟩ = some (.int .i64 gg)) (by kernel_rfl) ⟨⟨X4.out.c0, X4.out.c1, X4.out.c2, X4.out.c3, X4.out.c4⟩, cg⟩ (fun hHeld => ?_)
        have hbd : Below w4.heap.size w4 w4.drew := (Below.refl _ _).drew
        obtain ⟨w5, hw5⟩ : ∃ w5, w5 = w4.drew := ⟨_, rfl⟩
        rw [← hw5] at hbd hHeld ⊢
        clear hw5
        have X5 := Lib.hid (X4.out.step hbd)
        have Z5 := Lib.hid (Z4.out.step hbd)
        have B5h := Lib.hid (held_trans B4.out hbd)
        have SZ5 := Lib.hid (Nat.lt_of_lt_of_le SZ4.out hbd.size)
        have HRS := Lib.hid (HRL4.out.below hbd)
        have cg5 := keepcell hbd cg
        clear hbd cg
        refine wpAnyH_takesJ (i := 0) (v := (.agg #[.slice A0 nt ct, .int .i64 r.size, .slice (some ⟨bR, oR, none⟩) nr cr, .slice (some ⟨bS, oS, none⟩) ns cs, .int .u64 (r.on : Nat)])) (some 55) rfl rfl (by kernel_rfl) (by kernel_rfl) (by kernel_rfl) (fun _ _ _ h => h) (Or.inl ⟨by rfl, (by intro W9 hSw; (try dsimp only at hSw); go_simp; first | done | with_reducible rfl)⟩) (by assumption) ?_
        simp only [Act.put, List.setIfInBounds_toArray]; try simp only [List.set_cons_zero, List.set_cons_succ]
        refine wpAnyH_takesJ (i := 1) (v := (.int .i64 (m0 : Nat))) (some 56) rfl rfl (by kernel_rfl) (by kernel_rfl) (by kernel_rfl) (fun _ _ _ h => h) (Or.inl ⟨by rfl, (by intro W9 hSw; (try dsimp only at hSw); go_simp; first | done | with_reducible rfl)⟩) (by assumption) ?_
        simp only [Act.put, List.setIfInBounds_toArray]; try simp only [List.set_cons_zero, List.set_cons_succ]
        refine wpAnyH_takesJ (i := 2) (v := (.slice (some ⟨bL, oL, none⟩) 1 1)) (some 57) rfl rfl (by kernel_rfl) (by kernel_rfl) (by kernel_rfl) (fun _ _ _ h => h) (Or.inl ⟨by rfl, (by intro W9 hSw; (try dsimp only at hSw); go_simp; first | done | with_reducible rfl)⟩) (by assumption) ?_
        simp only [Act.put, List.setIfInBounds_toArray]; try simp only [List.set_cons_zero, List.set_cons_succ]
        refine wpAnyH_takesJ (i := 3) (v := (.slice (some ⟨bL, oL, none⟩) 0 0)) (some 58) rfl rfl (by kernel_rfl) (by kernel_rfl) (by kernel_rfl) (fun _ _ _ h => h) (Or.inl ⟨by rfl, (by intro W9 hSw; (try dsimp only at hSw); go_simp; first | done | with_reducible rfl)⟩) (by assumption) ?_
        simp only [Act.put, List.setIfInBounds_toArray]; try simp only [List.set_cons_zero, List.set_cons_succ]
        refine wpAnyH_takesJ (i := 5) (v := (.slice (some ⟨bL, oL, none⟩) 1 1)) (some 60) rfl rfl (by kernel_rfl) (by kernel_rfl) (by kernel_rfl) (fun _ _ _ h => h) (Or.inl ⟨by rfl, (by intro W9 hSw; (try dsimp only at hSw); go_simp; first | done | with_reducible rfl)⟩) (by assumption) ?_
        simp only [Act.put, List.setIfInBounds_toArray]; try simp only [List.set_cons_zero, List.set_cons_succ]
        refine wpAnyH_takesJ (i := 6) (v := (.pointer (some ⟨bL, oL, none⟩))) (some 61) rfl rfl (by kernel_rfl) (by kernel_rfl) (by kernel_rfl) (fun _ _ _ h => h) (Or.inl ⟨by rfl, (by intro W9 hSw; (try dsimp only at hSw); go_simp; first | done | with_reducible rfl)⟩) (by assumption) ?_
        simp only [Act.put, List.setIfInBounds_toArray]; try simp only [List.set_cons_zero, List.set_cons_succ]
        refine wpAnyH_takesJ (i := 7) (v := (.int .i64 gg)) (some 62) rfl rfl (by kernel_rfl) (by kernel_rfl) (by kernel_rfl) (fun _ _ _ h => h) (Or.inl ⟨by rfl, (by intro W9 hSw; (try dsimp only at hSw); go_simp; first | done | with_reducible rfl)⟩) (by assumption) ?_
        simp only [Act.put, List.setIfInBounds_toArray]; try simp only [List.set_cons_zero, List.set_cons_succ]
        refine wpAnyH_ready (rs := [4]) (by kernel_rfl) (by simp) ?_
        refine AllReadyH.cons rfl (fun K hK => ?_) AllReadyH.nil
        go_simp
        go_at_call 34
        have hsl := HRS.out.slice 1 (by omega)
        rw [(if_pos rfl), List.drop_one, List.tail_cons] at hsl
        have hrw := jrowed_any ⟨A0, nt, ct, some ⟨bR, oR, none⟩, nr, cr, some ⟨bS, oS, none⟩, ns, cs⟩ r m0 l' (some ⟨bL, oL, none⟩) 0 0 w5 (H.out.below B5h.out) hmn (by simp only; omega) hsl (fun _ ad e => by injection e with e; subst e; exact HFL.out (by simp) ⟨bL, oL, none⟩ rfl)
        obtain ⟨q, hq⟩ : ∃ q, q = Jp.rowed r m0 l' := ⟨_, rfl⟩
        rw [← hq] at hrw
        have HP := Lib.hid (show Jp.loc r k tick = (q, gg, 3) by rw [HP0.out, hq])
        clear hq hsl HRS
        refine hrw.mono ?_
        rintro e w6 ⟨⟨T6, nt6, ct6, R6, nr6, cr6, S6, ns6, cs6⟩, rfl, hm6, hb6⟩
        have cg6 := keepcell hb6 cg5
        have X6 := Lib.hid (X5.out.step hb6)
        have Z6 := Lib.hid (Z5.out.step hb6)
        have B6 := Lib.hid (held_trans B5h.out hb6)
        have M6 := Lib.hid hm6
        unfold jv
        simp only
        refine hK.out _ _ (by (exact ⟨⟨X6.out.c0, X6.out.c1, X6.out.c2, X6.out.c3, X6.out.c4⟩, cg6⟩)) (fun hHeld => ?_)
        clear hK K hm6
        try dsimp only
        have y0 := Z6.out.b5.c0
        have y1 := Z6.out.b5.c1
        have y2 := Z6.out.b5.c2
        have y3 := Z6.out.b5.c3
        have y4 := Z6.out.b5.c4
        have g0 := Z6.out.f0
        have g1 := Z6.out.f1
        have g2 := Z6.out.f2
        have g3 := Z6.out.f3
        have g4 := Z6.out.f4
        clear hb6 hrw
        refine wpAnyH_ready (rs := [8]) (by kernel_rfl) (by simp) ?_
        refine AllReadyH.cons rfl (fun K hK => ?_) AllReadyH.nil
        go_simp
        have X7 := (((((X6.out.far (p := ⟨w.heap.size + 1, 0, none⟩) (u := .slice T6 nt6 ct6) (by simp)).far (p := ⟨w.heap.size + 1, 1, none⟩) (u := .int .i64 q.size) (by simp)).far (p := ⟨w.heap.size + 1, 2, none⟩) (u := .slice R6 nr6 cr6) (by simp)).far (p := ⟨w.heap.size + 1, 3, none⟩) (u := .slice S6 ns6 cs6) (by simp)).far (p := ⟨w.heap.size + 1, 4, none⟩) (u := .int .u64 (q.on : Nat)) (by simp))
        have hbZ : bL ≠ w.heap.size + 1 := HBZ.out
        refine hK.out _ _ (by (exact ⟨⟨X7.c0, X7.c1, X7.c2, X7.c3, X7.c4⟩, far5 hbZ cg6⟩)) (fun hHeld => ?_)
        clear hK K y0 y1 y2 y3 y4 g0 g1 g2 g3 g4
        try dsimp only
        refine wpAnyH_takesJ (i := 9) (v := (.int .i64 gg)) (some 7) rfl rfl (by kernel_rfl) (by kernel_rfl) (by kernel_rfl) (fun _ _ _ h => h) (Or.inl ⟨by rfl, (by intro W9 hSw; (try dsimp only at hSw); go_simp; first | done | with_reducible rfl)⟩) (by assumption) ?_
        simp only [Act.put, List.setIfInBounds_toArray]; try simp only [List.set_cons_zero, List.set_cons_succ]
        refine wpAnyH_takesJ (i := 10) (v := (.int .i64 3)) (some 8) rfl rfl (by kernel_rfl) (by kernel_rfl) (by kernel_rfl) (fun _ _ _ h => h) (Or.inl ⟨by rfl, (by intro W9 hSw; (try dsimp only at hSw); go_simp; first | done | with_reducible rfl)⟩) (by assumption) ?_
        simp only [Act.put, List.setIfInBounds_toArray]; try simp only [List.set_cons_zero, List.set_cons_succ]
        refine wpAnyH_done (by kernel_rfl) ?_ _
        obtain ⟨k0, k1, k2, k3, k4⟩ := put5_told Z6.out (.slice T6 nt6 ct6) (.int .i64 q.size) (.slice R6 nr6 cr6) (.slice S6 ns6 cs6) (.int .u64 (q.on : Nat))
        have B7 := below_put (b := w.heap.size + 1) B6.out (by omega) (.slice T6 nt6 ct6) (.int .i64 q.size) (.slice R6 nr6 cr6) (.slice S6 ns6 cs6) (.int .u64 (q.on : Nat))
        have hX : ¬ More F w5 (w.heap.size + 1) := fun h => by
          rcases h with h | h
          · have := HFW.out _ h; omega
          · have := SZ5.out; omega
        have M7 := (M6.out.put hX (.slice T6 nt6 ct6) (.int .i64 q.size) (.slice R6 nr6 cr6) (.slice S6 ns6 cs6) (.int .u64 (q.on : Nat))).mono (G := More F w) (fun b h => by
          rcases h with h | h
          · exact .inl h
          · exact .inr (by have := SZ5.out; omega))
        have HF := Lib.hid (TellJG.is (F := F) (HP.out) M7 B7)
        unfold put5 at k0 k1 k2 k3 k4
        clear M7 B7 hX
        go_wp2_with fail
        refine bodyPost_ret ?_ rfl HF.out
        simp [results, Tryd.results12, go_sem, k0, k1, k2, k3, k4, jv]
      · skip
        refine wp_region_held_drew (S := fun w' => (w'.cell? ⟨w.heap.size, 0, none⟩ = some (.slice A0 nt ct) ∧ w'.cell? ⟨w.heap.size, 1, none⟩ = some (.int .i64 r.size) ∧ w'.cell? ⟨w.heap.size, 2, none⟩ = some (.slice (some ⟨bR, oR, none⟩) nr cr) ∧ w'.cell? ⟨w.heap.size, 3, none⟩ = some (.slice (some ⟨bS, oS, none⟩) ns cs) ∧ w'.cell? ⟨w.heap.size, 4, none⟩ = some (.int .u64 (r.on : Nat))) ∧ w'.cell? ⟨bL, oL, none⟩ = some (.int .i64 gg)) (by kernel_rfl) ⟨⟨X4.out.c0, X4.out.c1, X4.out.c2, X4.out.c3, X4.out.c4⟩, cg⟩ (fun hHeld => ?_)
        have hbd : Below w4.heap.size w4 w4.drew := (Below.refl _ _).drew
        obtain ⟨w5, hw5⟩ : ∃ w5, w5 = w4.drew := ⟨_, rfl⟩
        rw [← hw5] at hbd hHeld ⊢
        clear hw5
        have X5 := Lib.hid (X4.out.step hbd)
        have Z5 := Lib.hid (Z4.out.step hbd)
        have B5h := Lib.hid (held_trans B4.out hbd)
        have SZ5 := Lib.hid (Nat.lt_of_lt_of_le SZ4.out hbd.size)
        have HRS := Lib.hid (HRL4.out.below hbd)
        have cg5 := keepcell hbd cg
        clear hbd cg
        refine wpAnyH_takesJ (i := 0) (v := (.agg #[.slice A0 nt ct, .int .i64 r.size, .slice (some ⟨bR, oR, none⟩) nr cr, .slice (some ⟨bS, oS, none⟩) ns cs, .int .u64 (r.on : Nat)])) (some 55) rfl rfl (by kernel_rfl) (by kernel_rfl) (by kernel_rfl) (fun _ _ _ h => h) (Or.inl ⟨by rfl, (by intro W9 hSw; (try dsimp only at hSw); go_simp; first | done | with_reducible rfl)⟩) (by assumption) ?_
        simp only [Act.put, List.setIfInBounds_toArray]; try simp only [List.set_cons_zero, List.set_cons_succ]
        refine wpAnyH_takesJ (i := 1) (v := (.int .i64 (m0 : Nat))) (some 56) rfl rfl (by kernel_rfl) (by kernel_rfl) (by kernel_rfl) (fun _ _ _ h => h) (Or.inl ⟨by rfl, (by intro W9 hSw; (try dsimp only at hSw); go_simp; first | done | with_reducible rfl)⟩) (by assumption) ?_
        simp only [Act.put, List.setIfInBounds_toArray]; try simp only [List.set_cons_zero, List.set_cons_succ]
        refine wpAnyH_takesJ (i := 2) (v := (.slice (some ⟨bL, oL, none⟩) nl cl)) (some 57) rfl rfl (by kernel_rfl) (by kernel_rfl) (by kernel_rfl) (fun _ _ _ h => h) (Or.inl ⟨by rfl, (by intro W9 hSw; (try dsimp only at hSw); go_simp; first | done | with_reducible rfl)⟩) (by assumption) ?_
        simp only [Act.put, List.setIfInBounds_toArray]; try simp only [List.set_cons_zero, List.set_cons_succ]
        refine wpAnyH_takesJ (i := 3) (v := (.slice (some ⟨bL, (oL + 1), none⟩) (nl - 1) (cl - 1))) (some 58) rfl rfl (by kernel_rfl) (by kernel_rfl) (by kernel_rfl) (fun _ _ _ h => h) (Or.inl ⟨by rfl, (by intro W9 hSw; (try dsimp only at hSw); go_simp; first | done | with_reducible rfl)⟩) (by assumption) ?_
        simp only [Act.put, List.setIfInBounds_toArray]; try simp only [List.set_cons_zero, List.set_cons_succ]
        refine wpAnyH_takesJ (i := 5) (v := (.slice (some ⟨bL, oL, none⟩) nl cl)) (some 60) rfl rfl (by kernel_rfl) (by kernel_rfl) (by kernel_rfl) (fun _ _ _ h => h) (Or.inl ⟨by rfl, (by intro W9 hSw; (try dsimp only at hSw); go_simp; first | done | with_reducible rfl)⟩) (by assumption) ?_
        simp only [Act.put, List.setIfInBounds_toArray]; try simp only [List.set_cons_zero, List.set_cons_succ]
        refine wpAnyH_takesJ (i := 6) (v := (.pointer (some ⟨bL, oL, none⟩))) (some 61) rfl rfl (by kernel_rfl) (by kernel_rfl) (by kernel_rfl) (fun _ _ _ h => h) (Or.inl ⟨by rfl, (by intro W9 hSw; (try dsimp only at hSw); go_simp; first | done | with_reducible rfl)⟩) (by assumption) ?_
        simp only [Act.put, List.setIfInBounds_toArray]; try simp only [List.set_cons_zero, List.set_cons_succ]
        refine wpAnyH_takesJ (i := 7) (v := (.int .i64 gg)) (some 62) rfl rfl (by kernel_rfl) (by kernel_rfl) (by kernel_rfl) (fun _ _ _ h => h) (Or.inl ⟨by rfl, (by intro W9 hSw; (try dsimp only at hSw); go_simp; first | done | with_reducible rfl)⟩) (by assumption) ?_
        simp only [Act.put, List.setIfInBounds_toArray]; try simp only [List.set_cons_zero, List.set_cons_succ]
        refine wpAnyH_ready (rs := [4]) (by kernel_rfl) (by simp) ?_
        refine AllReadyH.cons rfl (fun K hK => ?_) AllReadyH.nil
        go_simp
        go_at_call 34
        have hsl := HRS.out.slice 1 (by omega)
        rw [(if_neg hc1), List.drop_one, List.tail_cons] at hsl
        have hrw := jrowed_any ⟨A0, nt, ct, some ⟨bR, oR, none⟩, nr, cr, some ⟨bS, oS, none⟩, ns, cs⟩ r m0 l' (some ⟨bL, (oL + 1), none⟩) (nl - 1) (cl - 1) w5 (H.out.below B5h.out) hmn (by simp only; omega) hsl (fun _ ad e => by injection e with e; subst e; exact HFL.out (by simp) ⟨bL, oL, none⟩ rfl)
        obtain ⟨q, hq⟩ : ∃ q, q = Jp.rowed r m0 l' := ⟨_, rfl⟩
        rw [← hq] at hrw
        have HP := Lib.hid (show Jp.loc r k tick = (q, gg, 3) by rw [HP0.out, hq])
        clear hq hsl HRS
        refine hrw.mono ?_
        rintro e w6 ⟨⟨T6, nt6, ct6, R6, nr6, cr6, S6, ns6, cs6⟩, rfl, hm6, hb6⟩
        have cg6 := keepcell hb6 cg5
        have X6 := Lib.hid (X5.out.step hb6)
        have Z6 := Lib.hid (Z5.out.step hb6)
        have B6 := Lib.hid (held_trans B5h.out hb6)
        have M6 := Lib.hid hm6
        unfold jv
        simp only
        refine hK.out _ _ (by (exact ⟨⟨X6.out.c0, X6.out.c1, X6.out.c2, X6.out.c3, X6.out.c4⟩, cg6⟩)) (fun hHeld => ?_)
        clear hK K hm6
        try dsimp only
        have y0 := Z6.out.b5.c0
        have y1 := Z6.out.b5.c1
        have y2 := Z6.out.b5.c2
        have y3 := Z6.out.b5.c3
        have y4 := Z6.out.b5.c4
        have g0 := Z6.out.f0
        have g1 := Z6.out.f1
        have g2 := Z6.out.f2
        have g3 := Z6.out.f3
        have g4 := Z6.out.f4
        clear hb6 hrw
        refine wpAnyH_ready (rs := [8]) (by kernel_rfl) (by simp) ?_
        refine AllReadyH.cons rfl (fun K hK => ?_) AllReadyH.nil
        go_simp
        have X7 := (((((X6.out.far (p := ⟨w.heap.size + 1, 0, none⟩) (u := .slice T6 nt6 ct6) (by simp)).far (p := ⟨w.heap.size + 1, 1, none⟩) (u := .int .i64 q.size) (by simp)).far (p := ⟨w.heap.size + 1, 2, none⟩) (u := .slice R6 nr6 cr6) (by simp)).far (p := ⟨w.heap.size + 1, 3, none⟩) (u := .slice S6 ns6 cs6) (by simp)).far (p := ⟨w.heap.size + 1, 4, none⟩) (u := .int .u64 (q.on : Nat)) (by simp))
        have hbZ : bL ≠ w.heap.size + 1 := HBZ.out
        refine hK.out _ _ (by (exact ⟨⟨X7.c0, X7.c1, X7.c2, X7.c3, X7.c4⟩, far5 hbZ cg6⟩)) (fun hHeld => ?_)
        clear hK K y0 y1 y2 y3 y4 g0 g1 g2 g3 g4
        try dsimp only
        refine wpAnyH_takesJ (i := 9) (v := (.int .i64 gg)) (some 7) rfl rfl (by kernel_rfl) (by kernel_rfl) (by kernel_rfl) (fun _ _ _ h => h) (Or.inl ⟨by rfl, (by intro W9 hSw; (try dsimp only at hSw); go_simp; first | done | with_reducible rfl)⟩) (by assumption) ?_
        simp only [Act.put, List.setIfInBounds_toArray]; try simp only [List.set_cons_zero, List.set_cons_succ]
        refine wpAnyH_takesJ (i := 10) (v := (.int .i64 3)) (some 8) rfl rfl (by kernel_rfl) (by kernel_rfl) (by kernel_rfl) (fun _ _ _ h => h) (Or.inl ⟨by rfl, (by intro W9 hSw; (try dsimp only at hSw); go_simp; first | done | with_reducible rfl)⟩) (by assumption) ?_
        simp only [Act.put, List.setIfInBounds_toArray]; try simp only [List.set_cons_zero, List.set_cons_succ]
        refine wpAnyH_done (by kernel_rfl) ?_ _
        obtain ⟨k0, k1, k2, k3, k4⟩ := put5_told Z6.out (.slice T6 nt6 ct6) (.int .i64 q.size) (.slice R6 nr6 cr6) (.slice S6 ns6 cs6) (.int .u64 (q.on : Nat))
        have B7 := below_put (b := w.heap.size + 1) B6.out (by omega) (.slice T6 nt6 ct6) (.int .i64 q.size) (.slice R6 nr6 cr6) (.slice S6 ns6 cs6) (.int .u64 (q.on : Nat))
        have hX : ¬ More F w5 (w.heap.size + 1) := fun h => by
          rcases h with h | h
          · have := HFW.out _ h; omega
          · have := SZ5.out; omega
        have M7 := (M6.out.put hX (.slice T6 nt6 ct6) (.int .i64 q.size) (.slice R6 nr6 cr6) (.slice S6 ns6 cs6) (.int .u64 (q.on : Nat))).mono (G := More F w) (fun b h => by
          rcases h with h | h
          · exact .inl h
          · exact .inr (by have := SZ5.out; omega))
        have HF := Lib.hid (TellJG.is (F := F) (HP.out) M7 B7)
        unfold put5 at k0 k1 k2 k3 k4
        clear M7 B7 hX
        go_wp2_with fail
        refine bodyPost_ret ?_ rfl HF.out
        simp [results, Tryd.results12, go_sem, k0, k1, k2, k3, k4, jv]
    · have u0 : (tick.tmod 61 == 0) = false := by rw [beq_eq_false_iff_ne]; exact tu
      by_cases tb : x = 0 ∧ na = 0
      · have b0 : (x == 0) = true := by rw [beq_iff_eq]; exact tb.1
        have b1 : ((na : Int) == 0) = true := by rw [beq_iff_eq]; omega
        have HWY := Lib.hid (show tick.tmod 61 = 0 ∨ (x = 0 ∧ t = []) from .inr ⟨tb.1, List.length_eq_zero_iff.1 (by have h9 : t.length = na := htl; omega)⟩)
        obtain ⟨tb1, tb2⟩ := tb
        have l1 : l ≠ [] := fun e => by have h9 : l.length = nl := hll; rw [e] at h9; simp at h9; omega
        obtain ⟨gg, l', hcons⟩ := List.exists_cons_of_ne_nil l1
        obtain ⟨bL, oL, hAL, hbL, hcL⟩ := HRL4.out.cells (by omega)
        have cg := hcL 0 gg (by rw [hcons]; rfl)
        rw [Nat.add_zero] at cg
        have HP0 := Lib.hid (show Jp.loc r k tick = (Jp.rowed r m0 l', gg, 3) by rw [HLO.out, Jp.locOn_row HNN.out HXM.out HXT.out (by rw [hcons]; simp) HWY.out, hcons]; rfl)
        subst hAL hcons
        have HBZ := Lib.hid (show bL ≠ w.heap.size + 1 from fun e => by have := HFW.out _ (HFL.out (by simp) ⟨bL, oL, none⟩ rfl); simp only at this; omega)
        have s1 : (1 : Int) ≤ (nl : Int) := by omega
        have s2 : ¬ ((nl : Int) < 1) := by omega
        have s4 : (0 : Int) < (nl : Int) := by omega
        have hncl := HRL4.out.cap
        have s5 : ¬ cl < 1 := by omega
        have s6 : 1 ≤ nl := by omega
        clear hcL hbL l1
        go_wp2_with fail
        by_cases hc1 : cl = 1
        · obtain rfl : nl = 1 := by omega
          subst hc1
          refine wp_region_held_drew (S := fun w' => (w'.cell? ⟨w.heap.size, 0, none⟩ = some (.slice A0 nt ct) ∧ w'.cell? ⟨w.heap.size, 1, none⟩ = some (.int .i64 r.size) ∧ w'.cell? ⟨w.heap.size, 2, none⟩ = some (.slice (some ⟨bR, oR, none⟩) nr cr) ∧ w'.cell? ⟨w.heap.size, 3, none⟩ = some (.slice (some ⟨bS, oS, none⟩) ns cs) ∧ w'.cell? ⟨w.heap.size, 4, none⟩ = some (.int .u64 (r.on : Nat))) ∧ w'.cell? ⟨bL, oL, none⟩ = some (.int .i64 gg)) (by kernel_rfl) ⟨⟨X4.out.c0, X4.out.c1, X4.out.c2, X4.out.c3, X4.out.c4⟩, cg⟩ (fun hHeld => ?_)
          have hbd : Below w4.heap.size w4 w4.drew := (Below.refl _ _).drew
          obtain ⟨w5, hw5⟩ : ∃ w5, w5 = w4.drew := ⟨_, rfl⟩
          rw [← hw5] at hbd hHeld ⊢
          clear hw5
          have X5 := Lib.hid (X4.out.step hbd)
          have Z5 := Lib.hid (Z4.out.step hbd)
          have B5h := Lib.hid (held_trans B4.out hbd)
          have SZ5 := Lib.hid (Nat.lt_of_lt_of_le SZ4.out hbd.size)
          have HRS := Lib.hid (HRL4.out.below hbd)
          have cg5 := keepcell hbd cg
          clear hbd cg
          refine wpAnyH_takesJ (i := 0) (v := (.agg #[.slice A0 nt ct, .int .i64 r.size, .slice (some ⟨bR, oR, none⟩) nr cr, .slice (some ⟨bS, oS, none⟩) ns cs, .int .u64 (r.on : Nat)])) (some 55) rfl rfl (by kernel_rfl) (by kernel_rfl) (by kernel_rfl) (fun _ _ _ h => h) (Or.inl ⟨by rfl, (by intro W9 hSw; (try dsimp only at hSw); go_simp; first | done | with_reducible rfl)⟩) (by assumption) ?_
          simp only [Act.put, List.setIfInBounds_toArray]; try simp only [List.set_cons_zero, List.set_cons_succ]
          refine wpAnyH_takesJ (i := 1) (v := (.int .i64 (m0 : Nat))) (some 56) rfl rfl (by kernel_rfl) (by kernel_rfl) (by kernel_rfl) (fun _ _ _ h => h) (Or.inl ⟨by rfl, (by intro W9 hSw; (try dsimp only at hSw); go_simp; first | done | with_reducible rfl)⟩) (by assumption) ?_
          simp only [Act.put, List.setIfInBounds_toArray]; try simp only [List.set_cons_zero, List.set_cons_succ]
          refine wpAnyH_takesJ (i := 2) (v := (.slice (some ⟨bL, oL, none⟩) 1 1)) (some 57) rfl rfl (by kernel_rfl) (by kernel_rfl) (by kernel_rfl) (fun _ _ _ h => h) (Or.inl ⟨by rfl, (by intro W9 hSw; (try dsimp only at hSw); go_simp; first | done | with_reducible rfl)⟩) (by assumption) ?_
          simp only [Act.put, List.setIfInBounds_toArray]; try simp only [List.set_cons_zero, List.set_cons_succ]
          refine wpAnyH_takesJ (i := 3) (v := (.slice (some ⟨bL, oL, none⟩) 0 0)) (some 58) rfl rfl (by kernel_rfl) (by kernel_rfl) (by kernel_rfl) (fun _ _ _ h => h) (Or.inl ⟨by rfl, (by intro W9 hSw; (try dsimp only at hSw); go_simp; first | done | with_reducible rfl)⟩) (by assumption) ?_
          simp only [Act.put, List.setIfInBounds_toArray]; try simp only [List.set_cons_zero, List.set_cons_succ]
          refine wpAnyH_takesJ (i := 5) (v := (.slice (some ⟨bL, oL, none⟩) 1 1)) (some 60) rfl rfl (by kernel_rfl) (by kernel_rfl) (by kernel_rfl) (fun _ _ _ h => h) (Or.inl ⟨by rfl, (by intro W9 hSw; (try dsimp only at hSw); go_simp; first | done | with_reducible rfl)⟩) (by assumption) ?_
          simp only [Act.put, List.setIfInBounds_toArray]; try simp only [List.set_cons_zero, List.set_cons_succ]
          refine wpAnyH_takesJ (i := 6) (v := (.pointer (some ⟨bL, oL, none⟩))) (some 61) rfl rfl (by kernel_rfl) (by kernel_rfl) (by kernel_rfl) (fun _ _ _ h => h) (Or.inl ⟨by rfl, (by intro W9 hSw; (try dsimp only at hSw); go_simp; first | done | with_reducible rfl)⟩) (by assumption) ?_
          simp only [Act.put, List.setIfInBounds_toArray]; try simp only [List.set_cons_zero, List.set_cons_succ]
          refine wpAnyH_takesJ (i := 7) (v := (.int .i64 gg)) (some 62) rfl rfl (by kernel_rfl) (by kernel_rfl) (by kernel_rfl) (fun _ _ _ h => h) (Or.inl ⟨by rfl, (by intro W9 hSw; (try dsimp only at hSw); go_simp; first | done | with_reducible rfl)⟩) (by assumption) ?_
          simp only [Act.put, List.setIfInBounds_toArray]; try simp only [List.set_cons_zero, List.set_cons_succ]
          refine wpAnyH_ready (rs := [4]) (by kernel_rfl) (by simp) ?_
          refine AllReadyH.cons rfl (fun K hK => ?_) AllReadyH.nil
          go_simp
          go_at_call 34
          have hsl := HRS.out.slice 1 (by omega)
          rw [(if_pos rfl), List.drop_one, List.tail_cons] at hsl
          have hrw := jrowed_any ⟨A0, nt, ct, some ⟨bR, oR, none⟩, nr, cr, some ⟨bS, oS, none⟩, ns, cs⟩ r m0 l' (some ⟨bL, oL, none⟩) 0 0 w5 (H.out.below B5h.out) hmn (by simp only; omega) hsl (fun _ ad e => by injection e with e; subst e; exact HFL.out (by simp) ⟨bL, oL, none⟩ rfl)
          obtain ⟨q, hq⟩ : ∃ q, q = Jp.rowed r m0 l' := ⟨_, rfl⟩
          rw [← hq] at hrw
          have HP := Lib.hid (show Jp.loc r k tick = (q, gg, 3) by rw [HP0.out, hq])
          clear hq hsl HRS
          refine hrw.mono ?_
          rintro e w6 ⟨⟨T6, nt6, ct6, R6, nr6, cr6, S6, ns6, cs6⟩, rfl, hm6, hb6⟩
          have cg6 := keepcell hb6 cg5
          have X6 := Lib.hid (X5.out.step hb6)
          have Z6 := Lib.hid (Z5.out.step hb6)
          have B6 := Lib.hid (held_trans B5h.out hb6)
          have M6 := Lib.hid hm6
          unfold jv
          simp only
          refine hK.out _ _ (by (exact ⟨⟨X6.out.c0, X6.out.c1, X6.out.c2, X6.out.c3, X6.out.c4⟩, cg6⟩)) (fun hHeld => ?_)
          clear hK K hm6
          try dsimp only
          have y0 := Z6.out.b5.c0
          have y1 := Z6.out.b5.c1
          have y2 := Z6.out.b5.c2
          have y3 := Z6.out.b5.c3
          have y4 := Z6.out.b5.c4
          have g0 := Z6.out.f0
          have g1 := Z6.out.f1
          have g2 := Z6.out.f2
          have g3 := Z6.out.f3
          have g4 := Z6.out.f4
          clear hb6 hrw
          refine wpAnyH_ready (rs := [8]) (by kernel_rfl) (by simp) ?_
          refine AllReadyH.cons rfl (fun K hK => ?_) AllReadyH.nil
          go_simp
          have X7 := (((((X6.out.far (p := ⟨w.heap.size + 1, 0, none⟩) (u := .slice T6 nt6 ct6) (by simp)).far (p := ⟨w.heap.size + 1, 1, none⟩) (u := .int .i64 q.size) (by simp)).far (p := ⟨w.heap.size + 1, 2, none⟩) (u := .slice R6 nr6 cr6) (by simp)).far (p := ⟨w.heap.size + 1, 3, none⟩) (u := .slice S6 ns6 cs6) (by simp)).far (p := ⟨w.heap.size + 1, 4, none⟩) (u := .int .u64 (q.on : Nat)) (by simp))
          have hbZ : bL ≠ w.heap.size + 1 := HBZ.out
          refine hK.out _ _ (by (exact ⟨⟨X7.c0, X7.c1, X7.c2, X7.c3, X7.c4⟩, far5 hbZ cg6⟩)) (fun hHeld => ?_)
          clear hK K y0 y1 y2 y3 y4 g0 g1 g2 g3 g4
          try dsimp only
          refine wpAnyH_takesJ (i := 9) (v := (.int .i64 gg)) (some 7) rfl rfl (by kernel_rfl) (by kernel_rfl) (by kernel_rfl) (fun _ _ _ h => h) (Or.inl ⟨by rfl, (by intro W9 hSw; (try dsimp only at hSw); go_simp; first | done | with_reducible rfl)⟩) (by assumption) ?_
          simp only [Act.put, List.setIfInBounds_toArray]; try simp only [List.set_cons_zero, List.set_cons_succ]
          refine wpAnyH_takesJ (i := 10) (v := (.int .i64 3)) (some 8) rfl rfl (by kernel_rfl) (by kernel_rfl) (by kernel_rfl) (fun _ _ _ h => h) (Or.inl ⟨by rfl, (by intro W9 hSw; (try dsimp only at hSw); go_simp; first | done | with_reducible rfl)⟩) (by assumption) ?_
          simp only [Act.put, List.setIfInBounds_toArray]; try simp only [List.set_cons_zero, List.set_cons_succ]
          refine wpAnyH_done (by kernel_rfl) ?_ _
          obtain ⟨k0, k1, k2, k3, k4⟩ := put5_told Z6.out (.slice T6 nt6 ct6) (.int .i64 q.size) (.slice R6 nr6 cr6) (.slice S6 ns6 cs6) (.int .u64 (q.on : Nat))
          have B7 := below_put (b := w.heap.size + 1) B6.out (by omega) (.slice T6 nt6 ct6) (.int .i64 q.size) (.slice R6 nr6 cr6) (.slice S6 ns6 cs6) (.int .u64 (q.on : Nat))
          have hX : ¬ More F w5 (w.heap.size + 1) := fun h => by
            rcases h with h | h
            · have := HFW.out _ h; omega
            · have := SZ5.out; omega
          have M7 := (M6.out.put hX (.slice T6 nt6 ct6) (.int .i64 q.size) (.slice R6 nr6 cr6) (.slice S6 ns6 cs6) (.int .u64 (q.on : Nat))).mono (G := More F w) (fun b h => by
            rcases h with h | h
            · exact .inl h
            · exact .inr (by have := SZ5.out; omega))
          have HF := Lib.hid (TellJG.is (F := F) (HP.out) M7 B7)
          unfold put5 at k0 k1 k2 k3 k4
          clear M7 B7 hX
          go_wp2_with fail
          refine bodyPost_ret ?_ rfl HF.out
          simp [results, Tryd.results12, go_sem, k0, k1, k2, k3, k4, jv]
        · skip
          refine wp_region_held_drew (S := fun w' => (w'.cell? ⟨w.heap.size, 0, none⟩ = some (.slice A0 nt ct) ∧ w'.cell? ⟨w.heap.size, 1, none⟩ = some (.int .i64 r.size) ∧ w'.cell? ⟨w.heap.size, 2, none⟩ = some (.slice (some ⟨bR, oR, none⟩) nr cr) ∧ w'.cell? ⟨w.heap.size, 3, none⟩ = some (.slice (some ⟨bS, oS, none⟩) ns cs) ∧ w'.cell? ⟨w.heap.size, 4, none⟩ = some (.int .u64 (r.on : Nat))) ∧ w'.cell? ⟨bL, oL, none⟩ = some (.int .i64 gg)) (by kernel_rfl) ⟨⟨X4.out.c0, X4.out.c1, X4.out.c2, X4.out.c3, X4.out.c4⟩, cg⟩ (fun hHeld => ?_)
          have hbd : Below w4.heap.size w4 w4.drew := (Below.refl _ _).drew
          obtain ⟨w5, hw5⟩ : ∃ w5, w5 = w4.drew := ⟨_, rfl⟩
          rw [← hw5] at hbd hHeld ⊢
          clear hw5
          have X5 := Lib.hid (X4.out.step hbd)
          have Z5 := Lib.hid (Z4.out.step hbd)
          have B5h := Lib.hid (held_trans B4.out hbd)
          have SZ5 := Lib.hid (Nat.lt_of_lt_of_le SZ4.out hbd.size)
          have HRS := Lib.hid (HRL4.out.below hbd)
          have cg5 := keepcell hbd cg
          clear hbd cg
          refine wpAnyH_takesJ (i := 0) (v := (.agg #[.slice A0 nt ct, .int .i64 r.size, .slice (some ⟨bR, oR, none⟩) nr cr, .slice (some ⟨bS, oS, none⟩) ns cs, .int .u64 (r.on : Nat)])) (some 55) rfl rfl (by kernel_rfl) (by kernel_rfl) (by kernel_rfl) (fun _ _ _ h => h) (Or.inl ⟨by rfl, (by intro W9 hSw; (try dsimp only at hSw); go_simp; first | done | with_reducible rfl)⟩) (by assumption) ?_
          simp only [Act.put, List.setIfInBounds_toArray]; try simp only [List.set_cons_zero, List.set_cons_succ]
          refine wpAnyH_takesJ (i := 1) (v := (.int .i64 (m0 : Nat))) (some 56) rfl rfl (by kernel_rfl) (by kernel_rfl) (by kernel_rfl) (fun _ _ _ h => h) (Or.inl ⟨by rfl, (by intro W9 hSw; (try dsimp only at hSw); go_simp; first | done | with_reducible rfl)⟩) (by assumption) ?_
          simp only [Act.put, List.setIfInBounds_toArray]; try simp only [List.set_cons_zero, List.set_cons_succ]
          refine wpAnyH_takesJ (i := 2) (v := (.slice (some ⟨bL, oL, none⟩) nl cl)) (some 57) rfl rfl (by kernel_rfl) (by kernel_rfl) (by kernel_rfl) (fun _ _ _ h => h) (Or.inl ⟨by rfl, (by intro W9 hSw; (try dsimp only at hSw); go_simp; first | done | with_reducible rfl)⟩) (by assumption) ?_
          simp only [Act.put, List.setIfInBounds_toArray]; try simp only [List.set_cons_zero, List.set_cons_succ]
          refine wpAnyH_takesJ (i := 3) (v := (.slice (some ⟨bL, (oL + 1), none⟩) (nl - 1) (cl - 1))) (some 58) rfl rfl (by kernel_rfl) (by kernel_rfl) (by kernel_rfl) (fun _ _ _ h => h) (Or.inl ⟨by rfl, (by intro W9 hSw; (try dsimp only at hSw); go_simp; first | done | with_reducible rfl)⟩) (by assumption) ?_
          simp only [Act.put, List.setIfInBounds_toArray]; try simp only [List.set_cons_zero, List.set_cons_succ]
          refine wpAnyH_takesJ (i := 5) (v := (.slice (some ⟨bL, oL, none⟩) nl cl)) (some 60) rfl rfl (by kernel_rfl) (by kernel_rfl) (by kernel_rfl) (fun _ _ _ h => h) (Or.inl ⟨by rfl, (by intro W9 hSw; (try dsimp only at hSw); go_simp; first | done | with_reducible rfl)⟩) (by assumption) ?_
          simp only [Act.put, List.setIfInBounds_toArray]; try simp only [List.set_cons_zero, List.set_cons_succ]
          refine wpAnyH_takesJ (i := 6) (v := (.pointer (some ⟨bL, oL, none⟩))) (some 61) rfl rfl (by kernel_rfl) (by kernel_rfl) (by kernel_rfl) (fun _ _ _ h => h) (Or.inl ⟨by rfl, (by intro W9 hSw; (try dsimp only at hSw); go_simp; first | done | with_reducible rfl)⟩) (by assumption) ?_
          simp only [Act.put, List.setIfInBounds_toArray]; try simp only [List.set_cons_zero, List.set_cons_succ]
          refine wpAnyH_takesJ (i := 7) (v := (.int .i64 gg)) (some 62) rfl rfl (by kernel_rfl) (by kernel_rfl) (by kernel_rfl) (fun _ _ _ h => h) (Or.inl ⟨by rfl, (by intro W9 hSw; (try dsimp only at hSw); go_simp; first | done | with_reducible rfl)⟩) (by assumption) ?_
          simp only [Act.put, List.setIfInBounds_toArray]; try simp only [List.set_cons_zero, List.set_cons_succ]
          refine wpAnyH_ready (rs := [4]) (by kernel_rfl) (by simp) ?_
          refine AllReadyH.cons rfl (fun K hK => ?_) AllReadyH.nil
          go_simp
          go_at_call 34
          have hsl := HRS.out.slice 1 (by omega)
          rw [(if_neg hc1), List.drop_one, List.tail_cons] at hsl
          have hrw := jrowed_any ⟨A0, nt, ct, some ⟨bR, oR, none⟩, nr, cr, some ⟨bS, oS, none⟩, ns, cs⟩ r m0 l' (some ⟨bL, (oL + 1), none⟩) (nl - 1) (cl - 1) w5 (H.out.below B5h.out) hmn (by simp only; omega) hsl (fun _ ad e => by injection e with e; subst e; exact HFL.out (by simp) ⟨bL, oL, none⟩ rfl)
          obtain ⟨q, hq⟩ : ∃ q, q = Jp.rowed r m0 l' := ⟨_, rfl⟩
          rw [← hq] at hrw
          have HP := Lib.hid (show Jp.loc r k tick = (q, gg, 3) by rw [HP0.out, hq])
          clear hq hsl HRS
          refine hrw.mono ?_
          rintro e w6 ⟨⟨T6, nt6, ct6, R6, nr6, cr6, S6, ns6, cs6⟩, rfl, hm6, hb6⟩
          have cg6 := keepcell hb6 cg5
          have X6 := Lib.hid (X5.out.step hb6)
          have Z6 := Lib.hid (Z5.out.step hb6)
          have B6 := Lib.hid (held_trans B5h.out hb6)
          have M6 := Lib.hid hm6
          unfold jv
          simp only
          refine hK.out _ _ (by (exact ⟨⟨X6.out.c0, X6.out.c1, X6.out.c2, X6.out.c3, X6.out.c4⟩, cg6⟩)) (fun hHeld => ?_)
          clear hK K hm6
          try dsimp only
          have y0 := Z6.out.b5.c0
          have y1 := Z6.out.b5.c1
          have y2 := Z6.out.b5.c2
          have y3 := Z6.out.b5.c3
          have y4 := Z6.out.b5.c4
          have g0 := Z6.out.f0
          have g1 := Z6.out.f1
          have g2 := Z6.out.f2
          have g3 := Z6.out.f3
          have g4 := Z6.out.f4
          clear hb6 hrw
          refine wpAnyH_ready (rs := [8]) (by kernel_rfl) (by simp) ?_
          refine AllReadyH.cons rfl (fun K hK => ?_) AllReadyH.nil
          go_simp
          have X7 := (((((X6.out.far (p := ⟨w.heap.size + 1, 0, none⟩) (u := .slice T6 nt6 ct6) (by simp)).far (p := ⟨w.heap.size + 1, 1, none⟩) (u := .int .i64 q.size) (by simp)).far (p := ⟨w.heap.size + 1, 2, none⟩) (u := .slice R6 nr6 cr6) (by simp)).far (p := ⟨w.heap.size + 1, 3, none⟩) (u := .slice S6 ns6 cs6) (by simp)).far (p := ⟨w.heap.size + 1, 4, none⟩) (u := .int .u64 (q.on : Nat)) (by simp))
          have hbZ : bL ≠ w.heap.size + 1 := HBZ.out
          refine hK.out _ _ (by (exact ⟨⟨X7.c0, X7.c1, X7.c2, X7.c3, X7.c4⟩, far5 hbZ cg6⟩)) (fun hHeld => ?_)
          clear hK K y0 y1 y2 y3 y4 g0 g1 g2 g3 g4
          try dsimp only
          refine wpAnyH_takesJ (i := 9) (v := (.int .i64 gg)) (some 7) rfl rfl (by kernel_rfl) (by kernel_rfl) (by kernel_rfl) (fun _ _ _ h => h) (Or.inl ⟨by rfl, (by intro W9 hSw; (try dsimp only at hSw); go_simp; first | done | with_reducible rfl)⟩) (by assumption) ?_
          simp only [Act.put, List.setIfInBounds_toArray]; try simp only [List.set_cons_zero, List.set_cons_succ]
          refine wpAnyH_takesJ (i := 10) (v := (.int .i64 3)) (some 8) rfl rfl (by kernel_rfl) (by kernel_rfl) (by kernel_rfl) (fun _ _ _ h => h) (Or.inl ⟨by rfl, (by intro W9 hSw; (try dsimp only at hSw); go_simp; first | done | with_reducible rfl)⟩) (by assumption) ?_
          simp only [Act.put, List.setIfInBounds_toArray]; try simp only [List.set_cons_zero, List.set_cons_succ]
          refine wpAnyH_done (by kernel_rfl) ?_ _
          obtain ⟨k0, k1, k2, k3, k4⟩ := put5_told Z6.out (.slice T6 nt6 ct6) (.int .i64 q.size) (.slice R6 nr6 cr6) (.slice S6 ns6 cs6) (.int .u64 (q.on : Nat))
          have B7 := below_put (b := w.heap.size + 1) B6.out (by omega) (.slice T6 nt6 ct6) (.int .i64 q.size) (.slice R6 nr6 cr6) (.slice S6 ns6 cs6) (.int .u64 (q.on : Nat))
          have hX : ¬ More F w5 (w.heap.size + 1) := fun h => by
            rcases h with h | h
            · have := HFW.out _ h; omega
            · have := SZ5.out; omega
          have M7 := (M6.out.put hX (.slice T6 nt6 ct6) (.int .i64 q.size) (.slice R6 nr6 cr6) (.slice S6 ns6 cs6) (.int .u64 (q.on : Nat))).mono (G := More F w) (fun b h => by
            rcases h with h | h
            · exact .inl h
            · exact .inr (by have := SZ5.out; omega))
          have HF := Lib.hid (TellJG.is (F := F) (HP.out) M7 B7)
          unfold put5 at k0 k1 k2 k3 k4
          clear M7 B7 hX
          go_wp2_with fail
          refine bodyPost_ret ?_ rfl HF.out
          simp [results, Tryd.results12, go_sem, k0, k1, k2, k3, k4, jv]
      · have HWN := Lib.hid (show ¬ (l ≠ [] ∧ (tick.tmod 61 = 0 ∨ (x = 0 ∧ t = []))) from fun h => by
          rcases h.2 with h2 | h2
          · exact tu h2
          · exact tb ⟨h2.1, by have h9 : t.length = na := htl; rw [← h9, h2.2]; rfl⟩)
        by_cases t2 : x = 0
        · subst t2
          have x0 : ((0 : Int) != 0) = false := rfl
          by_cases t3 : na = 0
          · have ht0 : t = [] := List.length_eq_zero_iff.1 (by have h9 : t.length = na := htl; omega)
            have HP := Lib.hid (show Jp.loc r k tick = (r, 0, 0) by rw [HLO.out]; exact Jp.locOn_none HNN.out HXM.out HXT.out HWN.out rfl ht0)
            have z3 : ¬ (0 : Int) < (na : Int) := by omega
            have q0 := X4.out.c0
            clear ht0
            exact absurd ⟨rfl, t3⟩ tb
          · have HX0 := Lib.hid (rfl : (0 : Int) = 0)
            have l1 : t ≠ [] := fun e => by have h9 : t.length = na := htl; rw [e] at h9; simp at h9; omega
            obtain ⟨gg, t', hcons⟩ := List.exists_cons_of_ne_nil l1
            obtain ⟨bT, oT, hAT, hbT, hcT⟩ := HRT4.out.cells (by omega)
            have cg := hcT 0 gg (show t[0]? = some gg by rw [hcons]; rfl)
            rw [Nat.add_zero] at cg
            have HP0 := Lib.hid (show Jp.loc r k tick = (Jp.ringed r k (0, t'), gg, 2) by rw [HLO.out, Jp.locOn_ring HNN.out HXM.out HXT.out HWN.out HX0.out (by rw [hcons]; simp), hcons]; rfl)
            subst hAT hcons
            have HBZ := Lib.hid (show bT ≠ w.heap.size + 1 from fun e => by have := HFW.out _ (HFT.out (by simp) ⟨bT, oT, none⟩ rfl); simp only at this; omega)
            have s1 : (1 : Int) ≤ (na : Int) := by omega
            have s2 : ¬ ((na : Int) < 1) := by omega
            have s4 : (0 : Int) < (na : Int) := by omega
            have hncl := HRT4.out.cap
            have s5 : ¬ ca < 1 := by omega
            have s6 : 1 ≤ na := by omega
            have s7 : ((na : Int) == 0) = false := by rw [beq_eq_false_iff_ne]; omega
            clear hcT hbT l1
            go_wp2_with fail
            by_cases hc1 : ca = 1
            · obtain rfl : na = 1 := by omega
              subst hc1
              refine wp_region_held_drew (S := fun w' => (w'.cell? ⟨w.heap.size, 0, none⟩ = some (.slice A0 nt ct) ∧ w'.cell? ⟨w.heap.size, 1, none⟩ = some (.int .i64 r.size) ∧ w'.cell? ⟨w.heap.size, 2, none⟩ = some (.slice (some ⟨bR, oR, none⟩) nr cr) ∧ w'.cell? ⟨w.heap.size, 3, none⟩ = some (.slice (some ⟨bS, oS, none⟩) ns cs) ∧ w'.cell? ⟨w.heap.size, 4, none⟩ = some (.int .u64 (r.on : Nat))) ∧ w'.cell? ⟨w3.heap.size, 1, none⟩ = some (.slice (some ⟨bT, oT, none⟩) 1 1) ∧ w'.cell? ⟨bT, oT, none⟩ = some (.int .i64 gg)) (by kernel_rfl) ⟨⟨X4.out.c0, X4.out.c1, X4.out.c2, X4.out.c3, X4.out.c4⟩, n1, cg⟩ (fun hHeld => ?_)
              have hbd : Below w4.heap.size w4 w4.drew := (Below.refl _ _).drew
              obtain ⟨w5, hw5⟩ : ∃ w5, w5 = w4.drew := ⟨_, rfl⟩
              rw [← hw5] at hbd hHeld ⊢
              clear hw5
              have X5 := Lib.hid (X4.out.step hbd)
              have Z5 := Lib.hid (Z4.out.step hbd)
              have B5h := Lib.hid (held_trans B4.out hbd)
              have SZ5 := Lib.hid (Nat.lt_of_lt_of_le SZ4.out hbd.size)
              have HRS := Lib.hid (HRT4.out.below hbd)
              have cg5 := keepcell hbd cg
              have n15 := keepcell hbd n1
              clear hbd cg n0 n1
              refine wpAnyH_takesJ (i := 0) (v := (.agg #[.slice A0 nt ct, .int .i64 r.size, .slice (some ⟨bR, oR, none⟩) nr cr, .slice (some ⟨bS, oS, none⟩) ns cs, .int .u64 (r.on : Nat)])) (some 78) rfl rfl (by kernel_rfl) (by kernel_rfl) (by kernel_rfl) (fun _ _ _ h => h) (Or.inl ⟨by rfl, (by intro W9 hSw; (try dsimp only at hSw); go_simp; first | done | with_reducible rfl)⟩) (by assumption) ?_
              simp only [Act.put, List.setIfInBounds_toArray]; try simp only [List.set_cons_zero, List.set_cons_succ]
              refine wpAnyH_takesJ (i := 1) (v := (.int .i64 (k : Nat))) (some 79) rfl rfl (by kernel_rfl) (by kernel_rfl) (by kernel_rfl) (fun _ _ _ h => h) (Or.inl ⟨by rfl, (by intro W9 hSw; (try dsimp only at hSw); go_simp; first | done | with_reducible rfl)⟩) (by assumption) ?_
              simp only [Act.put, List.setIfInBounds_toArray]; try simp only [List.set_cons_zero, List.set_cons_succ]
              refine wpAnyH_takesJ (i := 2) (v := (.pointer (some ⟨w3.heap.size, 1, none⟩))) (some 80) rfl rfl (by kernel_rfl) (by kernel_rfl) (by kernel_rfl) (fun _ _ _ h => h) (Or.inl ⟨by rfl, (by intro W9 hSw; (try dsimp only at hSw); go_simp; first | done | with_reducible rfl)⟩) (by assumption) ?_
              simp only [Act.put, List.setIfInBounds_toArray]; try simp only [List.set_cons_zero, List.set_cons_succ]
              refine wpAnyH_takesJ (i := 3) (v := (.slice (some ⟨bT, oT, none⟩) 1 1)) (some 81) rfl rfl (by kernel_rfl) (by kernel_rfl) (by kernel_rfl) (fun _ _ _ h => h) (Or.inl ⟨by rfl, (by intro W9 hSw; (try dsimp only at hSw); go_simp; first | done | with_reducible rfl)⟩) (by assumption) ?_
              simp only [Act.put, List.setIfInBounds_toArray]; try simp only [List.set_cons_zero, List.set_cons_succ]
              refine wpAnyH_takesJ (i := 4) (v := (.slice (some ⟨bT, oT, none⟩) 0 0)) (some 82) rfl rfl (by kernel_rfl) (by kernel_rfl) (by kernel_rfl) (fun _ _ _ h => h) (Or.inl ⟨by rfl, (by intro W9 hSw; (try dsimp only at hSw); go_simp; first | done | with_reducible rfl)⟩) (by assumption) ?_
              simp only [Act.put, List.setIfInBounds_toArray]; try simp only [List.set_cons_zero, List.set_cons_succ]
              refine wpAnyH_takesJ (i := 5) (v := (.agg #[.int .i64 0, .slice (some ⟨bT, oT, none⟩) 0 0])) (some 83) rfl rfl (by kernel_rfl) (by kernel_rfl) (by kernel_rfl) (fun _ _ _ h => h) (Or.inl ⟨by rfl, (by intro W9 hSw; (try dsimp only at hSw); go_simp; first | done | with_reducible rfl)⟩) (by assumption) ?_
              simp only [Act.put, List.setIfInBounds_toArray]; try simp only [List.set_cons_zero, List.set_cons_succ]
              refine wpAnyH_takesJ (i := 7) (v := (.pointer (some ⟨w3.heap.size, 1, none⟩))) (some 85) rfl rfl (by kernel_rfl) (by kernel_rfl) (by kernel_rfl) (fun _ _ _ h => h) (Or.inl ⟨by rfl, (by intro W9 hSw; (try dsimp only at hSw); go_simp; first | done | with_reducible rfl)⟩) (by assumption) ?_
              simp only [Act.put, List.setIfInBounds_toArray]; try simp only [List.set_cons_zero, List.set_cons_succ]
              refine wpAnyH_takesJ (i := 8) (v := (.slice (some ⟨bT, oT, none⟩) 1 1)) (some 86) rfl rfl (by kernel_rfl) (by kernel_rfl) (by kernel_rfl) (fun _ _ _ h => h) (Or.inl ⟨by rfl, (by intro W9 hSw; (try dsimp only at hSw); go_simp; first | done | with_reducible rfl)⟩) (by assumption) ?_
              simp only [Act.put, List.setIfInBounds_toArray]; try simp only [List.set_cons_zero, List.set_cons_succ]
              refine wpAnyH_takesJ (i := 9) (v := (.pointer (some ⟨bT, oT, none⟩))) (some 87) rfl rfl (by kernel_rfl) (by kernel_rfl) (by kernel_rfl) (fun _ _ _ h => h) (Or.inl ⟨by rfl, (by intro W9 hSw; (try dsimp only at hSw); go_simp; first | done | with_reducible rfl)⟩) (by assumption) ?_
              simp only [Act.put, List.setIfInBounds_toArray]; try simp only [List.set_cons_zero, List.set_cons_succ]
              refine wpAnyH_takesJ (i := 10) (v := (.int .i64 gg)) (some 88) rfl rfl (by kernel_rfl) (by kernel_rfl) (by kernel_rfl) (fun _ _ _ h => h) (Or.inl ⟨by rfl, (by intro W9 hSw; (try dsimp only at hSw); go_simp; first | done | with_reducible rfl)⟩) (by assumption) ?_
              simp only [Act.put, List.setIfInBounds_toArray]; try simp only [List.set_cons_zero, List.set_cons_succ]
              refine wpAnyH_ready (rs := [6]) (by kernel_rfl) (by simp) ?_
              refine AllReadyH.cons rfl (fun K hK => ?_) AllReadyH.nil
              go_simp
              go_at_call 35
              have hsl := HRS.out.slice 1 (by omega)
              rw [(if_pos rfl), List.drop_one, List.tail_cons] at hsl
              have hrw := jringed_any ⟨A0, nt, ct, some ⟨bR, oR, none⟩, nr, cr, some ⟨bS, oS, none⟩, ns, cs⟩ r k 0 t' (some ⟨bT, oT, none⟩) 0 0 w5 (H.out.below B5h.out) (by simp only; omega) (by simp only; omega) hsl (fun _ ad e => by injection e with e; subst e; exact HFT.out (by simp) ⟨bT, oT, none⟩ rfl)
              obtain ⟨q, hq⟩ : ∃ q, q = Jp.ringed r k (0, t') := ⟨_, rfl⟩
              rw [← hq] at hrw
              have HP := Lib.hid (show Jp.loc r k tick = (q, gg, 2) by rw [HP0.out, hq])
              clear hq hsl HRS
              refine hrw.mono ?_
              rintro e w6 ⟨⟨T6, nt6, ct6, R6, nr6, cr6, S6, ns6, cs6⟩, rfl, hm6, hb6⟩
              have cg6 := keepcell hb6 cg5
              have n16 := keepcell hb6 n15
              have X6 := Lib.hid (X5.out.step hb6)
              have Z6 := Lib.hid (Z5.out.step hb6)
              have B6 := Lib.hid (held_trans B5h.out hb6)
              have M6 := Lib.hid hm6
              unfold jv
              simp only
              refine hK.out _ _ (by (exact ⟨⟨X6.out.c0, X6.out.c1, X6.out.c2, X6.out.c3, X6.out.c4⟩, n16, cg6⟩)) (fun hHeld => ?_)
              clear hK K hm6
              try dsimp only
              have y0 := Z6.out.b5.c0
              have y1 := Z6.out.b5.c1
              have y2 := Z6.out.b5.c2
              have y3 := Z6.out.b5.c3
              have y4 := Z6.out.b5.c4
              have g0 := Z6.out.f0
              have g1 := Z6.out.f1
              have g2 := Z6.out.f2
              have g3 := Z6.out.f3
              have g4 := Z6.out.f4
              clear hb6 hrw
              refine wpAnyH_ready (rs := [11]) (by kernel_rfl) (by simp) ?_
              refine AllReadyH.cons rfl (fun K hK => ?_) AllReadyH.nil
              go_simp
              have X7 := (((((X6.out.far (p := ⟨w.heap.size + 1, 0, none⟩) (u := .slice T6 nt6 ct6) (by simp)).far (p := ⟨w.heap.size + 1, 1, none⟩) (u := .int .i64 q.size) (by simp)).far (p := ⟨w.heap.size + 1, 2, none⟩) (u := .slice R6 nr6 cr6) (by simp)).far (p := ⟨w.heap.size + 1, 3, none⟩) (u := .slice S6 ns6 cs6) (by simp)).far (p := ⟨w.heap.size + 1, 4, none⟩) (u := .int .u64 (q.on : Nat)) (by simp))
              have hbZ : bT ≠ w.heap.size + 1 := HBZ.out
              have hbN : w3.heap.size ≠ w.heap.size + 1 := by have := SZ3.out; omega
              refine hK.out _ _ (by (exact ⟨⟨X7.c0, X7.c1, X7.c2, X7.c3, X7.c4⟩, far5 hbN n16, far5 hbZ cg6⟩)) (fun hHeld => ?_)
              clear hK K y0 y1 y2 y3 y4 g0 g1 g2 g3 g4
              try dsimp only
              refine wpAnyH_takesJ (i := 12) (v := (.int .i64 gg)) (some 7) rfl rfl (by kernel_rfl) (by kernel_rfl) (by kernel_rfl) (fun _ _ _ h => h) (Or.inl ⟨by rfl, (by intro W9 hSw; (try dsimp only at hSw); go_simp; first | done | with_reducible rfl)⟩) (by assumption) ?_
              simp only [Act.put, List.setIfInBounds_toArray]; try simp only [List.set_cons_zero, List.set_cons_succ]
              refine wpAnyH_takesJ (i := 13) (v := (.int .i64 2)) (some 8) rfl rfl (by kernel_rfl) (by kernel_rfl) (by kernel_rfl) (fun _ _ _ h => h) (Or.inl ⟨by rfl, (by intro W9 hSw; (try dsimp only at hSw); go_simp; first | done | with_reducible rfl)⟩) (by assumption) ?_
              simp only [Act.put, List.setIfInBounds_toArray]; try simp only [List.set_cons_zero, List.set_cons_succ]
              refine wpAnyH_done (by kernel_rfl) ?_ _
              obtain ⟨k0, k1, k2, k3, k4⟩ := put5_told Z6.out (.slice T6 nt6 ct6) (.int .i64 q.size) (.slice R6 nr6 cr6) (.slice S6 ns6 cs6) (.int .u64 (q.on : Nat))
              have B7 := below_put (b := w.heap.size + 1) B6.out (by omega) (.slice T6 nt6 ct6) (.int .i64 q.size) (.slice R6 nr6 cr6) (.slice S6 ns6 cs6) (.int .u64 (q.on : Nat))
              have hX : ¬ More F w5 (w.heap.size + 1) := fun h => by
                rcases h with h | h
                · have := HFW.out _ h; omega
                · have := SZ5.out; omega
              have M7 := (M6.out.put hX (.slice T6 nt6 ct6) (.int .i64 q.size) (.slice R6 nr6 cr6) (.slice S6 ns6 cs6) (.int .u64 (q.on : Nat))).mono (G := More F w) (fun b h => by
                rcases h with h | h
                · exact .inl h
                · exact .inr (by have := SZ5.out; omega))
              have HF := Lib.hid (TellJG.is (F := F) (HP.out) M7 B7)
              unfold put5 at k0 k1 k2 k3 k4
              clear M7 B7 hX
              go_wp2_with fail
              refine bodyPost_ret ?_ rfl HF.out
              simp [results, Tryd.results12, go_sem, k0, k1, k2, k3, k4, jv]
            · skip
              refine wp_region_held_drew (S := fun w' => (w'.cell? ⟨w.heap.size, 0, none⟩ = some (.slice A0 nt ct) ∧ w'.cell? ⟨w.heap.size, 1, none⟩ = some (.int .i64 r.size) ∧ w'.cell? ⟨w.heap.size, 2, none⟩ = some (.slice (some ⟨bR, oR, none⟩) nr cr) ∧ w'.cell? ⟨w.heap.size, 3, none⟩ = some (.slice (some ⟨bS, oS, none⟩) ns cs) ∧ w'.cell? ⟨w.heap.size, 4, none⟩ = some (.int .u64 (r.on : Nat))) ∧ w'.cell? ⟨w3.heap.size, 1, none⟩ = some (.slice (some ⟨bT, oT, none⟩) na ca) ∧ w'.cell? ⟨bT, oT, none⟩ = some (.int .i64 gg)) (by kernel_rfl) ⟨⟨X4.out.c0, X4.out.c1, X4.out.c2, X4.out.c3, X4.out.c4⟩, n1, cg⟩ (fun hHeld => ?_)
              have hbd : Below w4.heap.size w4 w4.drew := (Below.refl _ _).drew
              obtain ⟨w5, hw5⟩ : ∃ w5, w5 = w4.drew := ⟨_, rfl⟩
              rw [← hw5] at hbd hHeld ⊢
              clear hw5
              have X5 := Lib.hid (X4.out.step hbd)
              have Z5 := Lib.hid (Z4.out.step hbd)
              have B5h := Lib.hid (held_trans B4.out hbd)
              have SZ5 := Lib.hid (Nat.lt_of_lt_of_le SZ4.out hbd.size)
              have HRS := Lib.hid (HRT4.out.below hbd)
              have cg5 := keepcell hbd cg
              have n15 := keepcell hbd n1
              clear hbd cg n0 n1
              refine wpAnyH_takesJ (i := 0) (v := (.agg #[.slice A0 nt ct, .int .i64 r.size, .slice (some ⟨bR, oR, none⟩) nr cr, .slice (some ⟨bS, oS, none⟩) ns cs, .int .u64 (r.on : Nat)])) (some 78) rfl rfl (by kernel_rfl) (by kernel_rfl) (by kernel_rfl) (fun _ _ _ h => h) (Or.inl ⟨by rfl, (by intro W9 hSw; (try dsimp only at hSw); go_simp; first | done | with_reducible rfl)⟩) (by assumption) ?_
              simp only [Act.put, List.setIfInBounds_toArray]; try simp only [List.set_cons_zero, List.set_cons_succ]
              refine wpAnyH_takesJ (i := 1) (v := (.int .i64 (k : Nat))) (some 79) rfl rfl (by kernel_rfl) (by kernel_rfl) (by kernel_rfl) (fun _ _ _ h => h) (Or.inl ⟨by rfl, (by intro W9 hSw; (try dsimp only at hSw); go_simp; first | done | with_reducible rfl)⟩) (by assumption) ?_
              simp only [Act.put, List.setIfInBounds_toArray]; try simp only [List.set_cons_zero, List.set_cons_succ]
              refine wpAnyH_takesJ (i := 2) (v := (.pointer (some ⟨w3.heap.size, 1, none⟩))) (some 80) rfl rfl (by kernel_rfl) (by kernel_rfl) (by kernel_rfl) (fun _ _ _ h => h) (Or.inl ⟨by rfl, (by intro W9 hSw; (try dsimp only at hSw); go_simp; first | done | with_reducible rfl)⟩) (by assumption) ?_
              simp only [Act.put, List.setIfInBounds_toArray]; try simp only [List.set_cons_zero, List.set_cons_succ]
              refine wpAnyH_takesJ (i := 3) (v := (.slice (some ⟨bT, oT, none⟩) na ca)) (some 81) rfl rfl (by kernel_rfl) (by kernel_rfl) (by kernel_rfl) (fun _ _ _ h => h) (Or.inl ⟨by rfl, (by intro W9 hSw; (try dsimp only at hSw); go_simp; first | done | with_reducible rfl)⟩) (by assumption) ?_
              simp only [Act.put, List.setIfInBounds_toArray]; try simp only [List.set_cons_zero, List.set_cons_succ]
              refine wpAnyH_takesJ (i := 4) (v := (.slice (some ⟨bT, (oT + 1), none⟩) (na - 1) (ca - 1))) (some 82) rfl rfl (by kernel_rfl) (by kernel_rfl) (by kernel_rfl) (fun _ _ _ h => h) (Or.inl ⟨by rfl, (by intro W9 hSw; (try dsimp only at hSw); go_simp; first | done | with_reducible rfl)⟩) (by assumption) ?_
              simp only [Act.put, List.setIfInBounds_toArray]; try simp only [List.set_cons_zero, List.set_cons_succ]
              refine wpAnyH_takesJ (i := 5) (v := (.agg #[.int .i64 0, .slice (some ⟨bT, (oT + 1), none⟩) (na - 1) (ca - 1)])) (some 83) rfl rfl (by kernel_rfl) (by kernel_rfl) (by kernel_rfl) (fun _ _ _ h => h) (Or.inl ⟨by rfl, (by intro W9 hSw; (try dsimp only at hSw); go_simp; first | done | with_reducible rfl)⟩) (by assumption) ?_
              simp only [Act.put, List.setIfInBounds_toArray]; try simp only [List.set_cons_zero, List.set_cons_succ]
              refine wpAnyH_takesJ (i := 7) (v := (.pointer (some ⟨w3.heap.size, 1, none⟩))) (some 85) rfl rfl (by kernel_rfl) (by kernel_rfl) (by kernel_rfl) (fun _ _ _ h => h) (Or.inl ⟨by rfl, (by intro W9 hSw; (try dsimp only at hSw); go_simp; first | done | with_reducible rfl)⟩) (by assumption) ?_
              simp only [Act.put, List.setIfInBounds_toArray]; try simp only [List.set_cons_zero, List.set_cons_succ]
              refine wpAnyH_takesJ (i := 8) (v := (.slice (some ⟨bT, oT, none⟩) na ca)) (some 86) rfl rfl (by kernel_rfl) (by kernel_rfl) (by kernel_rfl) (fun _ _ _ h => h) (Or.inl ⟨by rfl, (by intro W9 hSw; (try dsimp only at hSw); go_simp; first | done | with_reducible rfl)⟩) (by assumption) ?_
              simp only [Act.put, List.setIfInBounds_toArray]; try simp only [List.set_cons_zero, List.set_cons_succ]
              refine wpAnyH_takesJ (i := 9) (v := (.pointer (some ⟨bT, oT, none⟩))) (some 87) rfl rfl (by kernel_rfl) (by kernel_rfl) (by kernel_rfl) (fun _ _ _ h => h) (Or.inl ⟨by rfl, (by intro W9 hSw; (try dsimp only at hSw); go_simp; first | done | with_reducible rfl)⟩) (by assumption) ?_
              simp only [Act.put, List.setIfInBounds_toArray]; try simp only [List.set_cons_zero, List.set_cons_succ]
              refine wpAnyH_takesJ (i := 10) (v := (.int .i64 gg)) (some 88) rfl rfl (by kernel_rfl) (by kernel_rfl) (by kernel_rfl) (fun _ _ _ h => h) (Or.inl ⟨by rfl, (by intro W9 hSw; (try dsimp only at hSw); go_simp; first | done | with_reducible rfl)⟩) (by assumption) ?_
              simp only [Act.put, List.setIfInBounds_toArray]; try simp only [List.set_cons_zero, List.set_cons_succ]
              refine wpAnyH_ready (rs := [6]) (by kernel_rfl) (by simp) ?_
              refine AllReadyH.cons rfl (fun K hK => ?_) AllReadyH.nil
              go_simp
              go_at_call 35
              have hsl := HRS.out.slice 1 (by omega)
              rw [(if_neg hc1), List.drop_one, List.tail_cons] at hsl
              have hrw := jringed_any ⟨A0, nt, ct, some ⟨bR, oR, none⟩, nr, cr, some ⟨bS, oS, none⟩, ns, cs⟩ r k 0 t' (some ⟨bT, (oT + 1), none⟩) (na - 1) (ca - 1) w5 (H.out.below B5h.out) (by simp only; omega) (by simp only; omega) hsl (fun _ ad e => by injection e with e; subst e; exact HFT.out (by simp) ⟨bT, oT, none⟩ rfl)
              obtain ⟨q, hq⟩ : ∃ q, q = Jp.ringed r k (0, t') := ⟨_, rfl⟩
              rw [← hq] at hrw
              have HP := Lib.hid (show Jp.loc r k tick = (q, gg, 2) by rw [HP0.out, hq])
              clear hq hsl HRS
              refine hrw.mono ?_
              rintro e w6 ⟨⟨T6, nt6, ct6, R6, nr6, cr6, S6, ns6, cs6⟩, rfl, hm6, hb6⟩
              have cg6 := keepcell hb6 cg5
              have n16 := keepcell hb6 n15
              have X6 := Lib.hid (X5.out.step hb6)
              have Z6 := Lib.hid (Z5.out.step hb6)
              have B6 := Lib.hid (held_trans B5h.out hb6)
              have M6 := Lib.hid hm6
              unfold jv
              simp only
              refine hK.out _ _ (by (exact ⟨⟨X6.out.c0, X6.out.c1, X6.out.c2, X6.out.c3, X6.out.c4⟩, n16, cg6⟩)) (fun hHeld => ?_)
              clear hK K hm6
              try dsimp only
              have y0 := Z6.out.b5.c0
              have y1 := Z6.out.b5.c1
              have y2 := Z6.out.b5.c2
              have y3 := Z6.out.b5.c3
              have y4 := Z6.out.b5.c4
              have g0 := Z6.out.f0
              have g1 := Z6.out.f1
              have g2 := Z6.out.f2
              have g3 := Z6.out.f3
              have g4 := Z6.out.f4
              clear hb6 hrw
              refine wpAnyH_ready (rs := [11]) (by kernel_rfl) (by simp) ?_
              refine AllReadyH.cons rfl (fun K hK => ?_) AllReadyH.nil
              go_simp
              have X7 := (((((X6.out.far (p := ⟨w.heap.size + 1, 0, none⟩) (u := .slice T6 nt6 ct6) (by simp)).far (p := ⟨w.heap.size + 1, 1, none⟩) (u := .int .i64 q.size) (by simp)).far (p := ⟨w.heap.size + 1, 2, none⟩) (u := .slice R6 nr6 cr6) (by simp)).far (p := ⟨w.heap.size + 1, 3, none⟩) (u := .slice S6 ns6 cs6) (by simp)).far (p := ⟨w.heap.size + 1, 4, none⟩) (u := .int .u64 (q.on : Nat)) (by simp))
              have hbZ : bT ≠ w.heap.size + 1 := HBZ.out
              have hbN : w3.heap.size ≠ w.heap.size + 1 := by have := SZ3.out; omega
              refine hK.out _ _ (by (exact ⟨⟨X7.c0, X7.c1, X7.c2, X7.c3, X7.c4⟩, far5 hbN n16, far5 hbZ cg6⟩)) (fun hHeld => ?_)
              clear hK K y0 y1 y2 y3 y4 g0 g1 g2 g3 g4
              try dsimp only
              refine wpAnyH_takesJ (i := 12) (v := (.int .i64 gg)) (some 7) rfl rfl (by kernel_rfl) (by kernel_rfl) (by kernel_rfl) (fun _ _ _ h => h) (Or.inl ⟨by rfl, (by intro W9 hSw; (try dsimp only at hSw); go_simp; first | done | with_reducible rfl)⟩) (by assumption) ?_
              simp only [Act.put, List.setIfInBounds_toArray]; try simp only [List.set_cons_zero, List.set_cons_succ]
              refine wpAnyH_takesJ (i := 13) (v := (.int .i64 2)) (some 8) rfl rfl (by kernel_rfl) (by kernel_rfl) (by kernel_rfl) (fun _ _ _ h => h) (Or.inl ⟨by rfl, (by intro W9 hSw; (try dsimp only at hSw); go_simp; first | done | with_reducible rfl)⟩) (by assumption) ?_
              simp only [Act.put, List.setIfInBounds_toArray]; try simp only [List.set_cons_zero, List.set_cons_succ]
              refine wpAnyH_done (by kernel_rfl) ?_ _
              obtain ⟨k0, k1, k2, k3, k4⟩ := put5_told Z6.out (.slice T6 nt6 ct6) (.int .i64 q.size) (.slice R6 nr6 cr6) (.slice S6 ns6 cs6) (.int .u64 (q.on : Nat))
              have B7 := below_put (b := w.heap.size + 1) B6.out (by omega) (.slice T6 nt6 ct6) (.int .i64 q.size) (.slice R6 nr6 cr6) (.slice S6 ns6 cs6) (.int .u64 (q.on : Nat))
              have hX : ¬ More F w5 (w.heap.size + 1) := fun h => by
                rcases h with h | h
                · have := HFW.out _ h; omega
                · have := SZ5.out; omega
              have M7 := (M6.out.put hX (.slice T6 nt6 ct6) (.int .i64 q.size) (.slice R6 nr6 cr6) (.slice S6 ns6 cs6) (.int .u64 (q.on : Nat))).mono (G := More F w) (fun b h => by
                rcases h with h | h
                · exact .inl h
                · exact .inr (by have := SZ5.out; omega))
              have HF := Lib.hid (TellJG.is (F := F) (HP.out) M7 B7)
              unfold put5 at k0 k1 k2 k3 k4
              clear M7 B7 hX
              go_wp2_with fail
              refine bodyPost_ret ?_ rfl HF.out
              simp [results, Tryd.results12, go_sem, k0, k1, k2, k3, k4, jv]
        · have x0 : (x != 0) = true := by rw [bne_iff_ne]; exact t2
          have x1 : (x == 0) = false := by rw [beq_eq_false_iff_ne]; exact t2
          have HX0 := Lib.hid t2
          have HP0 := Lib.hid (show Jp.loc r k tick = (Jp.ringed r k (0, t), x, 1) by rw [HLO.out]; exact Jp.locOn_next HNN.out HXM.out HXT.out HWN.out HX0.out)
          go_wp2_with fail
          refine wp_region_held_drew (S := fun w' => (w'.cell? ⟨w.heap.size, 0, none⟩ = some (.slice A0 nt ct) ∧ w'.cell? ⟨w.heap.size, 1, none⟩ = some (.int .i64 r.size) ∧ w'.cell? ⟨w.heap.size, 2, none⟩ = some (.slice (some ⟨bR, oR, none⟩) nr cr) ∧ w'.cell? ⟨w.heap.size, 3, none⟩ = some (.slice (some ⟨bS, oS, none⟩) ns cs) ∧ w'.cell? ⟨w.heap.size, 4, none⟩ = some (.int .u64 (r.on : Nat))) ∧ w'.cell? ⟨w3.heap.size, 0, none⟩ = some (.int .i64 x) ∧ w'.cell? ⟨w3.heap.size, 1, none⟩ = some (.slice AT na ca)) (by kernel_rfl) ⟨⟨X4.out.c0, X4.out.c1, X4.out.c2, X4.out.c3, X4.out.c4⟩, n0, n1⟩ (fun hHeld => ?_)
          have hbd : Below w4.heap.size w4 w4.drew := (Below.refl _ _).drew
          obtain ⟨w5, hw5⟩ : ∃ w5, w5 = w4.drew := ⟨_, rfl⟩
          rw [← hw5] at hbd hHeld ⊢
          clear hw5
          have X5 := Lib.hid (X4.out.step hbd)
          have Z5 := Lib.hid (Z4.out.step hbd)
          have B5h := Lib.hid (held_trans B4.out hbd)
          have SZ5 := Lib.hid (Nat.lt_of_lt_of_le SZ4.out hbd.size)
          have HRS := Lib.hid (HRT4.out.below hbd)
          have n05 := keepcell hbd n0
          have n15 := keepcell hbd n1
          clear hbd n0 n1
          refine wpAnyH_takesJ (i := 0) (v := (.agg #[.slice A0 nt ct, .int .i64 r.size, .slice (some ⟨bR, oR, none⟩) nr cr, .slice (some ⟨bS, oS, none⟩) ns cs, .int .u64 (r.on : Nat)])) (some 66) rfl rfl (by kernel_rfl) (by kernel_rfl) (by kernel_rfl) (fun _ _ _ h => h) (Or.inl ⟨by rfl, (by intro W9 hSw; (try dsimp only at hSw); go_simp; first | done | with_reducible rfl)⟩) (by assumption) ?_
          simp only [Act.put, List.setIfInBounds_toArray]; try simp only [List.set_cons_zero, List.set_cons_succ]
          refine wpAnyH_takesJ (i := 1) (v := (.int .i64 (k : Nat))) (some 67) rfl rfl (by kernel_rfl) (by kernel_rfl) (by kernel_rfl) (fun _ _ _ h => h) (Or.inl ⟨by rfl, (by intro W9 hSw; (try dsimp only at hSw); go_simp; first | done | with_reducible rfl)⟩) (by assumption) ?_
          simp only [Act.put, List.setIfInBounds_toArray]; try simp only [List.set_cons_zero, List.set_cons_succ]
          refine wpAnyH_takesJ (i := 2) (v := (.pointer (some ⟨w3.heap.size, 1, none⟩))) (some 68) rfl rfl (by kernel_rfl) (by kernel_rfl) (by kernel_rfl) (fun _ _ _ h => h) (Or.inl ⟨by rfl, (by intro W9 hSw; (try dsimp only at hSw); go_simp; first | done | with_reducible rfl)⟩) (by assumption) ?_
          simp only [Act.put, List.setIfInBounds_toArray]; try simp only [List.set_cons_zero, List.set_cons_succ]
          refine wpAnyH_takesJ (i := 3) (v := (.slice AT na ca)) (some 69) rfl rfl (by kernel_rfl) (by kernel_rfl) (by kernel_rfl) (fun _ _ _ h => h) (Or.inl ⟨by rfl, (by intro W9 hSw; (try dsimp only at hSw); go_simp; first | done | with_reducible rfl)⟩) (by assumption) ?_
          simp only [Act.put, List.setIfInBounds_toArray]; try simp only [List.set_cons_zero, List.set_cons_succ]
          refine wpAnyH_takesJ (i := 4) (v := (.agg #[.int .i64 0, .slice AT na ca])) (some 70) rfl rfl (by kernel_rfl) (by kernel_rfl) (by kernel_rfl) (fun _ _ _ h => h) (Or.inl ⟨by rfl, (by intro W9 hSw; (try dsimp only at hSw); go_simp; first | done | with_reducible rfl)⟩) (by assumption) ?_
          simp only [Act.put, List.setIfInBounds_toArray]; try simp only [List.set_cons_zero, List.set_cons_succ]
          refine wpAnyH_takesJ (i := 6) (v := (.pointer (some ⟨w3.heap.size, 0, none⟩))) (some 72) rfl rfl (by kernel_rfl) (by kernel_rfl) (by kernel_rfl) (fun _ _ _ h => h) (Or.inl ⟨by rfl, (by intro W9 hSw; (try dsimp only at hSw); go_simp; first | done | with_reducible rfl)⟩) (by assumption) ?_
          simp only [Act.put, List.setIfInBounds_toArray]; try simp only [List.set_cons_zero, List.set_cons_succ]
          refine wpAnyH_takesJ (i := 7) (v := (.int .i64 x)) (some 73) rfl rfl (by kernel_rfl) (by kernel_rfl) (by kernel_rfl) (fun _ _ _ h => h) (Or.inl ⟨by rfl, (by intro W9 hSw; (try dsimp only at hSw); go_simp; first | done | with_reducible rfl)⟩) (by assumption) ?_
          simp only [Act.put, List.setIfInBounds_toArray]; try simp only [List.set_cons_zero, List.set_cons_succ]
          refine wpAnyH_ready (rs := [5]) (by kernel_rfl) (by simp) ?_
          refine AllReadyH.cons rfl (fun K hK => ?_) AllReadyH.nil
          go_simp
          go_at_call 35
          have hrw := jringed_any ⟨A0, nt, ct, some ⟨bR, oR, none⟩, nr, cr, some ⟨bS, oS, none⟩, ns, cs⟩ r k 0 t AT na ca w5 (H.out.below B5h.out) (by simp only; omega) (by simp only; omega) HRS.out HFT.out
          obtain ⟨q, hq⟩ : ∃ q, q = Jp.ringed r k (0, t) := ⟨_, rfl⟩
          rw [← hq] at hrw
          have HP := Lib.hid (show Jp.loc r k tick = (q, x, 1) by rw [HP0.out, hq])
          clear hq HRS
          refine hrw.mono ?_
          rintro e w6 ⟨⟨T6, nt6, ct6, R6, nr6, cr6, S6, ns6, cs6⟩, rfl, hm6, hb6⟩
          have n06 := keepcell hb6 n05
          have n16 := keepcell hb6 n15
          have X6 := Lib.hid (X5.out.step hb6)
          have Z6 := Lib.hid (Z5.out.step hb6)
          have B6 := Lib.hid (held_trans B5h.out hb6)
          have M6 := Lib.hid hm6
          unfold jv
          simp only
          refine hK.out _ _ (by (exact ⟨⟨X6.out.c0, X6.out.c1, X6.out.c2, X6.out.c3, X6.out.c4⟩, n06, n16⟩)) (fun hHeld => ?_)
          clear hK K hm6
          try dsimp only
          have y0 := Z6.out.b5.c0
          have y1 := Z6.out.b5.c1
          have y2 := Z6.out.b5.c2
          have y3 := Z6.out.b5.c3
          have y4 := Z6.out.b5.c4
          have g0 := Z6.out.f0
          have g1 := Z6.out.f1
          have g2 := Z6.out.f2
          have g3 := Z6.out.f3
          have g4 := Z6.out.f4
          clear hb6 hrw
          refine wpAnyH_ready (rs := [8]) (by kernel_rfl) (by simp) ?_
          refine AllReadyH.cons rfl (fun K hK => ?_) AllReadyH.nil
          go_simp
          have X7 := (((((X6.out.far (p := ⟨w.heap.size + 1, 0, none⟩) (u := .slice T6 nt6 ct6) (by simp)).far (p := ⟨w.heap.size + 1, 1, none⟩) (u := .int .i64 q.size) (by simp)).far (p := ⟨w.heap.size + 1, 2, none⟩) (u := .slice R6 nr6 cr6) (by simp)).far (p := ⟨w.heap.size + 1, 3, none⟩) (u := .slice S6 ns6 cs6) (by simp)).far (p := ⟨w.heap.size + 1, 4, none⟩) (u := .int .u64 (q.on : Nat)) (by simp))
          have hbN : w3.heap.size ≠ w.heap.size + 1 := by have := SZ3.out; omega
          refine hK.out _ _ (by (exact ⟨⟨X7.c0, X7.c1, X7.c2, X7.c3, X7.c4⟩, far5 hbN n06, far5 hbN n16⟩)) (fun hHeld => ?_)
          clear hK K y0 y1 y2 y3 y4 g0 g1 g2 g3 g4
          try dsimp only
          refine wpAnyH_takesJ (i := 9) (v := (.int .i64 x)) (some 7) rfl rfl (by kernel_rfl) (by kernel_rfl) (by kernel_rfl) (fun _ _ _ h => h) (Or.inl ⟨by rfl, (by intro W9 hSw; (try dsimp only at hSw); go_simp; first | done | with_reducible rfl)⟩) (by assumption) ?_
          simp only [Act.put, List.setIfInBounds_toArray]; try simp only [List.set_cons_zero, List.set_cons_succ]
          refine wpAnyH_takesJ (i := 10) (v := (.int .i64 1)) (some 8) rfl rfl (by kernel_rfl) (by kernel_rfl) (by kernel_rfl) (fun _ _ _ h => h) (Or.inl ⟨by rfl, (by intro W9 hSw; (try dsimp only at hSw); go_simp; first | done | with_reducible rfl)⟩) (by assumption) ?_
          simp only [Act.put, List.setIfInBounds_toArray]; try simp only [List.set_cons_zero, List.set_cons_succ]
          refine wpAnyH_done (by kernel_rfl) ?_ _
          obtain ⟨k0, k1, k2, k3, k4⟩ := put5_told Z6.out (.slice T6 nt6 ct6) (.int .i64 q.size) (.slice R6 nr6 cr6) (.slice S6 ns6 cs6) (.int .u64 (q.on : Nat))
          have B7 := below_put (b := w.heap.size + 1) B6.out (by omega) (.slice T6 nt6 ct6) (.int .i64 q.size) (.slice R6 nr6 cr6) (.slice S6 ns6 cs6) (.int .u64 (q.on : Nat))
          have hX : ¬ More F w5 (w.heap.size + 1) := fun h => by
            rcases h with h | h
            · have := HFW.out _ h; omega
            · have := SZ5.out; omega
          have M7 := (M6.out.put hX (.slice T6 nt6 ct6) (.int .i64 q.size) (.slice R6 nr6 cr6) (.slice S6 ns6 cs6) (.int .u64 (q.on : Nat))).mono (G := More F w) (fun b h => by
            rcases h with h | h
            · exact .inl h
            · exact .inr (by have := SZ5.out; omega))
          have HF := Lib.hid (TellJG.is (F := F) (HP.out) M7 B7)
          unfold put5 at k0 k1 k2 k3 k4
          clear M7 B7 hX
          go_wp2_with fail
          refine bodyPost_ret ?_ rfl HF.out
          simp [results, Tryd.results12, go_sem, k0, k1, k2, k3, k4, jv]
end Go.Proofs.YtinmmcikhjacoaaDoor

