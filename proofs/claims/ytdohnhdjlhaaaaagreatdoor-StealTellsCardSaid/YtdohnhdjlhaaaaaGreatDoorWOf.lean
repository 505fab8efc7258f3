/- steal.ofRing and steal.ofRow, by their contracts. -/
import Derived.Test.YtdohnhdjlhaaaaaGreatDoorM11
import Derived.Test.YtdohnhdjlhaaaaaGreatDoorM1
import Derived.Test.YtdohnhdjlhaaaaaGreatDoorM3
namespace Go.Proofs.YtdohnhdjlhaaaaaGreatDoor
open Go.RowKit
set_option linter.unusedVariables false

theorem Row.tight {w : World} {A : Option Addr} {n c : Nat} {zs : List Int} (h : Row w A n c zs) : Row w A n n zs := ⟨h.len, Nat.le_refl _, Nat.le_trans h.cap h.most, fun e => by have := h.nil e; have := h.cap; omega, h.row⟩
/-- Which blocks a steal leaves. -/
def Stays (g gS : Nat) (e0 : El) (b : Nat) : Prop := b ≠ g ∧ b ≠ gS ∧ (Value.slice e0.A e0.n e0.c).ownBlock ≠ some b
set_option maxRecDepth 100000 in
set_option maxHeartbeats 2000000 in
theorem stealRing_any {F : Nat → Prop} {B0 q k j g gS nt ct nr cr ns cs : Nat} {T : Option Addr} {r : Jp.Rn} {es ls : List El} {e0 : El} {x y : Int} {l t : List Int} (w w0 : World) (h : Ready B0 q ⟨T, nt, ct, some ⟨g, 0, none⟩, nr, cr, some ⟨gS, 0, none⟩, ns, cs⟩ r es ls e0 w) (hk : k < nr) (hj : j < nr) (h0 : w0.heap.size ≤ B0)
    (hx : r.rings[j]? = some (x, l)) (hl : l.length ≤ 400) (hb : (Rp.half (x, l)).2 = y :: t) (hsh : ((Rp.half (x, l)).2.length : Int) < 1 + r.size) (hsz : r.size ≤ 16) (hn : Dp.node r.tree k = (q : Nat)) (hq : q < ns) (hen : e0.l.length ≤ 400) :
    Calls Tryz.prog 29 #[jv ⟨T, nt, ct, some ⟨g, 0, none⟩, nr, cr, some ⟨gS, 0, none⟩, ns, cs⟩ r, .int .i64 (k : Nat), .int .i64 (j : Nat)] w fun e w' =>
      e = .returned (.int .i64 y) ∧ Kp (Stays g gS e0) B0 w w' ∧ RM (More F w0) w' ⟨T, nt, ct, some ⟨g, 0, none⟩, nr, cr, some ⟨gS, 0, none⟩, ns, cs⟩ (Jp.ringed (Jp.ringed r j (Rp.half (x, l)).1) k (0, t)) := by
  have H := Lib.hid h
  have hei : (es.map elG)[j]? = some (x, l) := by rw [h.is]; exact hx
  rw [List.getElem?_map] at hei
  obtain ⟨e, he, hee⟩ : ∃ e, es[j]? = some e ∧ elG e = (x, l) := by
    cases he : es[j]? with
    | none => rw [he] at hei; cases hei
    | some e => rw [he] at hei; injection hei with hei; exact ⟨e, rfl, hei⟩
  obtain ⟨ex, el, A, n, c⟩ := e
  injection hee with e1 e2
  subst e1 e2
  obtain ⟨xr, _⟩ := own_slice csG_len (by decide) h.own
  obtain ⟨b, off, eb, _, hcs⟩ := xr.cell j _ he
  injection eb with eb
  injection eb with eb1 eb2 _
  subst eb1 eb2
  have p0 := hcs 0 _ rfl
  have p1 := hcs 1 _ rfl
  rw [Nat.zero_add] at p0 p1
  rw [Nat.add_zero] at p0
  have hrow := xr.rows _ (List.mem_of_getElem? he)
  simp only at hrow hx hl hb hsh ⊢
  have hlen := hrow.len
  have i0 : (0 : Int) ≤ (j : Int) := by omega
  have i1 : (j : Int) < (nr : Int) := by omega
  have i2 : (0 : Int) ≤ (k : Int) := by omega
  have i3 : (k : Int) < (nr : Int) := by omega
  obtain ⟨V, hV, hX, hB⟩ := B5.start w (.slice T nt ct) (.int .i64 r.size) (.slice (some ⟨g, 0, none⟩) nr cr) (.slice (some ⟨gS, 0, none⟩) ns cs) (.int .u64 (r.on : Nat)) 33
  have E := Lib.hid hV
  have hha := half_any ex A n c el V (hrow.below hB) (by omega)
  obtain ⟨⟨⟨xh, lh⟩, bt⟩, hh⟩ : ∃ z, z = Rp.half (ex, el) := ⟨_, rfl⟩
  rw [← hh] at hha hb hsh ⊢
  simp only at hha hb hsh ⊢
  subst hb
  have HA := Lib.hid hha
  have q0 := keepcell hB p0
  have q1 := keepcell hB p1
  have HS := Lib.hid hsh
  have HN := Lib.hid hn
  have HZ := Lib.hid hsz
  have X0 := Lib.hid hX
  have B0h := Lib.hid hB
  have d2 := hX.c2
  clear h hei he hcs xr hrow hV hX hB hsh hn hsz hha hh
  unfold jv
  go_enter Tryz.func29, Tryz.ntmps29
  go_wp2_with (rw [← E.out])
  refine HA.out.mono ?_
  rintro e w1 ⟨A1, n1, c1, Bb, m, cb, rfl, hr1, hf1, hr2, hf2, hb1⟩
  have hm := hr2.len
  rw [List.length_cons] at hm
  simp only at hr1 hm
  have hb2 := below_new w1 (.cells #[.int .i64 xh, .slice A1 n1 c1] 54)
  obtain ⟨w2, hw2⟩ : ∃ w2, w2 = w1.alloc (.cells #[.int .i64 xh, .slice A1 n1 c1] 54) := ⟨_, rfl⟩
  have y0 : w2.cell? ⟨w1.heap.size, 0, none⟩ = some (.int .i64 xh) := by rw [hw2, World.cell?_alloc_at _ _ _ _ rfl]; rfl
  have y1 : w2.cell? ⟨w1.heap.size, 1, none⟩ = some (.slice A1 n1 c1) := by rw [hw2, World.cell?_alloc_at _ _ _ _ rfl]; rfl
  rw [← hw2] at hb2
  have E2 := Lib.hid hw2
  have hs1 := hb1.size
  have B1h := Lib.hid (held_trans B0h.out hb1)
  have B2h := Lib.hid (held_trans B1h.out hb2)
  have X2 := Lib.hid (X0.out.step (hb1.trans (hb2.mono hb1.size)))
  have R1 := Lib.hid (hr1.below hb2)
  have R2 := Lib.hid (hr2.below hb2)
  have F1 := Lib.hid hf1
  have F2 := Lib.hid hf2
  have hms : (m : Int) < 1 + r.size := by have := HS.out; rw [List.length_cons] at this; omega
  have s0 : IntKind.i64.wrap (1 + r.size) = 1 + r.size := by have := HZ.out; rw [IntWalk.i64_in _ (by omega)]
  have s1 : ¬ (1 + r.size < (m : Int)) := by omega
  have s2 : min (m : Int) (1 + r.size) = (m : Int) := by omega
  have d0 := X2.out.c0
  have d1 := X2.out.c1
  have ND := Lib.hid (node_any T nt ct r.tree (k : Int) w2 (Lib.hid H.out.tlen) H.out.tmax (Lib.hid H.out.fit) ((H.out.step B2h.out).tree))
  clear hr1 hr2 hf1 hf2 hb1 hb2 hw2 HA q0 q1 d2
  go_wp2_with (rw [← E2.out])
  refine ND.out.mono ?_
  rintro e w3 ⟨rfl, hb3⟩
  rw [HN.out]
  have B3h := Lib.hid (held_trans B2h.out hb3)
  have X3 := Lib.hid (X2.out.step hb3)
  have H3 := Lib.hid (H.out.step B3h.out)
  have fz0 : w3.frozen? ⟨g, j * 2, none⟩ = false := H3.out.own.own.frozenAt (j * 2)
  have fz1 : w3.frozen? ⟨g, j * 2 + 1, none⟩ = false := H3.out.own.own.frozenAt (j * 2 + 1)
  have u0 := keepcell (B3h.out) p0
  have u1 := keepcell (B3h.out) p1
  have z0 := keepcell hb3 y0
  have z1 := keepcell hb3 y1
  have R1b := Lib.hid (R1.out.below hb3)
  have R2b := Lib.hid (R2.out.below hb3)
  have d2 := X3.out.c2
  have hgB := (H.out.own.own.lt g rfl).2
  have hg0 := (H.out.own.own.lt g rfl).1
  have hVs := B0h.out.size
  have HR := Lib.hid (H3.out.ring hj (x := (xh, lh)) R1b.out F1.out (Nat.le_trans H.out.up hVs) (by omega) (fun j hj => by have := (H.out.ours.lt j hj).2; omega) (fun j hj => by have := (H.out.rows.own.lt j hj).2; omega))
  clear hb3 ND p0 p1 y0 y1 d0 d1 R1 R2 s0 s1 s2
  go_wp2_with fail
  obtain ⟨U1, hU1⟩ : ∃ U1, U1 = (w3.setCell ⟨g, j * 2, none⟩ (.int .i64 xh)).setCell ⟨g, j * 2 + 1, none⟩ (.slice A1 n1 c1) := ⟨_, rfl⟩
  have hKP := ((Kp.of (P := Stays g gS e0) (B0 := B0) B3h.out Kp.refl).set (j := j * 2) (u := .int .i64 xh) hg0 (fun h => h.1 rfl)).set (j := j * 2 + 1) (u := .slice A1 n1 c1) hg0 (fun h => h.1 rfl)
  have hX5 : B5 U1 w.heap.size (.slice T nt ct) (.int .i64 r.size) (.slice (some ⟨g, 0, none⟩) nr cr) (.slice (some ⟨gS, 0, none⟩) ns cs) (.int .u64 (r.on : Nat)) := by rw [hU1]; exact (X3.out.far (by simp only; omega)).far (by simp only; omega)
  have hf2 := F2.out
  have hrb : Row U1 Bb m cb (y :: t) := by rw [hU1]; exact row_farj (row_farj R2b.out (fun _ ad hA => by have := hf2 ad hA; omega)) (fun _ ad hA => by have := hf2 ad hA; omega)
  have hRD := HR.out
  rw [← hU1] at hKP hRD ⊢
  have KP := Lib.hid hKP
  have X5 := Lib.hid hX5
  have RB := Lib.hid hrb
  have RD := Lib.hid hRD
  obtain ⟨e5, he5⟩ : ∃ e, (es.set j ⟨xh, lh, A1, n1, c1⟩)[k]? = some e := ⟨_, List.getElem?_eq_getElem (by rw [List.length_set, H.out.own.len csG_len (by decide)]; exact hk)⟩
  obtain ⟨xr, _⟩ := own_slice csG_len (by decide) hRD.own
  obtain ⟨b, off, eb, _, hcs⟩ := xr.cell k _ he5
  injection eb with eb
  injection eb with eb1 eb2 _
  subst eb1 eb2
  have p0 := hcs 0 _ rfl
  have p1 := hcs 1 _ rfl
  rw [Nat.zero_add] at p0 p1
  rw [Nat.add_zero] at p0
  have fz0 : U1.frozen? ⟨g, k * 2, none⟩ = false := hRD.own.own.frozenAt (k * 2)
  have fz1 : U1.frozen? ⟨g, k * 2 + 1, none⟩ = false := hRD.own.own.frozenAt (k * 2 + 1)
  obtain ⟨bb, ob, rfl, hbb, hbc⟩ := hrb.cells (by omega)
  have b0 := hbc 0 y rfl
  rw [Nat.add_zero] at b0
  have d2 := hX5.c2
  have m1 : (1 : Int) ≤ (m : Int) := by omega
  have m2 : (m : Int) ≤ (cb : Int) := by have := hrb.cap; omega
  clear hU1 hKP hX5 hrb hRD HR he5 xr hcs hbc z0 z1 u0 u1 E E2 X0 X2 X3 R1b R2b H3
  by_cases hm1 : m = 1
  · subst hm1
    have m3 : (1 : Int) ≤ (cb : Int) := by omega
    have m4 : ¬ ((cb : Int) < 1) := by omega
    refine wp_region_held_drew (S := fun w' => w'.cell? ⟨w.heap.size, 2, none⟩ = some (.slice (some ⟨g, 0, none⟩) nr cr)) (by kernel_rfl) d2 (fun hHeld => ?_)
    refine wpAnyH_takesJ (i := 0) (v := (.pointer (some ⟨w.heap.size, 2, none⟩))) (some 35) rfl rfl (by kernel_rfl) (by kernel_rfl) (by kernel_rfl) (fun _ _ _ h => h) (Or.inl ⟨by rfl, (by intro W9 hSw; (try dsimp only at hSw); go_simp; first | done | with_reducible rfl)⟩) (by assumption) ?_
    simp only [Act.put, List.setIfInBounds_toArray]; try simp only [List.set_cons_zero, List.set_cons_succ]
    refine wpAnyH_takesJ (i := 1) (v := (.slice (some ⟨g, 0, none⟩) nr cr)) (some 36) rfl rfl (by kernel_rfl) (by kernel_rfl) (by kernel_rfl) (fun _ _ _ h => h) (Or.inl ⟨by rfl, (by intro W9 hSw; (try dsimp only at hSw); go_simp; first | done | with_reducible rfl)⟩) (by assumption) ?_
    simp only [Act.put, List.setIfInBounds_toArray]; try simp only [List.set_cons_zero, List.set_cons_succ]
    refine wpAnyH_takesJ (i := 2) (v := (.int .i64 (k : Nat))) (some 37) rfl rfl (by kernel_rfl) (by kernel_rfl) (by kernel_rfl) (fun _ _ _ h => h) (Or.inl ⟨by rfl, (by intro W9 hSw; (try dsimp only at hSw); go_simp; first | done | with_reducible rfl)⟩) (by assumption) ?_
    simp only [Act.put, List.setIfInBounds_toArray]; try simp only [List.set_cons_zero, List.set_cons_succ]
    refine wpAnyH_takesJ (i := 3) (v := (.slice (some ⟨bb, ob, none⟩) 1 cb)) (some 38) rfl rfl (by kernel_rfl) (by kernel_rfl) (by kernel_rfl) (fun _ _ _ h => h) (Or.inl ⟨by rfl, (by intro W9 hSw; (try dsimp only at hSw); go_simp; first | done | with_reducible rfl)⟩) (by assumption) ?_
    simp only [Act.put, List.setIfInBounds_toArray]; try simp only [List.set_cons_zero, List.set_cons_succ]
    refine wpAnyH_takesJ (i := 4) (v := (.int .i64 1)) (some 39) rfl rfl (by kernel_rfl) (by kernel_rfl) (by kernel_rfl) (fun _ _ _ h => h) (Or.inl ⟨by rfl, (by intro W9 hSw; (try dsimp only at hSw); go_simp; first | done | with_reducible rfl)⟩) (by assumption) ?_
    simp only [Act.put, List.setIfInBounds_toArray]; try simp only [List.set_cons_zero, List.set_cons_succ]
    refine wpAnyH_takesJ (i := 5) (v := (.int .i64 1)) (some 40) rfl rfl (by kernel_rfl) (by kernel_rfl) (by kernel_rfl) (fun _ _ _ h => h) (Or.inl ⟨by rfl, (by intro W9 hSw; (try dsimp only at hSw); go_simp; first | done | with_reducible rfl)⟩) (by assumption) ?_
    simp only [Act.put, List.setIfInBounds_toArray]; try simp only [List.set_cons_zero, List.set_cons_succ]
    refine wpAnyH_takesJ (i := 6) (v := (.slice (some ⟨bb, ob, none⟩) 0 0)) (some 41) rfl rfl (by kernel_rfl) (by kernel_rfl) (by kernel_rfl) (fun _ _ _ h => h) (Or.inl ⟨by rfl, (by intro W9 hSw; (try dsimp only at hSw); go_simp; first | done | with_reducible rfl)⟩) (by assumption) ?_
    simp only [Act.put, List.setIfInBounds_toArray]; try simp only [List.set_cons_zero, List.set_cons_succ]
    refine wpAnyH_takesJ (i := 7) (v := (.agg #[.int .i64 0, .slice (some ⟨bb, ob, none⟩) 0 0])) (some 42) rfl rfl (by kernel_rfl) (by kernel_rfl) (by kernel_rfl) (fun _ _ _ h => h) (Or.inl ⟨by rfl, (by intro W9 hSw; (try dsimp only at hSw); go_simp; first | done | with_reducible rfl)⟩) (by assumption) ?_
    simp only [Act.put, List.setIfInBounds_toArray]; try simp only [List.set_cons_zero, List.set_cons_succ]
    refine wpAnyH_takesJ (i := 8) (v := (.pointer (some ⟨g, k * 2, none⟩))) (some 43) rfl rfl (by kernel_rfl) (by kernel_rfl) (by kernel_rfl) (fun _ _ _ h => h) (Or.inl ⟨by rfl, (by intro W9 hSw; (try dsimp only at hSw); go_simp; first | done | with_reducible rfl)⟩) (by assumption) ?_
    simp only [Act.put, List.setIfInBounds_toArray]; try simp only [List.set_cons_zero, List.set_cons_succ]
    refine wpAnyH_ready (rs := [9]) (by kernel_rfl) (by simp) ?_
    refine AllReadyH.cons rfl (fun K hK => ?_) AllReadyH.nil
    go_simp
    obtain rfl : t = [] := List.length_eq_zero_iff.1 (by omega)
    have hr7 : Row U1.drew (some ⟨bb, ob, none⟩) 0 0 [] := ⟨rfl, Nat.le_refl _, by omega, (fun e => by cases e), (fun i z hi => by simp at hi)⟩
    have hgX : w.heap.size ≠ g := by omega
    refine hK.out _ _ (by exact farcell hgX (farcell hgX d2)) (fun hHeld => ?_)
    clear hK K
    try dsimp only
    refine wpAnyH_done (by kernel_rfl) ?_ _
    obtain ⟨U2, hU2, hU2d⟩ : ∃ U2, U2 = (U1.drew.setCell ⟨g, k * 2, none⟩ (.int .i64 0)).setCell ⟨g, k * 2 + 1, none⟩ (.slice (some ⟨bb, ob, none⟩) 0 0) ∧ U2 = ((U1.setCell ⟨g, k * 2, none⟩ (.int .i64 0)).setCell ⟨g, k * 2 + 1, none⟩ (.slice (some ⟨bb, ob, none⟩) 0 0)).drew := ⟨_, rfl, rfl⟩
    have hdr := (Below.refl U1.heap.size U1).drew
    have hup := RD.out.up
    have hUs := KP.out.size
    have hRD2 := (RD.out.step hdr).ring (p := k) hk (x := (0, [])) hr7 (B := V.heap.size) (fun ad e => by injection e with e; subst e; exact F2.out ⟨bb, ob, none⟩ rfl) (Nat.le_trans H.out.up hVs) (by omega) (fun j hj => by have := (H.out.ours.lt j hj).2; omega) (fun j hj => by have := (H.out.rows.own.lt j hj).2; omega)
    have hKP2 := ((KP.out.drew).set (j := k * 2) (u := .int .i64 0) hg0 (fun h => h.1 rfl)).set (j := k * 2 + 1) (u := .slice (some ⟨bb, ob, none⟩) 0 0) hg0 (fun h => h.1 rfl)
    have hX6 : B5 U2 w.heap.size (.slice T nt ct) (.int .i64 r.size) (.slice (some ⟨g, 0, none⟩) nr cr) (.slice (some ⟨gS, 0, none⟩) ns cs) (.int .u64 (r.on : Nat)) := by rw [hU2]; exact (X5.out.drew.far (by simp only; omega)).far (by simp only; omega)
    have hbg : bb ≠ g := by have := F2.out ⟨bb, ob, none⟩ rfl; simp only at this; omega
    have hrb2 : Row U2 (some ⟨bb, ob, none⟩) 1 cb (y :: []) := by rw [hU2]; exact row_farj (row_farj RB.out.drew (fun _ ad hA => by injection hA with hA; subst hA; exact hbg)) (fun _ ad hA => by injection hA with hA; subst hA; exact hbg)
    rw [← hU2] at hRD2 hKP2
    rw [← hU2d]
    obtain ⟨xl, _⟩ := own_slice csL_len (by decide) hRD2.rows
    obtain ⟨b, off, eb, _, hcs⟩ := xl.cell q _ hRD2.at'
    injection eb with eb
    injection eb with eb1 eb2 _
    subst eb1 eb2
    have w0' := hcs 0 _ rfl
    rw [Nat.zero_add, Nat.mul_one, Nat.add_zero] at w0'
    have fzq : U2.frozen? ⟨gS, q, none⟩ = false := hRD2.rows.own.frozenAt q
    have hel := (xl.rows _ (List.mem_of_getElem? hRD2.at')).len
    have b0' : U2.cell? ⟨bb, ob, none⟩ = some (.int .i64 y) := by rw [hU2]; exact farcell hbg (farcell hbg b0)
    have d3 := hX6.c3
    have i4 : (0 : Int) ≤ (q : Int) := by omega
    have i5 : (q : Int) < (ns : Int) := by omega
    have KP2 := Lib.hid hKP2
    have X6 := Lib.hid hX6
    have RD2 := Lib.hid hRD2
    have RB2 := Lib.hid hrb2
    clear hU2 hU2d hdr hup hUs hRD2 hKP2 hX6 hrb2 xl hcs b0 d2 p0 p1 fz0 fz1 RD KP X5 RB hr7
    go_wp2_with fail
    refine wp_region_held_drew (S := fun w' => w'.cell? ⟨w.heap.size, 3, none⟩ = some (.slice (some ⟨gS, 0, none⟩) ns cs)) (by kernel_rfl) d3 (fun hHeld => ?_)
    obtain ⟨x1, hx1⟩ : ∃ x1, x1 = U2.drew := ⟨_, rfl⟩
    have RD3 := Lib.hid (RD2.out.step (Below.refl U2.heap.size U2).drew)
    have X3d := Lib.hid X6.out.drew
    have HBB := Lib.hid (show w.heap.size ≤ bb from by have := F2.out ⟨bb, ob, none⟩ rfl; simp only at this; omega)
    have w0'' : x1.cell? ⟨gS, q, none⟩ = some (.slice e0.A e0.n e0.c) := by rw [hx1]; exact w0'
    have b0' : x1.cell? ⟨bb, ob, none⟩ = some (.int .i64 y) := by rw [hx1]; exact b0'
    have d3 : x1.cell? ⟨w.heap.size, 3, none⟩ = some (.slice (some ⟨gS, 0, none⟩) ns cs) := by rw [hx1]; exact d3
    have KP2d := Lib.hid KP2.out.drew
    rw [← hx1] at hHeld RD3 X3d KP2d ⊢
    clear hx1
    refine wpAnyH_takesJ (i := 0) (v := (.pointer (some ⟨w.heap.size, 3, none⟩))) (some 44) rfl rfl (by kernel_rfl) (by kernel_rfl) (by kernel_rfl) (fun _ _ _ h => h) (Or.inl ⟨by rfl, (by intro W9 hSw; (try dsimp only at hSw); go_simp; first | done | with_reducible rfl)⟩) (by assumption) ?_
    simp only [Act.put, List.setIfInBounds_toArray]; try simp only [List.set_cons_zero, List.set_cons_succ]
    refine wpAnyH_takesJ (i := 1) (v := (.slice (some ⟨gS, 0, none⟩) ns cs)) (some 45) rfl rfl (by kernel_rfl) (by kernel_rfl) (by kernel_rfl) (fun _ _ _ h => h) (Or.inl ⟨by rfl, (by intro W9 hSw; (try dsimp only at hSw); go_simp; first | done | with_reducible rfl)⟩) (by assumption) ?_
    simp only [Act.put, List.setIfInBounds_toArray]; try simp only [List.set_cons_zero, List.set_cons_succ]
    refine wpAnyH_takesJ (i := 2) (v := (.int .i64 (q : Nat))) (some 46) rfl rfl (by kernel_rfl) (by kernel_rfl) (by kernel_rfl) (fun _ _ _ h => h) (Or.inl ⟨by rfl, (by intro W9 hSw; (try dsimp only at hSw); go_simp; first | done | with_reducible rfl)⟩) (by assumption) ?_
    simp only [Act.put, List.setIfInBounds_toArray]; try simp only [List.set_cons_zero, List.set_cons_succ]
    refine wpAnyH_takesJ (i := 3) (v := (.pointer (some ⟨w.heap.size, 3, none⟩))) (some 47) rfl rfl (by kernel_rfl) (by kernel_rfl) (by kernel_rfl) (fun _ _ _ h => h) (Or.inl ⟨by rfl, (by intro W9 hSw; (try dsimp only at hSw); go_simp; first | done | with_reducible rfl)⟩) (by assumption) ?_
    simp only [Act.put, List.setIfInBounds_toArray]; try simp only [List.set_cons_zero, List.set_cons_succ]
    refine wpAnyH_takesJ (i := 4) (v := (.slice (some ⟨gS, 0, none⟩) ns cs)) (some 48) rfl rfl (by kernel_rfl) (by kernel_rfl) (by kernel_rfl) (fun _ _ _ h => h) (Or.inl ⟨by rfl, (by intro W9 hSw; (try dsimp only at hSw); go_simp; first | done | with_reducible rfl)⟩) (by assumption) ?_
    simp only [Act.put, List.setIfInBounds_toArray]; try simp only [List.set_cons_zero, List.set_cons_succ]
    refine wpAnyH_takesJ (i := 5) (v := (.int .i64 (q : Nat))) (some 49) rfl rfl (by kernel_rfl) (by kernel_rfl) (by kernel_rfl) (fun _ _ _ h => h) (Or.inl ⟨by rfl, (by intro W9 hSw; (try dsimp only at hSw); go_simp; first | done | with_reducible rfl)⟩) (by assumption) ?_
    simp only [Act.put, List.setIfInBounds_toArray]; try simp only [List.set_cons_zero, List.set_cons_succ]
    refine wpAnyH_takesJ (i := 6) (v := (.pointer (some ⟨gS, q, none⟩))) (some 50) rfl rfl (by kernel_rfl) (by kernel_rfl) (by kernel_rfl) (fun _ _ _ h => h) (Or.inl ⟨by rfl, (by intro W9 hSw; (try dsimp only at hSw); go_simp; first | done | with_reducible rfl)⟩) (by assumption) ?_
    simp only [Act.put, List.setIfInBounds_toArray]; try simp only [List.set_cons_zero, List.set_cons_succ]
    refine wpAnyH_takesJ (i := 8) (v := (.slice (some ⟨bb, ob, none⟩) 1 cb)) (some 52) rfl rfl (by kernel_rfl) (by kernel_rfl) (by kernel_rfl) (fun _ _ _ h => h) (Or.inl ⟨by rfl, (by intro W9 hSw; (try dsimp only at hSw); go_simp; first | done | with_reducible rfl)⟩) (by assumption) ?_
    simp only [Act.put, List.setIfInBounds_toArray]; try simp only [List.set_cons_zero, List.set_cons_succ]
    refine wpAnyH_takesJ (i := 9) (v := (.int .i64 1)) (some 53) rfl rfl (by kernel_rfl) (by kernel_rfl) (by kernel_rfl) (fun _ _ _ h => h) (Or.inl ⟨by rfl, (by intro W9 hSw; (try dsimp only at hSw); go_simp; first | done | with_reducible rfl)⟩) (by assumption) ?_
    simp only [Act.put, List.setIfInBounds_toArray]; try simp only [List.set_cons_zero, List.set_cons_succ]
    have hcb := RB2.out.most
    have hcc := RB2.out.cap
    by_cases hcm : cb = 1
    · subst hcm
      refine wpAnyH_takesJ (i := 10) (v := (.slice (some ⟨bb, ob, none⟩) 0 0)) (some 54) rfl rfl (by kernel_rfl) (by kernel_rfl) (by kernel_rfl) (fun _ _ _ h => h) (Or.inl ⟨by rfl, (by intro W9 hSw; (try dsimp only at hSw); go_simp; first | done | with_reducible rfl)⟩) (by assumption) ?_
      simp only [Act.put, List.setIfInBounds_toArray]; try simp only [List.set_cons_zero, List.set_cons_succ]
      refine wpAnyH_ready (rs := [7]) (by kernel_rfl) (by simp) ?_
      refine AllReadyH.cons rfl (fun K hK => ?_) AllReadyH.nil
      go_simp
      refine hK.out _ _ (by exact d3) (fun hHeld => ?_)
      clear hK K
      try dsimp only
      refine wpAnyH_ready (rs := [11]) (by kernel_rfl) (by simp) ?_
      refine AllReadyH.cons rfl (fun K hK => ?_) AllReadyH.nil
      refine step_append_rowat (by rfl) (.tmp 51) (.tmp 54) (by rfl) B0 (.slice e0.A e0.n e0.c) e0.n e0.l (by rfl) RD3.out.ours (some ⟨bb, ob, none⟩) 0 0 [] (by rfl) ⟨rfl, Nat.zero_le _, by omega, (fun e => by cases e), (fun i z hi => by simp at hi)⟩ (by omega) RD3.out.up ?_
      intro v5 w5 ho5 hg5 hat5
      obtain ⟨A5, c5, rfl⟩ := own_form ho5
      have nX : ∀ k, (Value.slice e0.A e0.n e0.c).ownBlock = some k → B0 ≤ k ∧ k < w.heap.size := fun k hk => H.out.ours.lt k hk
      have hgS := H.out.rows.own.lt gS rfl
      have X7 := Lib.hid (X3d.out.grown hg5 (fun e => by have := (nX _ e.symm).2; omega))
      have KP3 := Lib.hid ((KP2d.out.grown hg5 (fun k hk => ⟨(nX k hk).1, fun h => h.2.2 hk⟩)).set (j := q) (u := .slice A5 e0.n c5) hgS.1 (fun h => h.2.1 rfl))
      have MM := Lib.hid (RD3.out.push (F := F) (w0 := w0) h0 ho5 hg5 hat5)
      have XX := Lib.hid (RD3.out.rows.own.kept hg5 (by
        cases hob : (Value.slice e0.A e0.n e0.c).ownBlock with
        | none => exact .inr (by simp [Value.ownBlock])
        | some k => exact .inr (RD3.out.t4 k hob)))
      have b1 := hg5.cell b0' (fun e => Nat.lt_irrefl bb (Nat.lt_of_lt_of_le (nX _ e.symm).2 HBB.out))
      refine hK.out _ _ (by exact X7.out.c3) (fun hHeld => ?_)
      clear hK K hg5 hat5 ho5 nX
      try dsimp only
      refine wpAnyH_takesJ (i := 12) (v := (.pointer (some ⟨gS, q, none⟩))) (some 56) rfl rfl (by kernel_rfl) (by kernel_rfl) (by kernel_rfl) (fun _ _ _ h => h) (Or.inl ⟨by rfl, (by intro W9 hSw; (try dsimp only at hSw); go_simp; first | done | with_reducible rfl)⟩) (by assumption) ?_
      simp only [Act.put, List.setIfInBounds_toArray]; try simp only [List.set_cons_zero, List.set_cons_succ]
      have cc : w5.cell? ⟨gS, q, none⟩ = some (.slice e0.A e0.n e0.c) := by
        have p4 := XX.out.cellAt q (show q < ns * 1 by omega)
        have p5 := flat_at csL_len ls q e0 0 RD3.out.at' (by decide)
        rw [Nat.mul_one, Nat.add_zero] at p5
        rw [p5] at p4
        exact p4
      have ff := XX.out.frozenAt q
      refine wpAnyH_ready (rs := [13]) (by kernel_rfl) (by simp) ?_
      refine AllReadyH.cons rfl (fun K hK => ?_) AllReadyH.nil
      go_simp
      have hXg : w.heap.size ≠ gS := by omega
      refine hK.out _ _ (by exact farcell hXg X7.out.c3) (fun hHeld => ?_)
      clear hK K
      try dsimp only
      refine wpAnyH_done (by kernel_rfl) ?_ _
      have hbS : bb ≠ gS := by have := HBB.out; omega
      have b2 := farcell (j := q) (u := .slice A5 e0.n c5) hbS b1
      have HRM := Lib.hid (show RM (More F w0) (w5.setCell ⟨gS, q, none⟩ (.slice A5 e0.n c5)) ⟨T, nt, ct, some ⟨g, 0, none⟩, nr, cr, some ⟨gS, 0, none⟩, ns, cs⟩ (Jp.ringed (Jp.ringed r j (xh, lh)) k (0, [])) from by
        have h1 := MM.out
        rw [List.append_nil, Jp.rowed_same (by rw [← RD3.out.isl, List.getElem?_map, RD3.out.at']; rfl)] at h1
        exact h1)
      obtain ⟨W6, hW6⟩ : ∃ W6, W6 = w5.setCell ⟨gS, q, none⟩ (.slice A5 e0.n c5) := ⟨_, rfl⟩
      rw [← hW6] at b2 HRM KP3 ⊢
      clear hW6 cc ff XX MM b1 X7
      go_wp2_with fail
      go_ret
      exact ⟨rfl, KP3.out, HRM.out⟩
    · skip
      refine wpAnyH_takesJ (i := 10) (v := (.slice (some ⟨bb, ob + 1, none⟩) 0 (cb - 1))) (some 54) rfl rfl (by kernel_rfl) (by kernel_rfl) (by kernel_rfl) (fun _ _ _ h => h) (Or.inl ⟨by rfl, (by intro W9 hSw; (try dsimp only at hSw); go_simp; first | done | with_reducible rfl)⟩) (by assumption) ?_
      simp only [Act.put, List.setIfInBounds_toArray]; try simp only [List.set_cons_zero, List.set_cons_succ]
      refine wpAnyH_ready (rs := [7]) (by kernel_rfl) (by simp) ?_
      refine AllReadyH.cons rfl (fun K hK => ?_) AllReadyH.nil
      go_simp
      refine hK.out _ _ (by exact d3) (fun hHeld => ?_)
      clear hK K
      try dsimp only
      refine wpAnyH_ready (rs := [11]) (by kernel_rfl) (by simp) ?_
      refine AllReadyH.cons rfl (fun K hK => ?_) AllReadyH.nil
      refine step_append_rowat (by rfl) (.tmp 51) (.tmp 54) (by rfl) B0 (.slice e0.A e0.n e0.c) e0.n e0.l (by rfl) RD3.out.ours (some ⟨bb, ob + 1, none⟩) 0 (cb - 1) [] (by rfl) ⟨rfl, Nat.zero_le _, by omega, (fun e => by cases e), (fun i z hi => by simp at hi)⟩ (by omega) RD3.out.up ?_
      intro v5 w5 ho5 hg5 hat5
      obtain ⟨A5, c5, rfl⟩ := own_form ho5
      have nX : ∀ k, (Value.slice e0.A e0.n e0.c).ownBlock = some k → B0 ≤ k ∧ k < w.heap.size := fun k hk => H.out.ours.lt k hk
      have hgS := H.out.rows.own.lt gS rfl
      have X7 := Lib.hid (X3d.out.grown hg5 (fun e => by have := (nX _ e.symm).2; omega))
      have KP3 := Lib.hid ((KP2d.out.grown hg5 (fun k hk => ⟨(nX k hk).1, fun h => h.2.2 hk⟩)).set (j := q) (u := .slice A5 e0.n c5) hgS.1 (fun h => h.2.1 rfl))
      have MM := Lib.hid (RD3.out.push (F := F) (w0 := w0) h0 ho5 hg5 hat5)
      have XX := Lib.hid (RD3.out.rows.own.kept hg5 (by
        cases hob : (Value.slice e0.A e0.n e0.c).ownBlock with
        | none => exact .inr (by simp [Value.ownBlock])
        | some k => exact .inr (RD3.out.t4 k hob)))
      have b1 := hg5.cell b0' (fun e => Nat.lt_irrefl bb (Nat.lt_of_lt_of_le (nX _ e.symm).2 HBB.out))
      refine hK.out _ _ (by exact X7.out.c3) (fun hHeld => ?_)
      clear hK K hg5 hat5 ho5 nX
      try dsimp only
      refine wpAnyH_takesJ (i := 12) (v := (.pointer (some ⟨gS, q, none⟩))) (some 56) rfl rfl (by kernel_rfl) (by kernel_rfl) (by kernel_rfl) (fun _ _ _ h => h) (Or.inl ⟨by rfl, (by intro W9 hSw; (try dsimp only at hSw); go_simp; first | done | with_reducible rfl)⟩) (by assumption) ?_
      simp only [Act.put, List.setIfInBounds_toArray]; try simp only [List.set_cons_zero, List.set_cons_succ]
      have cc : w5.cell? ⟨gS, q, none⟩ = some (.slice e0.A e0.n e0.c) := by
        have p4 := XX.out.cellAt q (show q < ns * 1 by omega)
        have p5 := flat_at csL_len ls q e0 0 RD3.out.at' (by decide)
        rw [Nat.mul_one, Nat.add_zero] at p5
        rw [p5] at p4
        exact p4
      have ff := XX.out.frozenAt q
      refine wpAnyH_ready (rs := [13]) (by kernel_rfl) (by simp) ?_
      refine AllReadyH.cons rfl (fun K hK => ?_) AllReadyH.nil
      go_simp
      have hXg : w.heap.size ≠ gS := by omega
      refine hK.out _ _ (by exact farcell hXg X7.out.c3) (fun hHeld => ?_)
      clear hK K
      try dsimp only
      refine wpAnyH_done (by kernel_rfl) ?_ _
      have hbS : bb ≠ gS := by have := HBB.out; omega
      have b2 := farcell (j := q) (u := .slice A5 e0.n c5) hbS b1
      have HRM := Lib.hid (show RM (More F w0) (w5.setCell ⟨gS, q, none⟩ (.slice A5 e0.n c5)) ⟨T, nt, ct, some ⟨g, 0, none⟩, nr, cr, some ⟨gS, 0, none⟩, ns, cs⟩ (Jp.ringed (Jp.ringed r j (xh, lh)) k (0, [])) from by
        have h1 := MM.out
        rw [List.append_nil, Jp.rowed_same (by rw [← RD3.out.isl, List.getElem?_map, RD3.out.at']; rfl)] at h1
        exact h1)
      obtain ⟨W6, hW6⟩ : ∃ W6, W6 = w5.setCell ⟨gS, q, none⟩ (.slice A5 e0.n c5) := ⟨_, rfl⟩
      rw [← hW6] at b2 HRM KP3 ⊢
      clear hW6 cc ff XX MM b1 X7
      go_wp2_with fail
      go_ret
      exact ⟨rfl, KP3.out, HRM.out⟩
  · have m3 : ¬ ((cb : Int) < (m : Int)) := by omega
    have m4 : ¬ ((m : Int) < 1) := by omega
    refine wp_region_held_drew (S := fun w' => w'.cell? ⟨w.heap.size, 2, none⟩ = some (.slice (some ⟨g, 0, none⟩) nr cr)) (by kernel_rfl) d2 (fun hHeld => ?_)
    refine wpAnyH_takesJ (i := 0) (v := (.pointer (some ⟨w.heap.size, 2, none⟩))) (some 35) rfl rfl (by kernel_rfl) (by kernel_rfl) (by kernel_rfl) (fun _ _ _ h => h) (Or.inl ⟨by rfl, (by intro W9 hSw; (try dsimp only at hSw); go_simp; first | done | with_reducible rfl)⟩) (by assumption) ?_
    simp only [Act.put, List.setIfInBounds_toArray]; try simp only [List.set_cons_zero, List.set_cons_succ]
    refine wpAnyH_takesJ (i := 1) (v := (.slice (some ⟨g, 0, none⟩) nr cr)) (some 36) rfl rfl (by kernel_rfl) (by kernel_rfl) (by kernel_rfl) (fun _ _ _ h => h) (Or.inl ⟨by rfl, (by intro W9 hSw; (try dsimp only at hSw); go_simp; first | done | with_reducible rfl)⟩) (by assumption) ?_
    simp only [Act.put, List.setIfInBounds_toArray]; try simp only [List.set_cons_zero, List.set_cons_succ]
    refine wpAnyH_takesJ (i := 2) (v := (.int .i64 (k : Nat))) (some 37) rfl rfl (by kernel_rfl) (by kernel_rfl) (by kernel_rfl) (fun _ _ _ h => h) (Or.inl ⟨by rfl, (by intro W9 hSw; (try dsimp only at hSw); go_simp; first | done | with_reducible rfl)⟩) (by assumption) ?_
    simp only [Act.put, List.setIfInBounds_toArray]; try simp only [List.set_cons_zero, List.set_cons_succ]
    refine wpAnyH_takesJ (i := 3) (v := (.slice (some ⟨bb, ob, none⟩) m cb)) (some 38) rfl rfl (by kernel_rfl) (by kernel_rfl) (by kernel_rfl) (fun _ _ _ h => h) (Or.inl ⟨by rfl, (by intro W9 hSw; (try dsimp only at hSw); go_simp; first | done | with_reducible rfl)⟩) (by assumption) ?_
    simp only [Act.put, List.setIfInBounds_toArray]; try simp only [List.set_cons_zero, List.set_cons_succ]
    refine wpAnyH_takesJ (i := 4) (v := (.int .i64 m)) (some 39) rfl rfl (by kernel_rfl) (by kernel_rfl) (by kernel_rfl) (fun _ _ _ h => h) (Or.inl ⟨by rfl, (by intro W9 hSw; (try dsimp only at hSw); go_simp; first | done | with_reducible rfl)⟩) (by assumption) ?_
    simp only [Act.put, List.setIfInBounds_toArray]; try simp only [List.set_cons_zero, List.set_cons_succ]
    refine wpAnyH_takesJ (i := 5) (v := (.int .i64 m)) (some 40) rfl rfl (by kernel_rfl) (by kernel_rfl) (by kernel_rfl) (fun _ _ _ h => h) (Or.inl ⟨by rfl, (by intro W9 hSw; (try dsimp only at hSw); go_simp; first | done | with_reducible rfl)⟩) (by assumption) ?_
    simp only [Act.put, List.setIfInBounds_toArray]; try simp only [List.set_cons_zero, List.set_cons_succ]
    refine wpAnyH_takesJ (i := 6) (v := (.slice (some ⟨bb, ob + 1, none⟩) (m - 1 : Nat) (m - 1 : Nat))) (some 41) rfl rfl (by kernel_rfl) (by kernel_rfl) (by kernel_rfl) (fun _ _ _ h => h) (Or.inl ⟨by rfl, (by intro W9 hSw; (try dsimp only at hSw); go_simp; first | done | with_reducible rfl)⟩) (by assumption) ?_
    simp only [Act.put, List.setIfInBounds_toArray]; try simp only [List.set_cons_zero, List.set_cons_succ]
    refine wpAnyH_takesJ (i := 7) (v := (.agg #[.int .i64 0, .slice (some ⟨bb, ob + 1, none⟩) (m - 1 : Nat) (m - 1 : Nat)])) (some 42) rfl rfl (by kernel_rfl) (by kernel_rfl) (by kernel_rfl) (fun _ _ _ h => h) (Or.inl ⟨by rfl, (by intro W9 hSw; (try dsimp only at hSw); go_simp; first | done | with_reducible rfl)⟩) (by assumption) ?_
    simp only [Act.put, List.setIfInBounds_toArray]; try simp only [List.set_cons_zero, List.set_cons_succ]
    refine wpAnyH_takesJ (i := 8) (v := (.pointer (some ⟨g, k * 2, none⟩))) (some 43) rfl rfl (by kernel_rfl) (by kernel_rfl) (by kernel_rfl) (fun _ _ _ h => h) (Or.inl ⟨by rfl, (by intro W9 hSw; (try dsimp only at hSw); go_simp; first | done | with_reducible rfl)⟩) (by assumption) ?_
    simp only [Act.put, List.setIfInBounds_toArray]; try simp only [List.set_cons_zero, List.set_cons_succ]
    refine wpAnyH_ready (rs := [9]) (by kernel_rfl) (by simp) ?_
    refine AllReadyH.cons rfl (fun K hK => ?_) AllReadyH.nil
    go_simp
    have hr7 : Row U1.drew (some ⟨bb, ob + 1, none⟩) (m - 1) (m - 1) t := (RB.out.drew.drop 1 (by omega)).tight
    have hgX : w.heap.size ≠ g := by omega
    refine hK.out _ _ (by exact farcell hgX (farcell hgX d2)) (fun hHeld => ?_)
    clear hK K
    try dsimp only
    refine wpAnyH_done (by kernel_rfl) ?_ _
    obtain ⟨U2, hU2, hU2d⟩ : ∃ U2, U2 = (U1.drew.setCell ⟨g, k * 2, none⟩ (.int .i64 0)).setCell ⟨g, k * 2 + 1, none⟩ (.slice (some ⟨bb, ob + 1, none⟩) (m - 1) (m - 1)) ∧ U2 = ((U1.setCell ⟨g, k * 2, none⟩ (.int .i64 0)).setCell ⟨g, k * 2 + 1, none⟩ (.slice (some ⟨bb, ob + 1, none⟩) (m - 1) (m - 1))).drew := ⟨_, rfl, rfl⟩
    have hdr := (Below.refl U1.heap.size U1).drew
    have hup := RD.out.up
    have hUs := KP.out.size
    have hRD2 := (RD.out.step hdr).ring (p := k) hk (x := (0, t)) hr7 (B := V.heap.size) (fun ad e => by injection e with e; subst e; exact F2.out ⟨bb, ob, none⟩ rfl) (Nat.le_trans H.out.up hVs) (by omega) (fun j hj => by have := (H.out.ours.lt j hj).2; omega) (fun j hj => by have := (H.out.rows.own.lt j hj).2; omega)
    have hKP2 := ((KP.out.drew).set (j := k * 2) (u := .int .i64 0) hg0 (fun h => h.1 rfl)).set (j := k * 2 + 1) (u := .slice (some ⟨bb, ob + 1, none⟩) (m - 1) (m - 1)) hg0 (fun h => h.1 rfl)
    have hX6 : B5 U2 w.heap.size (.slice T nt ct) (.int .i64 r.size) (.slice (some ⟨g, 0, none⟩) nr cr) (.slice (some ⟨gS, 0, none⟩) ns cs) (.int .u64 (r.on : Nat)) := by rw [hU2]; exact (X5.out.drew.far (by simp only; omega)).far (by simp only; omega)
    have hbg : bb ≠ g := by have := F2.out ⟨bb, ob, none⟩ rfl; simp only at this; omega
    have hrb2 : Row U2 (some ⟨bb, ob, none⟩) m cb (y :: t) := by rw [hU2]; exact row_farj (row_farj RB.out.drew (fun _ ad hA => by injection hA with hA; subst hA; exact hbg)) (fun _ ad hA => by injection hA with hA; subst hA; exact hbg)
    rw [← hU2] at hRD2 hKP2
    rw [← hU2d]
    obtain ⟨xl, _⟩ := own_slice csL_len (by decide) hRD2.rows
    obtain ⟨b, off, eb, _, hcs⟩ := xl.cell q _ hRD2.at'
    injection eb with eb
    injection eb with eb1 eb2 _
    subst eb1 eb2
    have w0' := hcs 0 _ rfl
    rw [Nat.zero_add, Nat.mul_one, Nat.add_zero] at w0'
    have fzq : U2.frozen? ⟨gS, q, none⟩ = false := hRD2.rows.own.frozenAt q
    have hel := (xl.rows _ (List.mem_of_getElem? hRD2.at')).len
    have b0' : U2.cell? ⟨bb, ob, none⟩ = some (.int .i64 y) := by rw [hU2]; exact farcell hbg (farcell hbg b0)
    have d3 := hX6.c3
    have i4 : (0 : Int) ≤ (q : Int) := by omega
    have i5 : (q : Int) < (ns : Int) := by omega
    have KP2 := Lib.hid hKP2
    have X6 := Lib.hid hX6
    have RD2 := Lib.hid hRD2
    have RB2 := Lib.hid hrb2
    clear hU2 hU2d hdr hup hUs hRD2 hKP2 hX6 hrb2 xl hcs b0 d2 p0 p1 fz0 fz1 RD KP X5 RB hr7
    go_wp2_with fail
    refine wp_region_held_drew (S := fun w' => w'.cell? ⟨w.heap.size, 3, none⟩ = some (.slice (some ⟨gS, 0, none⟩) ns cs)) (by kernel_rfl) d3 (fun hHeld => ?_)
    obtain ⟨x1, hx1⟩ : ∃ x1, x1 = U2.drew := ⟨_, rfl⟩
    have RD3 := Lib.hid (RD2.out.step (Below.refl U2.heap.size U2).drew)
    have X3d := Lib.hid X6.out.drew
    have HBB := Lib.hid (show w.heap.size ≤ bb from by have := F2.out ⟨bb, ob, none⟩ rfl; simp only at this; omega)
    have w0'' : x1.cell? ⟨gS, q, none⟩ = some (.slice e0.A e0.n e0.c) := by rw [hx1]; exact w0'
    have b0' : x1.cell? ⟨bb, ob, none⟩ = some (.int .i64 y) := by rw [hx1]; exact b0'
    have d3 : x1.cell? ⟨w.heap.size, 3, none⟩ = some (.slice (some ⟨gS, 0, none⟩) ns cs) := by rw [hx1]; exact d3
    have KP2d := Lib.hid KP2.out.drew
    rw [← hx1] at hHeld RD3 X3d KP2d ⊢
    clear hx1
    refine wpAnyH_takesJ (i := 0) (v := (.pointer (some ⟨w.heap.size, 3, none⟩))) (some 44) rfl rfl (by kernel_rfl) (by kernel_rfl) (by kernel_rfl) (fun _ _ _ h => h) (Or.inl ⟨by rfl, (by intro W9 hSw; (try dsimp only at hSw); go_simp; first | done | with_reducible rfl)⟩) (by assumption) ?_
    simp only [Act.put, List.setIfInBounds_toArray]; try simp only [List.set_cons_zero, List.set_cons_succ]
    refine wpAnyH_takesJ (i := 1) (v := (.slice (some ⟨gS, 0, none⟩) ns cs)) (some 45) rfl rfl (by kernel_rfl) (by kernel_rfl) (by kernel_rfl) (fun _ _ _ h => h) (Or.inl ⟨by rfl, (by intro W9 hSw; (try dsimp only at hSw); go_simp; first | done | with_reducible rfl)⟩) (by assumption) ?_
    simp only [Act.put, List.setIfInBounds_toArray]; try simp only [List.set_cons_zero, List.set_cons_succ]
    refine wpAnyH_takesJ (i := 2) (v := (.int .i64 (q : Nat))) (some 46) rfl rfl (by kernel_rfl) (by kernel_rfl) (by kernel_rfl) (fun _ _ _ h => h) (Or.inl ⟨by rfl, (by intro W9 hSw; (try dsimp only at hSw); go_simp; first | done | with_reducible rfl)⟩) (by assumption) ?_
    simp only [Act.put, List.setIfInBounds_toArray]; try simp only [List.set_cons_zero, List.set_cons_succ]
    refine wpAnyH_takesJ (i := 3) (v := (.pointer (some ⟨w.heap.size, 3, none⟩))) (some 47) rfl rfl (by kernel_rfl) (by kernel_rfl) (by kernel_rfl) (fun _ _ _ h => h) (Or.inl ⟨by rfl, (by intro W9 hSw; (try dsimp only at hSw); go_simp; first | done | with_reducible rfl)⟩) (by assumption) ?_
    simp only [Act.put, List.setIfInBounds_toArray]; try simp only [List.set_cons_zero, List.set_cons_succ]
    refine wpAnyH_takesJ (i := 4) (v := (.slice (some ⟨gS, 0, none⟩) ns cs)) (some 48) rfl rfl (by kernel_rfl) (by kernel_rfl) (by kernel_rfl) (fun _ _ _ h => h) (Or.inl ⟨by rfl, (by intro W9 hSw; (try dsimp only at hSw); go_simp; first | done | with_reducible rfl)⟩) (by assumption) ?_
    simp only [Act.put, List.setIfInBounds_toArray]; try simp only [List.set_cons_zero, List.set_cons_succ]
    refine wpAnyH_takesJ (i := 5) (v := (.int .i64 (q : Nat))) (some 49) rfl rfl (by kernel_rfl) (by kernel_rfl) (by kernel_rfl) (fun _ _ _ h => h) (Or.inl ⟨by rfl, (by intro W9 hSw; (try dsimp only at hSw); go_simp; first | done | with_reducible rfl)⟩) (by assumption) ?_
    simp only [Act.put, List.setIfInBounds_toArray]; try simp only [List.set_cons_zero, List.set_cons_succ]
    refine wpAnyH_takesJ (i := 6) (v := (.pointer (some ⟨gS, q, none⟩))) (some 50) rfl rfl (by kernel_rfl) (by kernel_rfl) (by kernel_rfl) (fun _ _ _ h => h) (Or.inl ⟨by rfl, (by intro W9 hSw; (try dsimp only at hSw); go_simp; first | done | with_reducible rfl)⟩) (by assumption) ?_
    simp only [Act.put, List.setIfInBounds_toArray]; try simp only [List.set_cons_zero, List.set_cons_succ]
    refine wpAnyH_takesJ (i := 8) (v := (.slice (some ⟨bb, ob, none⟩) m cb)) (some 52) rfl rfl (by kernel_rfl) (by kernel_rfl) (by kernel_rfl) (fun _ _ _ h => h) (Or.inl ⟨by rfl, (by intro W9 hSw; (try dsimp only at hSw); go_simp; first | done | with_reducible rfl)⟩) (by assumption) ?_
    simp only [Act.put, List.setIfInBounds_toArray]; try simp only [List.set_cons_zero, List.set_cons_succ]
    refine wpAnyH_takesJ (i := 9) (v := (.int .i64 m)) (some 53) rfl rfl (by kernel_rfl) (by kernel_rfl) (by kernel_rfl) (fun _ _ _ h => h) (Or.inl ⟨by rfl, (by intro W9 hSw; (try dsimp only at hSw); go_simp; first | done | with_reducible rfl)⟩) (by assumption) ?_
    simp only [Act.put, List.setIfInBounds_toArray]; try simp only [List.set_cons_zero, List.set_cons_succ]
    have hcb := RB2.out.most
    have hcc := RB2.out.cap
    by_cases hcm : cb = m
    · subst hcm
      refine wpAnyH_takesJ (i := 10) (v := (.slice (some ⟨bb, ob, none⟩) 0 0)) (some 54) rfl rfl (by kernel_rfl) (by kernel_rfl) (by kernel_rfl) (fun _ _ _ h => h) (Or.inl ⟨by rfl, (by intro W9 hSw; (try dsimp only at hSw); go_simp; first | done | with_reducible rfl)⟩) (by assumption) ?_
      simp only [Act.put, List.setIfInBounds_toArray]; try simp only [List.set_cons_zero, List.set_cons_succ]
      refine wpAnyH_ready (rs := [7]) (by kernel_rfl) (by simp) ?_
      refine AllReadyH.cons rfl (fun K hK => ?_) AllReadyH.nil
      go_simp
      refine hK.out _ _ (by exact d3) (fun hHeld => ?_)
      clear hK K
      try dsimp only
      refine wpAnyH_ready (rs := [11]) (by kernel_rfl) (by simp) ?_
      refine AllReadyH.cons rfl (fun K hK => ?_) AllReadyH.nil
      refine step_append_rowat (by rfl) (.tmp 51) (.tmp 54) (by rfl) B0 (.slice e0.A e0.n e0.c) e0.n e0.l (by rfl) RD3.out.ours (some ⟨bb, ob, none⟩) 0 0 [] (by rfl) ⟨rfl, Nat.zero_le _, by omega, (fun e => by cases e), (fun i z hi => by simp at hi)⟩ (by omega) RD3.out.up ?_
      intro v5 w5 ho5 hg5 hat5
      obtain ⟨A5, c5, rfl⟩ := own_form ho5
      have nX : ∀ k, (Value.slice e0.A e0.n e0.c).ownBlock = some k → B0 ≤ k ∧ k < w.heap.size := fun k hk => H.out.ours.lt k hk
      have hgS := H.out.rows.own.lt gS rfl
      have X7 := Lib.hid (X3d.out.grown hg5 (fun e => by have := (nX _ e.symm).2; omega))
      have KP3 := Lib.hid ((KP2d.out.grown hg5 (fun k hk => ⟨(nX k hk).1, fun h => h.2.2 hk⟩)).set (j := q) (u := .slice A5 e0.n c5) hgS.1 (fun h => h.2.1 rfl))
      have MM := Lib.hid (RD3.out.push (F := F) (w0 := w0) h0 ho5 hg5 hat5)
      have XX := Lib.hid (RD3.out.rows.own.kept hg5 (by
        cases hob : (Value.slice e0.A e0.n e0.c).ownBlock with
        | none => exact .inr (by simp [Value.ownBlock])
        | some k => exact .inr (RD3.out.t4 k hob)))
      have b1 := hg5.cell b0' (fun e => Nat.lt_irrefl bb (Nat.lt_of_lt_of_le (nX _ e.symm).2 HBB.out))
      refine hK.out _ _ (by exact X7.out.c3) (fun hHeld => ?_)
      clear hK K hg5 hat5 ho5 nX
      try dsimp only
      refine wpAnyH_takesJ (i := 12) (v := (.pointer (some ⟨gS, q, none⟩))) (some 56) rfl rfl (by kernel_rfl) (by kernel_rfl) (by kernel_rfl) (fun _ _ _ h => h) (Or.inl ⟨by rfl, (by intro W9 hSw; (try dsimp only at hSw); go_simp; first | done | with_reducible rfl)⟩) (by assumption) ?_
      simp only [Act.put, List.setIfInBounds_toArray]; try simp only [List.set_cons_zero, List.set_cons_succ]
      have cc : w5.cell? ⟨gS, q, none⟩ = some (.slice e0.A e0.n e0.c) := by
        have p4 := XX.out.cellAt q (show q < ns * 1 by omega)
        have p5 := flat_at csL_len ls q e0 0 RD3.out.at' (by decide)
        rw [Nat.mul_one, Nat.add_zero] at p5
        rw [p5] at p4
        exact p4
      have ff := XX.out.frozenAt q
      refine wpAnyH_ready (rs := [13]) (by kernel_rfl) (by simp) ?_
      refine AllReadyH.cons rfl (fun K hK => ?_) AllReadyH.nil
      go_simp
      have hXg : w.heap.size ≠ gS := by omega
      refine hK.out _ _ (by exact farcell hXg X7.out.c3) (fun hHeld => ?_)
      clear hK K
      try dsimp only
      refine wpAnyH_done (by kernel_rfl) ?_ _
      have hbS : bb ≠ gS := by have := HBB.out; omega
      have b2 := farcell (j := q) (u := .slice A5 e0.n c5) hbS b1
      have HRM := Lib.hid (show RM (More F w0) (w5.setCell ⟨gS, q, none⟩ (.slice A5 e0.n c5)) ⟨T, nt, ct, some ⟨g, 0, none⟩, nr, cr, some ⟨gS, 0, none⟩, ns, cs⟩ (Jp.ringed (Jp.ringed r j (xh, lh)) k (0, t)) from by
        have h1 := MM.out
        rw [List.append_nil, Jp.rowed_same (by rw [← RD3.out.isl, List.getElem?_map, RD3.out.at']; rfl)] at h1
        exact h1)
      obtain ⟨W6, hW6⟩ : ∃ W6, W6 = w5.setCell ⟨gS, q, none⟩ (.slice A5 e0.n c5) := ⟨_, rfl⟩
      rw [← hW6] at b2 HRM KP3 ⊢
      clear hW6 cc ff XX MM b1 X7
      go_wp2_with fail
      go_ret
      exact ⟨rfl, KP3.out, HRM.out⟩
    · skip
      refine wpAnyH_takesJ (i := 10) (v := (.slice (some ⟨bb, ob + m, none⟩) 0 (cb - m))) (some 54) rfl rfl (by kernel_rfl) (by kernel_rfl) (by kernel_rfl) (fun _ _ _ h => h) (Or.inl ⟨by rfl, (by intro W9 hSw; (try dsimp only at hSw); go_simp; first | done | with_reducible rfl)⟩) (by assumption) ?_
      simp only [Act.put, List.setIfInBounds_toArray]; try simp only [List.set_cons_zero, List.set_cons_succ]
      refine wpAnyH_ready (rs := [7]) (by kernel_rfl) (by simp) ?_
      refine AllReadyH.cons rfl (fun K hK => ?_) AllReadyH.nil
      go_simp
      refine hK.out _ _ (by exact d3) (fun hHeld => ?_)
      clear hK K
      try dsimp only
      refine wpAnyH_ready (rs := [11]) (by kernel_rfl) (by simp) ?_
      refine AllReadyH.cons rfl (fun K hK => ?_) AllReadyH.nil
      refine step_append_rowat (by rfl) (.tmp 51) (.tmp 54) (by rfl) B0 (.slice e0.A e0.n e0.c) e0.n e0.l (by rfl) RD3.out.ours (some ⟨bb, ob + m, none⟩) 0 (cb - m) [] (by rfl) ⟨rfl, Nat.zero_le _, by omega, (fun e => by cases e), (fun i z hi => by simp at hi)⟩ (by omega) RD3.out.up ?_
      intro v5 w5 ho5 hg5 hat5
      obtain ⟨A5, c5, rfl⟩ := own_form ho5
      have nX : ∀ k, (Value.slice e0.A e0.n e0.c).ownBlock = some k → B0 ≤ k ∧ k < w.heap.size := fun k hk => H.out.ours.lt k hk
      have hgS := H.out.rows.own.lt gS rfl
      have X7 := Lib.hid (X3d.out.grown hg5 (fun e => by have := (nX _ e.symm).2; omega))
      have KP3 := Lib.hid ((KP2d.out.grown hg5 (fun k hk => ⟨(nX k hk).1, fun h => h.2.2 hk⟩)).set (j := q) (u := .slice A5 e0.n c5) hgS.1 (fun h => h.2.1 rfl))
      have MM := Lib.hid (RD3.out.push (F := F) (w0 := w0) h0 ho5 hg5 hat5)
      have XX := Lib.hid (RD3.out.rows.own.kept hg5 (by
        cases hob : (Value.slice e0.A e0.n e0.c).ownBlock with
        | none => exact .inr (by simp [Value.ownBlock])
        | some k => exact .inr (RD3.out.t4 k hob)))
      have b1 := hg5.cell b0' (fun e => Nat.lt_irrefl bb (Nat.lt_of_lt_of_le (nX _ e.symm).2 HBB.out))
      refine hK.out _ _ (by exact X7.out.c3) (fun hHeld => ?_)
      clear hK K hg5 hat5 ho5 nX
      try dsimp only
      refine wpAnyH_takesJ (i := 12) (v := (.pointer (some ⟨gS, q, none⟩))) (some 56) rfl rfl (by kernel_rfl) (by kernel_rfl) (by kernel_rfl) (fun _ _ _ h => h) (Or.inl ⟨by rfl, (by intro W9 hSw; (try dsimp only at hSw); go_simp; first | done | with_reducible rfl)⟩) (by assumption) ?_
      simp only [Act.put, List.setIfInBounds_toArray]; try simp only [List.set_cons_zero, List.set_cons_succ]
      have cc : w5.cell? ⟨gS, q, none⟩ = some (.slice e0.A e0.n e0.c) := by
        have p4 := XX.out.cellAt q (show q < ns * 1 by omega)
        have p5 := flat_at csL_len ls q e0 0 RD3.out.at' (by decide)
        rw [Nat.mul_one, Nat.add_zero] at p5
        rw [p5] at p4
        exact p4
      have ff := XX.out.frozenAt q
      refine wpAnyH_ready (rs := [13]) (by kernel_rfl) (by simp) ?_
      refine AllReadyH.cons rfl (fun K hK => ?_) AllReadyH.nil
      go_simp
      have hXg : w.heap.size ≠ gS := by omega
      refine hK.out _ _ (by exact farcell hXg X7.out.c3) (fun hHeld => ?_)
      clear hK K
      try dsimp only
      refine wpAnyH_done (by kernel_rfl) ?_ _
      have hbS : bb ≠ gS := by have := HBB.out; omega
      have b2 := farcell (j := q) (u := .slice A5 e0.n c5) hbS b1
      have HRM := Lib.hid (show RM (More F w0) (w5.setCell ⟨gS, q, none⟩ (.slice A5 e0.n c5)) ⟨T, nt, ct, some ⟨g, 0, none⟩, nr, cr, some ⟨gS, 0, none⟩, ns, cs⟩ (Jp.ringed (Jp.ringed r j (xh, lh)) k (0, t)) from by
        have h1 := MM.out
        rw [List.append_nil, Jp.rowed_same (by rw [← RD3.out.isl, List.getElem?_map, RD3.out.at']; rfl)] at h1
        exact h1)
      obtain ⟨W6, hW6⟩ : ∃ W6, W6 = w5.setCell ⟨gS, q, none⟩ (.slice A5 e0.n c5) := ⟨_, rfl⟩
      rw [← hW6] at b2 HRM KP3 ⊢
      clear hW6 cc ff XX MM b1 X7
      go_wp2_with fail
      go_ret
      exact ⟨rfl, KP3.out, HRM.out⟩
/-- What ofRow tells. -/
def FoundR {w0 : World} (r : Jp.Rn) (n : Nat) (F : Nat → Prop) (d : Ad) (g : Nat) (w : World) (e : Ending) (w' : World) : Prop :=
  (Jp.firsts r n = none ∧ e = .returned (.tuple #[.int .i64 0, .bool false]) ∧ Below w.heap.size w w') ∨ (∃ m, Jp.firsts r n = some m ∧ e = .returned (.tuple #[.int .i64 ((Jp.rowAt r m).headD 0), .bool true]) ∧ Rg g w w' ∧ RM (More F w0) w' d (Jp.rowed r m (Jp.rowAt r m).tail))
theorem FoundR.no {w0 : World} {r : Jp.Rn} {n : Nat} {F : Nat → Prop} {d : Ad} {g : Nat} {w w' : World} (h : Jp.firsts r n = none) (hb : Below w.heap.size w w') : FoundR (w0 := w0) r n F d g w (.returned (.tuple #[.int .i64 0, .bool false])) w' := .inl ⟨h, rfl, hb⟩
theorem FoundR.yes {w0 : World} {r : Jp.Rn} {n m : Nat} {y : Int} {t : List Int} {F : Nat → Prop} {d : Ad} {g : Nat} {w w' : World} (h : Jp.firsts r n = some m) (hr : Jp.rowAt r m = y :: t) (hg : Rg g w w') (hR : RM (More F w0) w' d (Jp.rowed r m t)) : FoundR (w0 := w0) r n F d g w (.returned (.tuple #[.int .i64 y, .bool true])) w' :=
  .inr ⟨m, h, by rw [hr]; rfl, hg, by rw [hr]; exact hR⟩
set_option maxRecDepth 100000 in
set_option maxHeartbeats 2000000 in
theorem stealRow_any {F : Nat → Prop} {B0 B1 B2 B3 n g nt ct nr cr ns cs : Nat} {T R : Option Addr} {r : Jp.Rn} {es ls : List El} (w w0 : World) (h : Told B0 B1 B2 B3 ⟨T, nt, ct, R, nr, cr, some ⟨g, 0, none⟩, ns, cs⟩ r es ls w) (hne : r.tree ≠ []) (h0 : w0.heap.size ≤ B0) (hn : n < ns) (h64 : ns ≤ 64) :
    Calls Tryz.prog 30 #[.slice (some ⟨g, 0, none⟩) ns cs, .int .i64 (n : Nat)] w
      (FoundR (w0 := w0) r n F ⟨T, nt, ct, R, nr, cr, some ⟨g, 0, none⟩, ns, cs⟩ g w) := by
  have H := Lib.hid h
  have HNE := Lib.hid hne
  have HNS := Lib.hid (h.ns)
  clear h hne
  go_enter Tryz.func30, Tryz.ntmps30
  go_wp2_with fail
  go_loopw [6] (fun i wr => ∃ k : Nat, 1 ≤ k ∧ k ≤ ns ∧ i = .int .i64 k ∧ Hid (Below w.heap.size w wr) ∧ Hid (∀ j, 1 ≤ j → j < k → Jp.rowAt r ((n + j) % r.rows.length) = [])) (fun i _ => ns - (intOf i).toNat)
  case atStart => exact ⟨1, Nat.le_refl _, by omega, rfl, Lib.hid (Below.refl _ _), Lib.hid (fun j h1 h2 => by omega)⟩
  case round =>
    obtain ⟨k, hk1, hk, rfl, HW, HB⟩ := hrel
    obtain ⟨hns1, hns2⟩ := HNS.out
    try simp only at hns1 hns2
    by_cases hlt : k < ns
    · obtain ⟨m, hm⟩ : ∃ m, m = (n + k) % ns := ⟨_, rfl⟩
      have hmn : m < ns := by rw [hm]; exact Nat.mod_lt _ (by omega)
      have t1 : Int.tmod ((n : Int) + (k : Int)) (ns : Int) = (m : Int) := by rw [hm]; rfl
      have t2 : IntKind.i64.wrap ((n : Int) + (k : Int)) = (n : Int) + (k : Int) := by rw [IntWalk.i64_in _ (by omega)]
      have t3 : ((ns : Int) == 0) = false := by rw [beq_eq_false_iff_ne]; omega
      have i0 : (0 : Int) ≤ (m : Int) := by omega
      have i1 : (m : Int) < (ns : Int) := by omega
      obtain ⟨e0, he0⟩ : ∃ e, ls[m]? = some e := ⟨_, List.getElem?_eq_getElem (by omega)⟩
      have hT := H.out.step HW.out
      have hRD := hT.ready HNE.out he0
      have hre0 : r.rows[m]? = some e0.l := by rw [← hT.isl, List.getElem?_map, he0]; rfl
      have HRA0 := Jp.rowAt_some hre0
      have HC := Lib.hid (fun l A n c => hRD.cut (F := F) (w0 := w0) h0 (l := l) (A := A) (n := n) (c := c))
      obtain ⟨ex, el, A, n', c⟩ := e0
      obtain ⟨xr, _⟩ := own_slice csL_len (by decide) hRD.rows
      obtain ⟨b, off, eb, _, hcs⟩ := xr.cell m _ he0
      injection eb with eb
      injection eb with eb1 eb2 _
      subst eb1 eb2
      have c0 := hcs 0 _ rfl
      rw [Nat.zero_add, Nat.mul_one, Nat.add_zero] at c0
      have hrow := xr.rows _ (List.mem_of_getElem? he0)
      have hfz : wr.frozen? ⟨g, m, none⟩ = false := hRD.rows.own.frozenAt m
      have HT4 := Lib.hid hRD.t4
      have HM := Lib.hid hm
      simp only at hrow c0 HC HRA0 HT4 ⊢
      have hlen := hrow.len
      clear hT hRD he0 hcs xr hm hre0
      cases el with
      | nil =>
        obtain rfl : n' = 0 := by rw [← hlen]; rfl
        have HB2 := Lib.hid (show ∀ j, 1 ≤ j → j < k + 1 → Jp.rowAt r ((n + j) % r.rows.length) = [] from fun j h1 h2 => by
          by_cases h3 : j = k
          · subst h3; rw [hns1, ← HM.out]; exact HRA0
          · exact HB.out j h1 (by omega))
        clear hrow HC HRA0
        go_wp2_with fail
        go_roundw
        case rel => exact ⟨k + 1, by omega, by omega, by go_num, HW, HB2⟩
        case measure => simp [intOf]; omega
      | cons y t =>
        have HRA := Lib.hid HRA0
        have HFI := Lib.hid (Jp.firsts_at (r := r) (n := n) (m := m) hk1 (by omega) (by rw [hns1]; exact HM.out) HB.out (by rw [HRA0]; simp))
        have hn1 : 0 < n' := by rw [← hlen]; simp
        obtain ⟨b, off, rfl, hb, hcL⟩ := hrow.cells hn1
        have cg := hcL 0 y rfl
        rw [Nat.add_zero] at cg
        have hgb : b ≠ g := fun e => by subst e; exact HT4.out b rfl rfl
        have cg' := fun u => farcell (X := g) (j := m) (u := u) hgb cg
        have hsl := hrow.slice 1 (by omega)
        have hcap := hrow.cap
        have s1 : (1 : Int) ≤ (n' : Int) := by omega
        have s2 : ¬ ((n' : Int) < 1) := by omega
        have s3 : ((n' : Int) == 0) = false := by rw [beq_eq_false_iff_ne]; omega
        have s4 : (0 : Int) < (n' : Int) := by omega
        have s5 : ¬ c < 1 := by omega
        have s6 : 1 ≤ n' := by omega
        clear HRA0
        by_cases hc1 : c = 1
        · obtain rfl : n' = 1 := by omega
          subst hc1
          have HR := Lib.hid (HC.out t _ _ _ (by first | (rw [if_pos rfl, List.drop_one, List.tail_cons] at hsl; exact hsl) | (rw [if_neg hc1, List.drop_one, List.tail_cons] at hsl; exact hsl)) (fun ad e => ⟨_, rfl, by injection e with e; rw [← e]⟩))
          have RG := Lib.hid ((Rg.of (g := g) HW.out (Rg.below (Below.refl wr.heap.size wr))).set (j := m) (u := .slice (some ⟨b, off, none⟩) 0 0))
          clear hsl hcL hrow HC
          go_wp2_with fail
          refine bodyPost_ret (v := .tuple #[.int .i64 y, .bool true]) (by simp [results, Tryz.results30, go_sem]) rfl ?_
          exact FoundR.yes HFI.out HRA.out RG.out HR.out
        · skip
          have HR := Lib.hid (HC.out t _ _ _ (by first | (rw [if_pos rfl, List.drop_one, List.tail_cons] at hsl; exact hsl) | (rw [if_neg hc1, List.drop_one, List.tail_cons] at hsl; exact hsl)) (fun ad e => ⟨_, rfl, by injection e with e; rw [← e]⟩))
          have RG := Lib.hid ((Rg.of (g := g) HW.out (Rg.below (Below.refl wr.heap.size wr))).set (j := m) (u := .slice (some ⟨b, off + 1, none⟩) (n' - 1) (c - 1)))
          clear hsl hcL hrow HC
          go_wp2_with fail
          refine bodyPost_ret (v := .tuple #[.int .i64 y, .bool true]) (by simp [results, Tryz.results30, go_sem]) rfl ?_
          exact FoundR.yes HFI.out HRA.out RG.out HR.out
    · obtain rfl : k = ns := by omega
      have HF := Lib.hid (Jp.firsts_no (r := r) (n := n) (fun j h1 h2 => HB.out j h1 (by omega)))
      go_wp2_with fail
      refine bodyPost_ret (v := .tuple #[.int .i64 0, .bool false]) (by simp [results, Tryz.results30, go_sem]) rfl ?_
      exact FoundR.no HF.out HW.out
end Go.Proofs.YtdohnhdjlhaaaaaGreatDoor

