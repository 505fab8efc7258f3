/- The law's made, by its contract: the same Runs, all rows in memory of its own. (Written by wip/gen/gen_jmade.py out of wip/gen/jmade.txt: change those.) -/
import Derived.Test.YtcoccegmkcdeiaaDoorM11
namespace Go.Proofs.YtcoccegmkcdeiaaDoor
open Go.RowKit
set_option linter.unusedVariables false

theorem XO.grown {cs : El → List Value} {sz : Nat} {ty : TypeId} {base n : Nat} {W W' : World} {v : Value} {es : List El} {row : Option Nat} (h : XO cs sz ty base W v n es) (hg : W.grownBy W' row) (hv : v.ownBlock = Option.none ∨ v.ownBlock ≠ row) (hr : ∀ e ∈ es, e.l ≠ [] → ∀ ad, e.A = some ad → row ≠ some ad.block) : XO cs sz ty base W' v n es :=
  ⟨h.own.kept hg hv, fun e he => row_kept (h.rows e he) hg (hr e he), h.apart⟩
theorem XO.farv {cs : El → List Value} {sz : Nat} {ty : TypeId} {base n X j : Nat} {W : World} {v : Value} {es : List El} {u : Value} (h : XO cs sz ty base W v n es) (hX : v.ownBlock ≠ some X) (hr : ∀ e ∈ es, e.l ≠ [] → ∀ ad, e.A = some ad → ad.block ≠ X) : XO cs sz ty base (W.setCell ⟨X, j, Option.none⟩ u) v n es :=
  ⟨h.own.kept (row := some X) ⟨rfl, rfl, rfl, by simp [World.setCell], fun k _ hk => Below.heap_setCell _ _ _ _ (fun e => hk (by simp [e]))⟩ (.inr hX), fun e he => row_farj (h.rows e he) (hr e he), h.apart⟩
/-- What a round reads of the Runs that are copied. -/
def SG (X b off : Nat) (R : Option Addr) (n c k : Nat) (e : El) (w : World) : Prop := w.cell? ⟨X, 2, none⟩ = some (.slice R n c) ∧ w.cell? ⟨b, off + k * 2, none⟩ = some (.int .i64 e.x) ∧ w.cell? ⟨b, off + k * 2 + 1, none⟩ = some (.slice e.A e.n e.c)
def SL (X b off : Nat) (R : Option Addr) (n c k : Nat) (e : El) (w : World) : Prop := w.cell? ⟨X, 3, none⟩ = some (.slice R n c) ∧ w.cell? ⟨b, off + k, none⟩ = some (.slice e.A e.n e.c)
theorem keepsG {w w' : World} {b off k : Nat} {e : El} (hb : Below w.heap.size w w') (h : w.cell? ⟨b, off + k * 2, none⟩ = some (.int .i64 e.x) ∧ w.cell? ⟨b, off + k * 2 + 1, none⟩ = some (.slice e.A e.n e.c)) : w'.cell? ⟨b, off + k * 2, none⟩ = some (.int .i64 e.x) ∧ w'.cell? ⟨b, off + k * 2 + 1, none⟩ = some (.slice e.A e.n e.c) := ⟨keepcell hb h.1, keepcell hb h.2⟩
theorem keepsL {w w' : World} {b off k : Nat} {e : El} (hb : Below w.heap.size w w') (h : w.cell? ⟨b, off + k, none⟩ = some (.slice e.A e.n e.c)) : w'.cell? ⟨b, off + k, none⟩ = some (.slice e.A e.n e.c) := keepcell hb h
theorem keepsgG {w w' : World} {b off k : Nat} {e : El} {row : Option Nat} (hg : w.grownBy w' row) (hne : some b ≠ row) (h : w.cell? ⟨b, off + k * 2, none⟩ = some (.int .i64 e.x) ∧ w.cell? ⟨b, off + k * 2 + 1, none⟩ = some (.slice e.A e.n e.c)) : w'.cell? ⟨b, off + k * 2, none⟩ = some (.int .i64 e.x) ∧ w'.cell? ⟨b, off + k * 2 + 1, none⟩ = some (.slice e.A e.n e.c) := ⟨hg.cell h.1 hne, hg.cell h.2 hne⟩
theorem keepsgL {w w' : World} {b off k : Nat} {e : El} {row : Option Nat} (hg : w.grownBy w' row) (hne : some b ≠ row) (h : w.cell? ⟨b, off + k, none⟩ = some (.slice e.A e.n e.c)) : w'.cell? ⟨b, off + k, none⟩ = some (.slice e.A e.n e.c) := hg.cell h hne
theorem keepsfG {w : World} {b off k X j : Nat} {e : El} {u : Value} (hne : b ≠ X) (h : w.cell? ⟨b, off + k * 2, none⟩ = some (.int .i64 e.x) ∧ w.cell? ⟨b, off + k * 2 + 1, none⟩ = some (.slice e.A e.n e.c)) : (w.setCell ⟨X, j, none⟩ u).cell? ⟨b, off + k * 2, none⟩ = some (.int .i64 e.x) ∧ (w.setCell ⟨X, j, none⟩ u).cell? ⟨b, off + k * 2 + 1, none⟩ = some (.slice e.A e.n e.c) := ⟨farcell hne h.1, farcell hne h.2⟩
theorem keepsfL {w : World} {b off k X j : Nat} {e : El} {u : Value} (hne : b ≠ X) (h : w.cell? ⟨b, off + k, none⟩ = some (.slice e.A e.n e.c)) : (w.setCell ⟨X, j, none⟩ u).cell? ⟨b, off + k, none⟩ = some (.slice e.A e.n e.c) := farcell hne h
set_option maxRecDepth 100000 in
set_option maxHeartbeats 4000000 in
theorem jmade_any {F : Nat → Prop} (d : Ad) (r : Jp.Rn) (w : World) (h : RM F w d r) (hF : ∀ b, F b → b < w.heap.size) (hlow : Low r) :
    Calls Tryd.prog 8 #[jv d r] w (TellJ F w r) := by
  obtain ⟨A0, nt, ct, R, nr, cr, S, ns, cs⟩ := d
  obtain ⟨gs, hgs, hge, hgl⟩ := h.rings
  have H := Lib.hid h
  have HFW := Lib.hid hF
  have HL := Lib.hid hlow
  have HGS := Lib.hid hgs
  have HGE := Lib.hid hge
  obtain ⟨hr1, hr2, hr3⟩ := h.nr
  obtain ⟨hs1, hs2, hs3⟩ := h.ns
  have hr4 := hlow.rings
  have hs4 := hlow.rows
  simp only at hr1 hr2 hr3 hs1 hs2 hs3
  have hgn : gs.length = nr := by rw [← hr1, hge, List.length_map]
  clear h hF hlow hgs hge hgl
  obtain ⟨V, hV, hX, hZ, hO, hB, hsz⟩ := boxes3v w (.slice A0 nt ct) (.int .i64 r.size) (.slice R nr cr) (.slice S ns cs) (.int .u64 (r.on : Nat)) (.slice none 0 0) (.int .i64 0) (.slice none 0 0) (.slice none 0 0) (.int .u64 0) (.slice A0 nt ct) (.int .i64 r.size) (.slice none 0 0) (.slice none 0 0) (.int .u64 (r.on : Nat)) 27 33 33
  have E := Lib.hid hV
  have X0 := Lib.hid hX
  have Z0 := Lib.hid hZ
  have O0 := Lib.hid hO
  have B0 := Lib.hid hB
  have SZV := Lib.hid hsz
  clear hV hX hZ hO hB hsz
  unfold jv
  go_enter Tryd.func8, Tryd.ntmps8
  go_wp2_with (rw [← E.out])
  clear E
  obtain ⟨V0, hV0⟩ : ∃ V0, V0 = V := ⟨_, rfl⟩
  have SZ := Lib.hid (show w.heap.size + 1 + 1 + 1 ≤ V0.heap.size by rw [hV0]; have := SZV.out; omega)
  have HV00 := Lib.hid (show V0.heap.size ≤ V.heap.size by rw [hV0]; exact Nat.le_refl _)
  clear hV0
  go_loopw [4] (fun i wr => ∃ k : Nat, k ≤ nr ∧ i = .int .i64 k ∧ ∃ v ms, Hid (XO csG 2 45 V0.heap.size wr v k ms) ∧ Hid (ms.map elG = (gs.map elG).take k) ∧ Hid (∀ e ∈ ms, e.l ≠ [] → ∀ ad, e.A = some ad → V0.heap.size ≤ ad.block) ∧ Hid (C5 wr (w.heap.size + 1 + 1) (.slice A0 nt ct) (.int .i64 r.size) v (.slice none 0 0) (.int .u64 (r.on : Nat))) ∧ Hid (C5 wr (w.heap.size + 1) (.slice none 0 0) (.int .i64 0) (.slice none 0 0) (.slice none 0 0) (.int .u64 0)) ∧ Hid (B5 wr w.heap.size (.slice A0 nt ct) (.int .i64 r.size) (.slice R nr cr) (.slice S ns cs) (.int .u64 (r.on : Nat))) ∧ Hid (Below w.heap.size w wr) ∧ Hid (V0.heap.size ≤ wr.heap.size)) (fun i _ => nr - (intOf i).toNat)
  case atStart => exact ⟨0, Nat.zero_le _, rfl, _, [], Lib.hid (XO.none _ _), Lib.hid rfl, Lib.hid (fun e he => by simp at he), O0, Z0, X0, B0, HV00⟩
  case round =>
    obtain ⟨k, hk, rfl, v, ms, XK, MS, ML, OK, ZK, PK, BK, HVB⟩ := hrel
    have d2 := PK.out.c2
    have o2 := OK.out.b5.c2
    have q2 := OK.out.f2
    obtain ⟨vA, vc, rfl⟩ := own_form XK.out.own
    by_cases hlt : k < nr
    · obtain ⟨e, he⟩ : ∃ e, gs[k]? = some e := ⟨_, List.getElem?_eq_getElem (by omega)⟩
      obtain ⟨b, off, rfl, hbw, hc⟩ := HGS.out.cells (by omega)
      have c0 := keepcell BK.out (hc k e he 0 _ rfl)
      have c1 := keepcell BK.out (hc k e he 1 _ rfl)
      rw [Nat.add_zero] at c0
      have hre := HGS.out.rows e (List.mem_of_getElem? he)
      have hen : e.n ≤ 400 := by
        rw [← hre.len]
        exact HL.out.ring (e.x, e.l) (by rw [HGE.out]; exact List.mem_map.2 ⟨e, List.mem_of_getElem? he, rfl⟩)
      have HRE := Lib.hid (hre.below BK.out)
      have HE := Lib.hid he
      have i0 : (0 : Int) ≤ (k : Int) := by omega
      have i1 : (k : Int) < (nr : Int) := by omega
      have hs0 : wr.cell? ⟨b, off + k * 2, none⟩ = some (.int .i64 e.x) ∧ wr.cell? ⟨b, off + k * 2 + 1, none⟩ = some (.slice e.A e.n e.c) := ⟨c0, c1⟩
      clear he hre hc c0 c1
      go_wp2_with fail
      have s0 : SG w.heap.size b off (some ⟨b, off, none⟩) nr cr k e wr := ⟨d2, hs0⟩
      refine wp_region_held_drew (S := SG w.heap.size b off (some ⟨b, off, none⟩) nr cr k e) (by kernel_rfl) s0 (fun hHeld => ?_)
      refine wpAnyH_takesJ (i := 0) (v := (.pointer (some ⟨w.heap.size + 1 + 1, 2, none⟩))) (some 20) rfl rfl (by kernel_rfl) (by kernel_rfl) (by kernel_rfl) (fun _ _ _ h => h) (Or.inl ⟨by rfl, (by intro W9 hSw; (try dsimp only [SG, SL] at hSw); go_simp; first | done | with_reducible rfl)⟩) (by assumption) ?_
      simp only [Act.put, List.setIfInBounds_toArray]; try simp only [List.set_cons_zero, List.set_cons_succ]
      refine wpAnyH_takesJ (i := 2) (v := (.pointer (some ⟨w.heap.size, 2, none⟩))) (some 22) rfl rfl (by kernel_rfl) (by kernel_rfl) (by kernel_rfl) (fun _ _ _ h => h) (Or.inl ⟨by rfl, (by intro W9 hSw; (try dsimp only [SG, SL] at hSw); go_simp; first | done | with_reducible rfl)⟩) (by assumption) ?_
      simp only [Act.put, List.setIfInBounds_toArray]; try simp only [List.set_cons_zero, List.set_cons_succ]
      refine wpAnyH_takesJ (i := 3) (v := (.slice (some ⟨b, off, none⟩) nr cr)) (some 23) rfl rfl (by kernel_rfl) (by kernel_rfl) (by kernel_rfl) (fun _ _ _ h => h) (Or.inl ⟨by rfl, (by intro W9 hSw; (try dsimp only [SG, SL] at hSw); go_simp; first | done | with_reducible rfl)⟩) (by assumption) ?_
      simp only [Act.put, List.setIfInBounds_toArray]; try simp only [List.set_cons_zero, List.set_cons_succ]
      refine wpAnyH_takesJ (i := 4) (v := (.int .i64 (k : Nat))) (some 24) rfl rfl (by kernel_rfl) (by kernel_rfl) (by kernel_rfl) (fun _ _ _ h => h) (Or.inl ⟨by rfl, (by intro W9 hSw; (try dsimp only [SG, SL] at hSw); go_simp; first | done | with_reducible rfl)⟩) (by assumption) ?_
      simp only [Act.put, List.setIfInBounds_toArray]; try simp only [List.set_cons_zero, List.set_cons_succ]
      refine wpAnyH_takesJ (i := 5) (v := (.pointer (some ⟨b, off + k * 2, none⟩))) (some 25) rfl rfl (by kernel_rfl) (by kernel_rfl) (by kernel_rfl) (fun _ _ _ h => h) (Or.inl ⟨by rfl, (by intro W9 hSw; (try dsimp only [SG, SL] at hSw); go_simp; first | done | with_reducible rfl)⟩) (by assumption) ?_
      simp only [Act.put, List.setIfInBounds_toArray]; try simp only [List.set_cons_zero, List.set_cons_succ]
      refine wpAnyH_takesJ (i := 6) (v := (.pointer (some ⟨b, off + k * 2, none⟩))) (some 26) rfl rfl (by kernel_rfl) (by kernel_rfl) (by kernel_rfl) (fun _ _ _ h => h) (Or.inl ⟨by rfl, (by intro W9 hSw; (try dsimp only [SG, SL] at hSw); go_simp; first | done | with_reducible rfl)⟩) (by assumption) ?_
      simp only [Act.put, List.setIfInBounds_toArray]; try simp only [List.set_cons_zero, List.set_cons_succ]
      refine wpAnyH_takesJ (i := 7) (v := (.int .i64 e.x)) (some 27) rfl rfl (by kernel_rfl) (by kernel_rfl) (by kernel_rfl) (fun _ _ _ h => h) (Or.inl ⟨by rfl, (by intro W9 hSw; (try dsimp only [SG, SL] at hSw); go_simp; first | done | with_reducible rfl)⟩) (by assumption) ?_
      simp only [Act.put, List.setIfInBounds_toArray]; try simp only [List.set_cons_zero, List.set_cons_succ]
      refine wpAnyH_takesJ (i := 9) (v := (.pointer (some ⟨w.heap.size, 2, none⟩))) (some 29) rfl rfl (by kernel_rfl) (by kernel_rfl) (by kernel_rfl) (fun _ _ _ h => h) (Or.inl ⟨by rfl, (by intro W9 hSw; (try dsimp only [SG, SL] at hSw); go_simp; first | done | with_reducible rfl)⟩) (by assumption) ?_
      simp only [Act.put, List.setIfInBounds_toArray]; try simp only [List.set_cons_zero, List.set_cons_succ]
      refine wpAnyH_takesJ (i := 10) (v := (.slice (some ⟨b, off, none⟩) nr cr)) (some 30) rfl rfl (by kernel_rfl) (by kernel_rfl) (by kernel_rfl) (fun _ _ _ h => h) (Or.inl ⟨by rfl, (by intro W9 hSw; (try dsimp only [SG, SL] at hSw); go_simp; first | done | with_reducible rfl)⟩) (by assumption) ?_
      simp only [Act.put, List.setIfInBounds_toArray]; try simp only [List.set_cons_zero, List.set_cons_succ]
      refine wpAnyH_takesJ (i := 11) (v := (.int .i64 (k : Nat))) (some 31) rfl rfl (by kernel_rfl) (by kernel_rfl) (by kernel_rfl) (fun _ _ _ h => h) (Or.inl ⟨by rfl, (by intro W9 hSw; (try dsimp only [SG, SL] at hSw); go_simp; first | done | with_reducible rfl)⟩) (by assumption) ?_
      simp only [Act.put, List.setIfInBounds_toArray]; try simp only [List.set_cons_zero, List.set_cons_succ]
      refine wpAnyH_takesJ (i := 12) (v := (.pointer (some ⟨b, off + k * 2, none⟩))) (some 32) rfl rfl (by kernel_rfl) (by kernel_rfl) (by kernel_rfl) (fun _ _ _ h => h) (Or.inl ⟨by rfl, (by intro W9 hSw; (try dsimp only [SG, SL] at hSw); go_simp; first | done | with_reducible rfl)⟩) (by assumption) ?_
      simp only [Act.put, List.setIfInBounds_toArray]; try simp only [List.set_cons_zero, List.set_cons_succ]
      refine wpAnyH_takesJ (i := 13) (v := (.pointer (some ⟨b, off + k * 2 + 1, none⟩))) (some 33) rfl rfl (by kernel_rfl) (by kernel_rfl) (by kernel_rfl) (fun _ _ _ h => h) (Or.inl ⟨by rfl, (by intro W9 hSw; (try dsimp only [SG, SL] at hSw); go_simp; first | done | with_reducible rfl)⟩) (by assumption) ?_
      simp only [Act.put, List.setIfInBounds_toArray]; try simp only [List.set_cons_zero, List.set_cons_succ]
      refine wpAnyH_takesJ (i := 14) (v := (.slice e.A e.n e.c)) (some 34) rfl rfl (by kernel_rfl) (by kernel_rfl) (by kernel_rfl) (fun _ _ _ h => h) (Or.inl ⟨by rfl, (by intro W9 hSw; (try dsimp only [SG, SL] at hSw); go_simp; first | done | with_reducible rfl)⟩) (by assumption) ?_
      simp only [Act.put, List.setIfInBounds_toArray]; try simp only [List.set_cons_zero, List.set_cons_succ]
      refine wpAnyH_ready (rs := [1, 8]) (by kernel_rfl) (by simp) ?_
      refine AllReadyH.cons rfl (fun K hK => ?_) (AllReadyH.cons rfl (fun K hK => ?_) AllReadyH.nil)
      · go_simp
        refine hK.out _ _ (by exact s0) (fun hHeld => ?_)
        clear hK K
        try dsimp only
        refine wpAnyH_ready (rs := [8]) (by kernel_rfl) (by simp) ?_
        refine AllReadyH.cons rfl (fun K hK => ?_) AllReadyH.nil
        go_simp
        have hb1 : Below wr.heap.size wr (wr.alloc (.cells #[] 3)).drew := (below_new wr _).drew
        have ow1 : (wr.alloc (.cells #[] 3)).drew.ownsRow wr.heap.size 3 1 (.slice (some ⟨wr.heap.size, 0, none⟩) 0 0) 0 (([] : List Int).map (Value.int .i64)) := (own_no wr wr.heap.size 3 1 (Nat.le_refl _)).drew
        obtain ⟨w1, hw1⟩ : ∃ w1, w1 = (wr.alloc (.cells #[] 3)).drew := ⟨_, rfl⟩
        rw [← hw1] at hb1 ow1
        rw [← hw1]
        clear hw1
        have P1 := PK.out.step hb1
        have l1 := keepcell hb1 o2
        have s1 := (⟨P1.c2, keepsG hb1 hs0⟩ : SG w.heap.size b off (some ⟨b, off, none⟩) nr cr k e w1)
        refine hK.out _ _ (by exact s1) (fun hHeld => ?_)
        clear hK K
        try dsimp only
        refine wpAnyH_ready (rs := [15]) (by kernel_rfl) (by simp) ?_
        refine AllReadyH.cons rfl (fun K hK => ?_) AllReadyH.nil
        refine step_append_row (by rfl) (.tmp 28) (.tmp 34) (by rfl) wr.heap.size (.slice (some ⟨wr.heap.size, 0, none⟩) 0 0) 0 [] (by rfl) (by exact ow1) e.A e.n e.c e.l (by rfl) (HRE.out.below hb1) (by have := hen; omega) (by have := hb1.size; omega) ?_
        intro v2 w2 ho2 hg2
        rw [Nat.zero_add, List.nil_append] at ho2
        have hb2 : Below wr.heap.size wr w2 := hb1.grown hg2 hb1.size (fun j hj => (ow1.lt j hj).1)
        obtain ⟨A3, c3, rfl, hr3, hf3⟩ := Row.of_own' ho2
        have P2 := PK.out.step hb2
        have l2 := keepcell hb2 o2
        have s2 := (⟨P2.c2, keepsG hb2 hs0⟩ : SG w.heap.size b off (some ⟨b, off, none⟩) nr cr k e w2)
        refine hK.out _ _ (by exact s2) (fun hHeld => ?_)
        clear hK K
        try dsimp only
        refine wpAnyH_takesJ (i := 16) (v := (.agg #[.int .i64 e.x, .slice A3 e.n c3])) (some 36) rfl rfl (by kernel_rfl) (by kernel_rfl) (by kernel_rfl) (fun _ _ _ h => h) (Or.inl ⟨by rfl, (by intro W9 hSw; (try dsimp only [SG, SL] at hSw); go_simp; first | done | with_reducible rfl)⟩) (by assumption) ?_
        simp only [Act.put, List.setIfInBounds_toArray]; try simp only [List.set_cons_zero, List.set_cons_succ]
        refine wpAnyH_ready (rs := [17]) (by kernel_rfl) (by simp) ?_
        refine AllReadyH.cons rfl (fun K hK => ?_) AllReadyH.nil
        go_simp
        have hbn := below_new w2 (.cells #[.int .i64 e.x, .slice A3 e.n c3] 45)
        have hb3 := hb2.trans (hbn.mono hb2.size)
        have hnews : ∀ j u, ([(⟨e.x, e.l, A3, e.n, c3⟩ : El)].flatMap csG)[j]? = some u → (w2.alloc (.cells #[.int .i64 e.x, .slice A3 e.n c3] 45)).cell? ((⟨w2.heap.size, 0, none⟩ : Addr).add j) = some u := one_new (T := 45) w2 ⟨e.x, e.l, A3, e.n, c3⟩
        have hr4 := hr3.below hbn
        obtain ⟨w3, hw3⟩ : ∃ w3, w3 = w2.alloc (.cells #[.int .i64 e.x, .slice A3 e.n c3] 45) := ⟨_, rfl⟩
        rw [← hw3] at hb3 hnews hr4
        rw [← hw3]
        clear hw3
        have P3 := PK.out.step hb3
        have l3 := keepcell hb3 o2
        have s3 := (⟨P3.c2, keepsG hb3 hs0⟩ : SG w.heap.size b off (some ⟨b, off, none⟩) nr cr k e w3)
        refine hK.out _ _ (by exact s3) (fun hHeld => ?_)
        clear hK K
        try dsimp only
        refine wpAnyH_ready (rs := [18]) (by kernel_rfl) (by simp) ?_
        refine AllReadyH.cons rfl (fun K hK => ?_) AllReadyH.nil
        refine step_append_ring (by rfl) (.tmp 21) (.tmp 37) (by rfl) V0.heap.size (.slice vA k vc) k ms (by exact XK.out.step hb3) (by rfl) ⟨w2.heap.size, 0, none⟩ 1 1 [⟨e.x, e.l, A3, e.n, c3⟩] (by rfl) rfl (by exact hnews) (fun e' he' => by rw [List.mem_singleton.1 he']; exact hr4) (fun e' he' hne ad hA ho => by
          rw [List.mem_singleton.1 he'] at hA
          have h1 := hf3 ad hA
          have h2 := (XK.out.own.lt _ ho).2
          omega) (by decide) (by omega) (by have h1 := hb3.size; have h2 := HVB.out; omega) ?_
        intro g cap w' hx hg
        have hgb := hx.own.lt g rfl
        have hgk : ∀ j, (Value.slice vA k vc).ownBlock = some j → V0.heap.size ≤ j := fun j hj => (XK.out.own.lt j hj).1
        have hne : ∀ j, j < w.heap.size + 1 + 1 + 1 → some j ≠ (Value.slice vA k vc).ownBlock := fun j hj e => by
          have := hgk j e.symm
          have := SZ.out
          omega
        have B2 := held_trans BK.out hb3
        have O3 := (OK.out.step hb3).grown hg (hne _ (by omega))
        have Z3 := (ZK.out.step hb3).grown hg (hne _ (by omega))
        have P4' := P3.grown hg (hne _ (by omega))
        have sc := keepsgG (w := w3) (w' := w') hg (hne b (by omega)) s3.2
        have B3 := B2.grown hg B2.size (fun j hj => by have := hgk j hj; have := SZ.out; omega)
        have s4 := (⟨P4'.c2, sc⟩ : SG w.heap.size b off (some ⟨b, off, none⟩) nr cr k e w')
        refine hK.out _ _ (by exact s4) (fun hHeld => ?_)
        clear hK K
        try dsimp only
        refine wpAnyH_takesJ (i := 19) (v := (.pointer (some ⟨w.heap.size + 1 + 1, 2, none⟩))) (some 39) rfl rfl (by kernel_rfl) (by kernel_rfl) (by kernel_rfl) (fun _ _ _ h => h) (Or.inl ⟨by rfl, (by intro W9 hSw; (try dsimp only [SG, SL] at hSw); go_simp; first | done | with_reducible rfl)⟩) (by assumption) ?_
        simp only [Act.put, List.setIfInBounds_toArray]; try simp only [List.set_cons_zero, List.set_cons_succ]
        have o23 := O3.b5.c2
        have q23 := O3.f2
        refine wpAnyH_ready (rs := [20]) (by kernel_rfl) (by simp) ?_
        refine AllReadyH.cons rfl (fun K hK => ?_) AllReadyH.nil
        go_simp
        have hmsb : ∀ e' ∈ ms ++ [(⟨e.x, e.l, A3, e.n, c3⟩ : El)], e'.l ≠ [] → ∀ ad, e'.A = some ad → V0.heap.size ≤ ad.block := fun e' he' hne ad hA => by
          rcases List.mem_append.1 he' with h' | h'
          · exact ML.out e' h' hne ad hA
          · rw [List.mem_singleton.1 h'] at hA
            have h1 := hf3 ad hA
            have h2 := HVB.out
            omega
        have XK4 := Lib.hid (hx.far (X := w.heap.size + 1 + 1) (j := 2) (u := .slice (some ⟨g, 0, none⟩) (k + 1) cap) (by have := SZ.out; omega) (fun e' he' hne ad hA => by have h1 := hmsb e' he' hne ad hA; have h2 := SZ.out; omega))
        have MS4 := Lib.hid (show (ms ++ [(⟨e.x, e.l, A3, e.n, c3⟩ : El)]).map elG = (gs.map elG).take (k + 1) from by
          rw [List.map_append, MS.out, ← List.map_take, ← List.map_take, List.take_add_one, HE.out, List.map_append]
          rfl)
        have ML4 := Lib.hid hmsb
        have O4 := Lib.hid (O3.set2 (.slice (some ⟨g, 0, none⟩) (k + 1) cap))
        have Z4 := Lib.hid (Z3.far (p := ⟨w.heap.size + 1 + 1, 2, none⟩) (u := .slice (some ⟨g, 0, none⟩) (k + 1) cap) (by simp only; omega))
        have P4 := Lib.hid (P4'.far (p := ⟨w.heap.size + 1 + 1, 2, none⟩) (u := .slice (some ⟨g, 0, none⟩) (k + 1) cap) (by simp only; omega))
        have B4 := Lib.hid (B3.setCell (p := ⟨w.heap.size + 1 + 1, 2, none⟩) (by simp only; omega) (.slice (some ⟨g, 0, none⟩) (k + 1) cap))
        have HV4 := Lib.hid (show V0.heap.size ≤ (w'.setCell ⟨w.heap.size + 1 + 1, 2, none⟩ (.slice (some ⟨g, 0, none⟩) (k + 1) cap)).heap.size from by have := hgb; simp [World.setCell]; omega)
        have s5 := (⟨P4.out.c2, keepsfG (by omega) s4.2⟩ : SG w.heap.size b off (some ⟨b, off, none⟩) nr cr k e (w'.setCell ⟨w.heap.size + 1 + 1, 2, none⟩ (.slice (some ⟨g, 0, none⟩) (k + 1) cap)))
        refine hK.out _ _ (by exact s5) (fun hHeld => ?_)
        clear hK K
        try dsimp only
        refine wpAnyH_done (by kernel_rfl) ?_ _
        clear hx hg O3 Z3 P4' sc B3 B2 hnews hb1 hb2 hb3 hbn ow1 ho2 hg2 hr3 hr4 hf3 o23 q23 o2 q2 d2 hHeld hne hgk P1 P2 P3 l1 l2 l3 s0 s1 s2 s3 s4 s5 hs0 hmsb hgb
        go_wp2_with fail
        go_roundw
        case rel => exact ⟨k + 1, by omega, by go_num, _, _, XK4, MS4, ML4, O4, Z4, P4, B4, HV4⟩
        case measure => simp [intOf]; omega
      · go_simp
        have hb1 : Below wr.heap.size wr (wr.alloc (.cells #[] 3)).drew := (below_new wr _).drew
        have ow1 : (wr.alloc (.cells #[] 3)).drew.ownsRow wr.heap.size 3 1 (.slice (some ⟨wr.heap.size, 0, none⟩) 0 0) 0 (([] : List Int).map (Value.int .i64)) := (own_no wr wr.heap.size 3 1 (Nat.le_refl _)).drew
        obtain ⟨w1, hw1⟩ : ∃ w1, w1 = (wr.alloc (.cells #[] 3)).drew := ⟨_, rfl⟩
        rw [← hw1] at hb1 ow1
        rw [← hw1]
        clear hw1
        have P1 := PK.out.step hb1
        have l1 := keepcell hb1 o2
        have s1 := (⟨P1.c2, keepsG hb1 hs0⟩ : SG w.heap.size b off (some ⟨b, off, none⟩) nr cr k e w1)
        refine hK.out _ _ (by exact s1) (fun hHeld => ?_)
        clear hK K
        try dsimp only
        refine wpAnyH_ready (rs := [1, 15]) (by kernel_rfl) (by simp) ?_
        refine AllReadyH.cons rfl (fun K hK => ?_) (AllReadyH.cons rfl (fun K hK => ?_) AllReadyH.nil)
        · go_simp
          refine hK.out _ _ (by exact s1) (fun hHeld => ?_)
          clear hK K
          try dsimp only
          refine wpAnyH_ready (rs := [15]) (by kernel_rfl) (by simp) ?_
          refine AllReadyH.cons rfl (fun K hK => ?_) AllReadyH.nil
          refine step_append_row (by rfl) (.tmp 28) (.tmp 34) (by rfl) wr.heap.size (.slice (some ⟨wr.heap.size, 0, none⟩) 0 0) 0 [] (by rfl) (by exact ow1) e.A e.n e.c e.l (by rfl) (HRE.out.below hb1) (by have := hen; omega) (by have := hb1.size; omega) ?_
          intro v2 w2 ho2 hg2
          rw [Nat.zero_add, List.nil_append] at ho2
          have hb2 : Below wr.heap.size wr w2 := hb1.grown hg2 hb1.size (fun j hj => (ow1.lt j hj).1)
          obtain ⟨A3, c3, rfl, hr3, hf3⟩ := Row.of_own' ho2
          have P2 := PK.out.step hb2
          have l2 := keepcell hb2 o2
          have s2 := (⟨P2.c2, keepsG hb2 hs0⟩ : SG w.heap.size b off (some ⟨b, off, none⟩) nr cr k e w2)
          refine hK.out _ _ (by exact s2) (fun hHeld => ?_)
          clear hK K
          try dsimp only
          refine wpAnyH_takesJ (i := 16) (v := (.agg #[.int .i64 e.x, .slice A3 e.n c3])) (some 36) rfl rfl (by kernel_rfl) (by kernel_rfl) (by kernel_rfl) (fun _ _ _ h => h) (Or.inl ⟨by rfl, (by intro W9 hSw; (try dsimp only [SG, SL] at hSw); go_simp; first | done | with_reducible rfl)⟩) (by assumption) ?_
          simp only [Act.put, List.setIfInBounds_toArray]; try simp only [List.set_cons_zero, List.set_cons_succ]
          refine wpAnyH_ready (rs := [17]) (by kernel_rfl) (by simp) ?_
          refine AllReadyH.cons rfl (fun K hK => ?_) AllReadyH.nil
          go_simp
          have hbn := below_new w2 (.cells #[.int .i64 e.x, .slice A3 e.n c3] 45)
          have hb3 := hb2.trans (hbn.mono hb2.size)
          have hnews : ∀ j u, ([(⟨e.x, e.l, A3, e.n, c3⟩ : El)].flatMap csG)[j]? = some u → (w2.alloc (.cells #[.int .i64 e.x, .slice A3 e.n c3] 45)).cell? ((⟨w2.heap.size, 0, none⟩ : Addr).add j) = some u := one_new (T := 45) w2 ⟨e.x, e.l, A3, e.n, c3⟩
          have hr4 := hr3.below hbn
          obtain ⟨w3, hw3⟩ : ∃ w3, w3 = w2.alloc (.cells #[.int .i64 e.x, .slice A3 e.n c3] 45) := ⟨_, rfl⟩
          rw [← hw3] at hb3 hnews hr4
          rw [← hw3]
          clear hw3
          have P3 := PK.out.step hb3
          have l3 := keepcell hb3 o2
          have s3 := (⟨P3.c2, keepsG hb3 hs0⟩ : SG w.heap.size b off (some ⟨b, off, none⟩) nr cr k e w3)
          refine hK.out _ _ (by exact s3) (fun hHeld => ?_)
          clear hK K
          try dsimp only
          refine wpAnyH_ready (rs := [18]) (by kernel_rfl) (by simp) ?_
          refine AllReadyH.cons rfl (fun K hK => ?_) AllReadyH.nil
          refine step_append_ring (by rfl) (.tmp 21) (.tmp 37) (by rfl) V0.heap.size (.slice vA k vc) k ms (by exact XK.out.step hb3) (by rfl) ⟨w2.heap.size, 0, none⟩ 1 1 [⟨e.x, e.l, A3, e.n, c3⟩] (by rfl) rfl (by exact hnews) (fun e' he' => by rw [List.mem_singleton.1 he']; exact hr4) (fun e' he' hne ad hA ho => by
            rw [List.mem_singleton.1 he'] at hA
            have h1 := hf3 ad hA
            have h2 := (XK.out.own.lt _ ho).2
            omega) (by decide) (by omega) (by have h1 := hb3.size; have h2 := HVB.out; omega) ?_
          intro g cap w' hx hg
          have hgb := hx.own.lt g rfl
          have hgk : ∀ j, (Value.slice vA k vc).ownBlock = some j → V0.heap.size ≤ j := fun j hj => (XK.out.own.lt j hj).1
          have hne : ∀ j, j < w.heap.size + 1 + 1 + 1 → some j ≠ (Value.slice vA k vc).ownBlock := fun j hj e => by
            have := hgk j e.symm
            have := SZ.out
            omega
          have B2 := held_trans BK.out hb3
          have O3 := (OK.out.step hb3).grown hg (hne _ (by omega))
          have Z3 := (ZK.out.step hb3).grown hg (hne _ (by omega))
          have P4' := P3.grown hg (hne _ (by omega))
          have sc := keepsgG (w := w3) (w' := w') hg (hne b (by omega)) s3.2
          have B3 := B2.grown hg B2.size (fun j hj => by have := hgk j hj; have := SZ.out; omega)
          have s4 := (⟨P4'.c2, sc⟩ : SG w.heap.size b off (some ⟨b, off, none⟩) nr cr k e w')
          refine hK.out _ _ (by exact s4) (fun hHeld => ?_)
          clear hK K
          try dsimp only
          refine wpAnyH_takesJ (i := 19) (v := (.pointer (some ⟨w.heap.size + 1 + 1, 2, none⟩))) (some 39) rfl rfl (by kernel_rfl) (by kernel_rfl) (by kernel_rfl) (fun _ _ _ h => h) (Or.inl ⟨by rfl, (by intro W9 hSw; (try dsimp only [SG, SL] at hSw); go_simp; first | done | with_reducible rfl)⟩) (by assumption) ?_
          simp only [Act.put, List.setIfInBounds_toArray]; try simp only [List.set_cons_zero, List.set_cons_succ]
          have o23 := O3.b5.c2
          have q23 := O3.f2
          refine wpAnyH_ready (rs := [20]) (by kernel_rfl) (by simp) ?_
          refine AllReadyH.cons rfl (fun K hK => ?_) AllReadyH.nil
          go_simp
          have hmsb : ∀ e' ∈ ms ++ [(⟨e.x, e.l, A3, e.n, c3⟩ : El)], e'.l ≠ [] → ∀ ad, e'.A = some ad → V0.heap.size ≤ ad.block := fun e' he' hne ad hA => by
            rcases List.mem_append.1 he' with h' | h'
            · exact ML.out e' h' hne ad hA
            · rw [List.mem_singleton.1 h'] at hA
              have h1 := hf3 ad hA
              have h2 := HVB.out
              omega
          have XK4 := Lib.hid (hx.far (X := w.heap.size + 1 + 1) (j := 2) (u := .slice (some ⟨g, 0, none⟩) (k + 1) cap) (by have := SZ.out; omega) (fun e' he' hne ad hA => by have h1 := hmsb e' he' hne ad hA; have h2 := SZ.out; omega))
          have MS4 := Lib.hid (show (ms ++ [(⟨e.x, e.l, A3, e.n, c3⟩ : El)]).map elG = (gs.map elG).take (k + 1) from by
            rw [List.map_append, MS.out, ← List.map_take, ← List.map_take, List.take_add_one, HE.out, List.map_append]
            rfl)
          have ML4 := Lib.hid hmsb
          have O4 := Lib.hid (O3.set2 (.slice (some ⟨g, 0, none⟩) (k + 1) cap))
          have Z4 := Lib.hid (Z3.far (p := ⟨w.heap.size + 1 + 1, 2, none⟩) (u := .slice (some ⟨g, 0, none⟩) (k + 1) cap) (by simp only; omega))
          have P4 := Lib.hid (P4'.far (p := ⟨w.heap.size + 1 + 1, 2, none⟩) (u := .slice (some ⟨g, 0, none⟩) (k + 1) cap) (by simp only; omega))
          have B4 := Lib.hid (B3.setCell (p := ⟨w.heap.size + 1 + 1, 2, none⟩) (by simp only; omega) (.slice (some ⟨g, 0, none⟩) (k + 1) cap))
          have HV4 := Lib.hid (show V0.heap.size ≤ (w'.setCell ⟨w.heap.size + 1 + 1, 2, none⟩ (.slice (some ⟨g, 0, none⟩) (k + 1) cap)).heap.size from by have := hgb; simp [World.setCell]; omega)
          have s5 := (⟨P4.out.c2, keepsfG (by omega) s4.2⟩ : SG w.heap.size b off (some ⟨b, off, none⟩) nr cr k e (w'.setCell ⟨w.heap.size + 1 + 1, 2, none⟩ (.slice (some ⟨g, 0, none⟩) (k + 1) cap)))
          refine hK.out _ _ (by exact s5) (fun hHeld => ?_)
          clear hK K
          try dsimp only
          refine wpAnyH_done (by kernel_rfl) ?_ _
          clear hx hg O3 Z3 P4' sc B3 B2 hnews hb1 hb2 hb3 hbn ow1 ho2 hg2 hr3 hr4 hf3 o23 q23 o2 q2 d2 hHeld hne hgk P1 P2 P3 l1 l2 l3 s0 s1 s2 s3 s4 s5 hs0 hmsb hgb
          go_wp2_with fail
          go_roundw
          case rel => exact ⟨k + 1, by omega, by go_num, _, _, XK4, MS4, ML4, O4, Z4, P4, B4, HV4⟩
          case measure => simp [intOf]; omega
        · skip
          refine step_append_row (by rfl) (.tmp 28) (.tmp 34) (by rfl) wr.heap.size (.slice (some ⟨wr.heap.size, 0, none⟩) 0 0) 0 [] (by rfl) (by exact ow1) e.A e.n e.c e.l (by rfl) (HRE.out.below hb1) (by have := hen; omega) (by have := hb1.size; omega) ?_
          intro v2 w2 ho2 hg2
          rw [Nat.zero_add, List.nil_append] at ho2
          have hb2 : Below wr.heap.size wr w2 := hb1.grown hg2 hb1.size (fun j hj => (ow1.lt j hj).1)
          obtain ⟨A3, c3, rfl, hr3, hf3⟩ := Row.of_own' ho2
          have P2 := PK.out.step hb2
          have l2 := keepcell hb2 o2
          have s2 := (⟨P2.c2, keepsG hb2 hs0⟩ : SG w.heap.size b off (some ⟨b, off, none⟩) nr cr k e w2)
          refine hK.out _ _ (by exact s2) (fun hHeld => ?_)
          clear hK K
          try dsimp only
          refine wpAnyH_takesJ (i := 16) (v := (.agg #[.int .i64 e.x, .slice A3 e.n c3])) (some 36) rfl rfl (by kernel_rfl) (by kernel_rfl) (by kernel_rfl) (fun _ _ _ h => h) (Or.inl ⟨by rfl, (by intro W9 hSw; (try dsimp only [SG, SL] at hSw); go_simp; first | done | with_reducible rfl)⟩) (by assumption) ?_
          simp only [Act.put, List.setIfInBounds_toArray]; try simp only [List.set_cons_zero, List.set_cons_succ]
          refine wpAnyH_ready (rs := [1, 17]) (by kernel_rfl) (by simp) ?_
          refine AllReadyH.cons rfl (fun K hK => ?_) (AllReadyH.cons rfl (fun K hK => ?_) AllReadyH.nil)
          · go_simp
            refine hK.out _ _ (by exact s2) (fun hHeld => ?_)
            clear hK K
            try dsimp only
            refine wpAnyH_ready (rs := [17]) (by kernel_rfl) (by simp) ?_
            refine AllReadyH.cons rfl (fun K hK => ?_) AllReadyH.nil
            go_simp
            have hbn := below_new w2 (.cells #[.int .i64 e.x, .slice A3 e.n c3] 45)
            have hb3 := hb2.trans (hbn.mono hb2.size)
            have hnews : ∀ j u, ([(⟨e.x, e.l, A3, e.n, c3⟩ : El)].flatMap csG)[j]? = some u → (w2.alloc (.cells #[.int .i64 e.x, .slice A3 e.n c3] 45)).cell? ((⟨w2.heap.size, 0, none⟩ : Addr).add j) = some u := one_new (T := 45) w2 ⟨e.x, e.l, A3, e.n, c3⟩
            have hr4 := hr3.below hbn
            obtain ⟨w3, hw3⟩ : ∃ w3, w3 = w2.alloc (.cells #[.int .i64 e.x, .slice A3 e.n c3] 45) := ⟨_, rfl⟩
            rw [← hw3] at hb3 hnews hr4
            rw [← hw3]
            clear hw3
            have P3 := PK.out.step hb3
            have l3 := keepcell hb3 o2
            have s3 := (⟨P3.c2, keepsG hb3 hs0⟩ : SG w.heap.size b off (some ⟨b, off, none⟩) nr cr k e w3)
            refine hK.out _ _ (by exact s3) (fun hHeld => ?_)
            clear hK K
            try dsimp only
            refine wpAnyH_ready (rs := [18]) (by kernel_rfl) (by simp) ?_
            refine AllReadyH.cons rfl (fun K hK => ?_) AllReadyH.nil
            refine step_append_ring (by rfl) (.tmp 21) (.tmp 37) (by rfl) V0.heap.size (.slice vA k vc) k ms (by exact XK.out.step hb3) (by rfl) ⟨w2.heap.size, 0, none⟩ 1 1 [⟨e.x, e.l, A3, e.n, c3⟩] (by rfl) rfl (by exact hnews) (fun e' he' => by rw [List.mem_singleton.1 he']; exact hr4) (fun e' he' hne ad hA ho => by
              rw [List.mem_singleton.1 he'] at hA
              have h1 := hf3 ad hA
              have h2 := (XK.out.own.lt _ ho).2
              omega) (by decide) (by omega) (by have h1 := hb3.size; have h2 := HVB.out; omega) ?_
            intro g cap w' hx hg
            have hgb := hx.own.lt g rfl
            have hgk : ∀ j, (Value.slice vA k vc).ownBlock = some j → V0.heap.size ≤ j := fun j hj => (XK.out.own.lt j hj).1
            have hne : ∀ j, j < w.heap.size + 1 + 1 + 1 → some j ≠ (Value.slice vA k vc).ownBlock := fun j hj e => by
              have := hgk j e.symm
              have := SZ.out
              omega
            have B2 := held_trans BK.out hb3
            have O3 := (OK.out.step hb3).grown hg (hne _ (by omega))
            have Z3 := (ZK.out.step hb3).grown hg (hne _ (by omega))
            have P4' := P3.grown hg (hne _ (by omega))
            have sc := keepsgG (w := w3) (w' := w') hg (hne b (by omega)) s3.2
            have B3 := B2.grown hg B2.size (fun j hj => by have := hgk j hj; have := SZ.out; omega)
            have s4 := (⟨P4'.c2, sc⟩ : SG w.heap.size b off (some ⟨b, off, none⟩) nr cr k e w')
            refine hK.out _ _ (by exact s4) (fun hHeld => ?_)
            clear hK K
            try dsimp only
            refine wpAnyH_takesJ (i := 19) (v := (.pointer (some ⟨w.heap.size + 1 + 1, 2, none⟩))) (some 39) rfl rfl (by kernel_rfl) (by kernel_rfl) (by kernel_rfl) (fun _ _ _ h => h) (Or.inl ⟨by rfl, (by intro W9 hSw; (try dsimp only [SG, SL] at hSw); go_simp; first | done | with_reducible rfl)⟩) (by assumption) ?_
            simp only [Act.put, List.setIfInBounds_toArray]; try simp only [List.set_cons_zero, List.set_cons_succ]
            have o23 := O3.b5.c2
            have q23 := O3.f2
            refine wpAnyH_ready (rs := [20]) (by kernel_rfl) (by simp) ?_
            refine AllReadyH.cons rfl (fun K hK => ?_) AllReadyH.nil
            go_simp
            have hmsb : ∀ e' ∈ ms ++ [(⟨e.x, e.l, A3, e.n, c3⟩ : El)], e'.l ≠ [] → ∀ ad, e'.A = some ad → V0.heap.size ≤ ad.block := fun e' he' hne ad hA => by
              rcases List.mem_append.1 he' with h' | h'
              · exact ML.out e' h' hne ad hA
              · rw [List.mem_singleton.1 h'] at hA
                have h1 := hf3 ad hA
                have h2 := HVB.out
                omega
            have XK4 := Lib.hid (hx.far (X := w.heap.size + 1 + 1) (j := 2) (u := .slice (some ⟨g, 0, none⟩) (k + 1) cap) (by have := SZ.out; omega) (fun e' he' hne ad hA => by have h1 := hmsb e' he' hne ad hA; have h2 := SZ.out; omega))
            have MS4 := Lib.hid (show (ms ++ [(⟨e.x, e.l, A3, e.n, c3⟩ : El)]).map elG = (gs.map elG).take (k + 1) from by
              rw [List.map_append, MS.out, ← List.map_take, ← List.map_take, List.take_add_one, HE.out, List.map_append]
              rfl)
            have ML4 := Lib.hid hmsb
            have O4 := Lib.hid (O3.set2 (.slice (some ⟨g, 0, none⟩) (k + 1) cap))
            have Z4 := Lib.hid (Z3.far (p := ⟨w.heap.size + 1 + 1, 2, none⟩) (u := .slice (some ⟨g, 0, none⟩) (k + 1) cap) (by simp only; omega))
            have P4 := Lib.hid (P4'.far (p := ⟨w.heap.size + 1 + 1, 2, none⟩) (u := .slice (some ⟨g, 0, none⟩) (k + 1) cap) (by simp only; omega))
            have B4 := Lib.hid (B3.setCell (p := ⟨w.heap.size + 1 + 1, 2, none⟩) (by simp only; omega) (.slice (some ⟨g, 0, none⟩) (k + 1) cap))
            have HV4 := Lib.hid (show V0.heap.size ≤ (w'.setCell ⟨w.heap.size + 1 + 1, 2, none⟩ (.slice (some ⟨g, 0, none⟩) (k + 1) cap)).heap.size from by have := hgb; simp [World.setCell]; omega)
            have s5 := (⟨P4.out.c2, keepsfG (by omega) s4.2⟩ : SG w.heap.size b off (some ⟨b, off, none⟩) nr cr k e (w'.setCell ⟨w.heap.size + 1 + 1, 2, none⟩ (.slice (some ⟨g, 0, none⟩) (k + 1) cap)))
            refine hK.out _ _ (by exact s5) (fun hHeld => ?_)
            clear hK K
            try dsimp only
            refine wpAnyH_done (by kernel_rfl) ?_ _
            clear hx hg O3 Z3 P4' sc B3 B2 hnews hb1 hb2 hb3 hbn ow1 ho2 hg2 hr3 hr4 hf3 o23 q23 o2 q2 d2 hHeld hne hgk P1 P2 P3 l1 l2 l3 s0 s1 s2 s3 s4 s5 hs0 hmsb hgb
            go_wp2_with fail
            go_roundw
            case rel => exact ⟨k + 1, by omega, by go_num, _, _, XK4, MS4, ML4, O4, Z4, P4, B4, HV4⟩
            case measure => simp [intOf]; omega
          · go_simp
            have hbn := below_new w2 (.cells #[.int .i64 e.x, .slice A3 e.n c3] 45)
            have hb3 := hb2.trans (hbn.mono hb2.size)
            have hnews : ∀ j u, ([(⟨e.x, e.l, A3, e.n, c3⟩ : El)].flatMap csG)[j]? = some u → (w2.alloc (.cells #[.int .i64 e.x, .slice A3 e.n c3] 45)).cell? ((⟨w2.heap.size, 0, none⟩ : Addr).add j) = some u := one_new (T := 45) w2 ⟨e.x, e.l, A3, e.n, c3⟩
            have hr4 := hr3.below hbn
            obtain ⟨w3, hw3⟩ : ∃ w3, w3 = w2.alloc (.cells #[.int .i64 e.x, .slice A3 e.n c3] 45) := ⟨_, rfl⟩
            rw [← hw3] at hb3 hnews hr4
            rw [← hw3]
            clear hw3
            have P3 := PK.out.step hb3
            have l3 := keepcell hb3 o2
            have s3 := (⟨P3.c2, keepsG hb3 hs0⟩ : SG w.heap.size b off (some ⟨b, off, none⟩) nr cr k e w3)
            refine hK.out _ _ (by exact s3) (fun hHeld => ?_)
            clear hK K
            try dsimp only
            refine wpAnyH_ready (rs := [1]) (by kernel_rfl) (by simp) ?_
            refine AllReadyH.cons rfl (fun K hK => ?_) AllReadyH.nil
            go_simp
            refine hK.out _ _ (by exact s3) (fun hHeld => ?_)
            clear hK K
            try dsimp only
            refine wpAnyH_ready (rs := [18]) (by kernel_rfl) (by simp) ?_
            refine AllReadyH.cons rfl (fun K hK => ?_) AllReadyH.nil
            refine step_append_ring (by rfl) (.tmp 21) (.tmp 37) (by rfl) V0.heap.size (.slice vA k vc) k ms (by exact XK.out.step hb3) (by rfl) ⟨w2.heap.size, 0, none⟩ 1 1 [⟨e.x, e.l, A3, e.n, c3⟩] (by rfl) rfl (by exact hnews) (fun e' he' => by rw [List.mem_singleton.1 he']; exact hr4) (fun e' he' hne ad hA ho => by
              rw [List.mem_singleton.1 he'] at hA
              have h1 := hf3 ad hA
              have h2 := (XK.out.own.lt _ ho).2
              omega) (by decide) (by omega) (by have h1 := hb3.size; have h2 := HVB.out; omega) ?_
            intro g cap w' hx hg
            have hgb := hx.own.lt g rfl
            have hgk : ∀ j, (Value.slice vA k vc).ownBlock = some j → V0.heap.size ≤ j := fun j hj => (XK.out.own.lt j hj).1
            have hne : ∀ j, j < w.heap.size + 1 + 1 + 1 → some j ≠ (Value.slice vA k vc).ownBlock := fun j hj e => by
              have := hgk j e.symm
              have := SZ.out
              omega
            have B2 := held_trans BK.out hb3
            have O3 := (OK.out.step hb3).grown hg (hne _ (by omega))
            have Z3 := (ZK.out.step hb3).grown hg (hne _ (by omega))
            have P4' := P3.grown hg (hne _ (by omega))
            have sc := keepsgG (w := w3) (w' := w') hg (hne b (by omega)) s3.2
            have B3 := B2.grown hg B2.size (fun j hj => by have := hgk j hj; have := SZ.out; omega)
            have s4 := (⟨P4'.c2, sc⟩ : SG w.heap.size b off (some ⟨b, off, none⟩) nr cr k e w')
            refine hK.out _ _ (by exact s4) (fun hHeld => ?_)
            clear hK K
            try dsimp only
            refine wpAnyH_takesJ (i := 19) (v := (.pointer (some ⟨w.heap.size + 1 + 1, 2, none⟩))) (some 39) rfl rfl (by kernel_rfl) (by kernel_rfl) (by kernel_rfl) (fun _ _ _ h => h) (Or.inl ⟨by rfl, (by intro W9 hSw; (try dsimp only [SG, SL] at hSw); go_simp; first | done | with_reducible rfl)⟩) (by assumption) ?_
            simp only [Act.put, List.setIfInBounds_toArray]; try simp only [List.set_cons_zero, List.set_cons_succ]
            have o23 := O3.b5.c2
            have q23 := O3.f2
            refine wpAnyH_ready (rs := [20]) (by kernel_rfl) (by simp) ?_
            refine AllReadyH.cons rfl (fun K hK => ?_) AllReadyH.nil
            go_simp
            have hmsb : ∀ e' ∈ ms ++ [(⟨e.x, e.l, A3, e.n, c3⟩ : El)], e'.l ≠ [] → ∀ ad, e'.A = some ad → V0.heap.size ≤ ad.block := fun e' he' hne ad hA => by
              rcases List.mem_append.1 he' with h' | h'
              · exact ML.out e' h' hne ad hA
              · rw [List.mem_singleton.1 h'] at hA
                have h1 := hf3 ad hA
                have h2 := HVB.out
                omega
            have XK4 := Lib.hid (hx.far (X := w.heap.size + 1 + 1) (j := 2) (u := .slice (some ⟨g, 0, none⟩) (k + 1) cap) (by have := SZ.out; omega) (fun e' he' hne ad hA => by have h1 := hmsb e' he' hne ad hA; have h2 := SZ.out; omega))
            have MS4 := Lib.hid (show (ms ++ [(⟨e.x, e.l, A3, e.n, c3⟩ : El)]).map elG = (gs.map elG).take (k + 1) from by
              rw [List.map_append, MS.out, ← List.map_take, ← List.map_take, List.take_add_one, HE.out, List.map_append]
              rfl)
            have ML4 := Lib.hid hmsb
            have O4 := Lib.hid (O3.set2 (.slice (some ⟨g, 0, none⟩) (k + 1) cap))
            have Z4 := Lib.hid (Z3.far (p := ⟨w.heap.size + 1 + 1, 2, none⟩) (u := .slice (some ⟨g, 0, none⟩) (k + 1) cap) (by simp only; omega))
            have P4 := Lib.hid (P4'.far (p := ⟨w.heap.size + 1 + 1, 2, none⟩) (u := .slice (some ⟨g, 0, none⟩) (k + 1) cap) (by simp only; omega))
            have B4 := Lib.hid (B3.setCell (p := ⟨w.heap.size + 1 + 1, 2, none⟩) (by simp only; omega) (.slice (some ⟨g, 0, none⟩) (k + 1) cap))
            have HV4 := Lib.hid (show V0.heap.size ≤ (w'.setCell ⟨w.heap.size + 1 + 1, 2, none⟩ (.slice (some ⟨g, 0, none⟩) (k + 1) cap)).heap.size from by have := hgb; simp [World.setCell]; omega)
            have s5 := (⟨P4.out.c2, keepsfG (by omega) s4.2⟩ : SG w.heap.size b off (some ⟨b, off, none⟩) nr cr k e (w'.setCell ⟨w.heap.size + 1 + 1, 2, none⟩ (.slice (some ⟨g, 0, none⟩) (k + 1) cap)))
            refine hK.out _ _ (by exact s5) (fun hHeld => ?_)
            clear hK K
            try dsimp only
            refine wpAnyH_done (by kernel_rfl) ?_ _
            clear hx hg O3 Z3 P4' sc B3 B2 hnews hb1 hb2 hb3 hbn ow1 ho2 hg2 hr3 hr4 hf3 o23 q23 o2 q2 d2 hHeld hne hgk P1 P2 P3 l1 l2 l3 s0 s1 s2 s3 s4 s5 hs0 hmsb hgb
            go_wp2_with fail
            go_roundw
            case rel => exact ⟨k + 1, by omega, by go_num, _, _, XK4, MS4, ML4, O4, Z4, P4, B4, HV4⟩
            case measure => simp [intOf]; omega
    · obtain rfl : nr = k := by omega
      obtain ⟨wo, rfl⟩ : ∃ wo : World, wo = wr := ⟨_, rfl⟩
      go_wp2_with fail
      obtain ⟨vG, hvG⟩ : ∃ vG, vG = Value.slice vA nr vc := ⟨_, rfl⟩
      obtain ⟨mG, hmG⟩ : ∃ mG, mG = ms := ⟨_, rfl⟩
      rw [← hvG] at XK OK
      rw [← hmG] at XK MS ML
      have GE := Lib.hid (show mG.map elG = r.rings from by rw [MS.out, ← HGE.out, List.take_of_length_le (by omega)])
      have GB := Lib.hid (show (∀ q, vG.ownBlock = some q → q < wo.heap.size) ∧ ∀ e' ∈ mG, e'.l ≠ [] → ∀ ad, e'.A = some ad → ad.block < wo.heap.size from ⟨fun q hq => (XK.out.own.lt q hq).2, fun e' he' hne ad hA => row_block (XK.out.rows e' he') hne hA⟩)
      have GLO := Lib.hid (show (∀ q, vG.ownBlock = some q → w.heap.size + 1 + 1 + 1 ≤ q) ∧ ∀ e' ∈ mG, e'.l ≠ [] → ∀ ad, e'.A = some ad → w.heap.size + 1 + 1 + 1 ≤ ad.block from ⟨fun q hq => by have h1 := (XK.out.own.lt q hq).1; have h2 := SZ.out; omega, fun e' he' hne ad hA => by have h1 := ML.out e' he' hne ad hA; have h2 := SZ.out; omega⟩)
      obtain ⟨bG, RG0⟩ : ∃ bG, Hid (XO csG 2 45 bG wo vG nr mG) := ⟨_, XK⟩
      have SZ2 := Lib.hid (Nat.le_trans SZ.out HVB.out)
      have HGV := Lib.hid hvG
      have XD := Lib.hid (show ∃ A c, vG = .slice A nr c from ⟨vA, vc, hvG⟩)
      obtain ⟨ls, hls, hle, _⟩ := H.out.rows
      have HLS := Lib.hid hls
      have HLE := Lib.hid hle
      have hln : ls.length = ns := by rw [← hs1, hle, List.length_map]
      clear XK MS ML hmG SZ HVB d2 o2 q2 hls hle HGV
      clear hvG
      obtain ⟨V0, hV0⟩ : ∃ V0, V0 = wo := ⟨_, rfl⟩
      have SZ := Lib.hid (show w.heap.size + 1 + 1 + 1 ≤ V0.heap.size by rw [hV0]; exact SZ2.out)
      have HV01 := Lib.hid (show V0.heap.size ≤ wo.heap.size by rw [hV0]; exact Nat.le_refl _)
      rw [← hV0] at GB
      clear hV0 SZ2
      go_loopw [5] (fun i wr => ∃ k' : Nat, k' ≤ ns ∧ i = .int .i64 k' ∧ ∃ v ms, Hid (XO csL 1 42 V0.heap.size wr v k' ms) ∧ Hid (ms.map elL = (ls.map elL).take k') ∧ Hid (∀ e ∈ ms, e.l ≠ [] → ∀ ad, e.A = some ad → V0.heap.size ≤ ad.block) ∧ Hid (C5 wr (w.heap.size + 1 + 1) (.slice A0 nt ct) (.int .i64 r.size) vG v (.int .u64 (r.on : Nat))) ∧ Hid (C5 wr (w.heap.size + 1) (.slice none 0 0) (.int .i64 0) (.slice none 0 0) (.slice none 0 0) (.int .u64 0)) ∧ Hid (B5 wr w.heap.size (.slice A0 nt ct) (.int .i64 r.size) (.slice R nr cr) (.slice S ns cs) (.int .u64 (r.on : Nat))) ∧ Hid (Below w.heap.size w wr) ∧ Hid (V0.heap.size ≤ wr.heap.size) ∧ Hid (XO csG 2 45 bG wr vG nr mG)) (fun i _ => ns - (intOf i).toNat)
      case atStart => exact ⟨0, Nat.zero_le _, rfl, _, [], Lib.hid (XO.none _ _), Lib.hid rfl, Lib.hid (fun e he => by simp at he), OK, ZK, PK, BK, HV01, RG0⟩
      case round =>
        clear OK ZK PK BK HV01 RG0
        obtain ⟨k, hk, rfl, v, ms, XK, MS, ML, OK, ZK, PK, BK, HVB, RG⟩ := hrel
        have d3 := PK.out.c3
        have o2 := OK.out.b5.c3
        have q2 := OK.out.f3
        have d2 := d3
        obtain ⟨vA, vc, rfl⟩ := own_form XK.out.own
        by_cases hlt : k < ns
        · obtain ⟨e, he⟩ : ∃ e, ls[k]? = some e := ⟨_, List.getElem?_eq_getElem (by omega)⟩
          obtain ⟨b, off, hS', hbw, hc⟩ := HLS.out.cells (by simp only; omega)
          simp only at hS'
          subst hS'
          have c0 := keepcell BK.out (hc k e he 0 _ rfl)
          rw [Nat.add_zero, Nat.mul_one] at c0
          have hre := HLS.out.rows e (List.mem_of_getElem? he)
          have hen : e.n ≤ 400 := by
            rw [← hre.len]
            exact HL.out.row e.l (by rw [HLE.out]; exact List.mem_map.2 ⟨e, List.mem_of_getElem? he, rfl⟩)
          have HRE := Lib.hid (hre.below BK.out)
          have HE := Lib.hid he
          have i0 : (0 : Int) ≤ (k : Int) := by omega
          have i1 : (k : Int) < (ns : Int) := by omega
          have hs0 : wr.cell? ⟨b, off + k, none⟩ = some (.slice e.A e.n e.c) := c0
          clear he hre hc c0 d2
          go_wp2_with fail
          have d2 := d3
          have s0 : SL w.heap.size b off (some ⟨b, off, none⟩) ns cs k e wr := ⟨d2, hs0⟩
          refine wp_region_held_drew (S := SL w.heap.size b off (some ⟨b, off, none⟩) ns cs k e) (by kernel_rfl) s0 (fun hHeld => ?_)
          clear d3
          refine wpAnyH_takesJ (i := 0) (v := (.pointer (some ⟨w.heap.size + 1 + 1, 3, none⟩))) (some 47) rfl rfl (by kernel_rfl) (by kernel_rfl) (by kernel_rfl) (fun _ _ _ h => h) (Or.inl ⟨by rfl, (by intro W9 hSw; (try dsimp only [SG, SL] at hSw); go_simp; first | done | with_reducible rfl)⟩) (by assumption) ?_
          simp only [Act.put, List.setIfInBounds_toArray]; try simp only [List.set_cons_zero, List.set_cons_succ]
          refine wpAnyH_takesJ (i := 3) (v := (.pointer (some ⟨w.heap.size, 3, none⟩))) (some 50) rfl rfl (by kernel_rfl) (by kernel_rfl) (by kernel_rfl) (fun _ _ _ h => h) (Or.inl ⟨by rfl, (by intro W9 hSw; (try dsimp only [SG, SL] at hSw); go_simp; first | done | with_reducible rfl)⟩) (by assumption) ?_
          simp only [Act.put, List.setIfInBounds_toArray]; try simp only [List.set_cons_zero, List.set_cons_succ]
          refine wpAnyH_takesJ (i := 4) (v := (.slice (some ⟨b, off, none⟩) ns cs)) (some 51) rfl rfl (by kernel_rfl) (by kernel_rfl) (by kernel_rfl) (fun _ _ _ h => h) (Or.inl ⟨by rfl, (by intro W9 hSw; (try dsimp only [SG, SL] at hSw); go_simp; first | done | with_reducible rfl)⟩) (by assumption) ?_
          simp only [Act.put, List.setIfInBounds_toArray]; try simp only [List.set_cons_zero, List.set_cons_succ]
          refine wpAnyH_takesJ (i := 5) (v := (.int .i64 (k : Nat))) (some 52) rfl rfl (by kernel_rfl) (by kernel_rfl) (by kernel_rfl) (fun _ _ _ h => h) (Or.inl ⟨by rfl, (by intro W9 hSw; (try dsimp only [SG, SL] at hSw); go_simp; first | done | with_reducible rfl)⟩) (by assumption) ?_
          simp only [Act.put, List.setIfInBounds_toArray]; try simp only [List.set_cons_zero, List.set_cons_succ]
          refine wpAnyH_takesJ (i := 6) (v := (.pointer (some ⟨b, off + k, none⟩))) (some 53) rfl rfl (by kernel_rfl) (by kernel_rfl) (by kernel_rfl) (fun _ _ _ h => h) (Or.inl ⟨by rfl, (by intro W9 hSw; (try dsimp only [SG, SL] at hSw); go_simp; first | done | with_reducible rfl)⟩) (by assumption) ?_
          simp only [Act.put, List.setIfInBounds_toArray]; try simp only [List.set_cons_zero, List.set_cons_succ]
          refine wpAnyH_takesJ (i := 7) (v := (.slice e.A e.n e.c)) (some 54) rfl rfl (by kernel_rfl) (by kernel_rfl) (by kernel_rfl) (fun _ _ _ h => h) (Or.inl ⟨by rfl, (by intro W9 hSw; (try dsimp only [SG, SL] at hSw); go_simp; first | done | with_reducible rfl)⟩) (by assumption) ?_
          simp only [Act.put, List.setIfInBounds_toArray]; try simp only [List.set_cons_zero, List.set_cons_succ]
          refine wpAnyH_ready (rs := [1, 2]) (by kernel_rfl) (by simp) ?_
          refine AllReadyH.cons rfl (fun K hK => ?_) (AllReadyH.cons rfl (fun K hK => ?_) AllReadyH.nil)
          · go_simp
            refine hK.out _ _ (by exact s0) (fun hHeld => ?_)
            clear hK K
            try dsimp only
            refine wpAnyH_ready (rs := [2]) (by kernel_rfl) (by simp) ?_
            refine AllReadyH.cons rfl (fun K hK => ?_) AllReadyH.nil
            go_simp
            have hb1 : Below wr.heap.size wr (wr.alloc (.cells #[] 3)).drew := (below_new wr _).drew
            have ow1 : (wr.alloc (.cells #[] 3)).drew.ownsRow wr.heap.size 3 1 (.slice (some ⟨wr.heap.size, 0, none⟩) 0 0) 0 (([] : List Int).map (Value.int .i64)) := (own_no wr wr.heap.size 3 1 (Nat.le_refl _)).drew
            obtain ⟨w1, hw1⟩ : ∃ w1, w1 = (wr.alloc (.cells #[] 3)).drew := ⟨_, rfl⟩
            rw [← hw1] at hb1 ow1
            rw [← hw1]
            clear hw1
            have P1 := PK.out.step hb1
            have l1 := keepcell hb1 o2
            have s1 := (⟨P1.c3, keepsL hb1 hs0⟩ : SL w.heap.size b off (some ⟨b, off, none⟩) ns cs k e w1)
            refine hK.out _ _ (by exact s1) (fun hHeld => ?_)
            clear hK K
            try dsimp only
            refine wpAnyH_ready (rs := [8]) (by kernel_rfl) (by simp) ?_
            refine AllReadyH.cons rfl (fun K hK => ?_) AllReadyH.nil
            refine step_append_row (by rfl) (.tmp 49) (.tmp 54) (by rfl) wr.heap.size (.slice (some ⟨wr.heap.size, 0, none⟩) 0 0) 0 [] (by rfl) (by exact ow1) e.A e.n e.c e.l (by rfl) (HRE.out.below hb1) (by have := hen; omega) (by have := hb1.size; omega) ?_
            intro v2 w2 ho2 hg2
            rw [Nat.zero_add, List.nil_append] at ho2
            have hb2 : Below wr.heap.size wr w2 := hb1.grown hg2 hb1.size (fun j hj => (ow1.lt j hj).1)
            obtain ⟨A3, c3, rfl, hr3, hf3⟩ := Row.of_own' ho2
            have P2 := PK.out.step hb2
            have l2 := keepcell hb2 o2
            have s2 := (⟨P2.c3, keepsL hb2 hs0⟩ : SL w.heap.size b off (some ⟨b, off, none⟩) ns cs k e w2)
            refine hK.out _ _ (by exact s2) (fun hHeld => ?_)
            clear hK K
            try dsimp only
            refine wpAnyH_ready (rs := [9]) (by kernel_rfl) (by simp) ?_
            refine AllReadyH.cons rfl (fun K hK => ?_) AllReadyH.nil
            go_simp
            have hbn := below_new w2 (.cells #[.slice A3 e.n c3] 42)
            have hb3 := hb2.trans (hbn.mono hb2.size)
            have hnews : ∀ j u, ([(⟨e.x, e.l, A3, e.n, c3⟩ : El)].flatMap csL)[j]? = some u → (w2.alloc (.cells #[.slice A3 e.n c3] 42)).cell? ((⟨w2.heap.size, 0, none⟩ : Addr).add j) = some u := one_new1 (T := 42) w2 ⟨e.x, e.l, A3, e.n, c3⟩
            have hr4 := hr3.below hbn
            obtain ⟨w3, hw3⟩ : ∃ w3, w3 = w2.alloc (.cells #[.slice A3 e.n c3] 42) := ⟨_, rfl⟩
            rw [← hw3] at hb3 hnews hr4
            rw [← hw3]
            clear hw3
            have P3 := PK.out.step hb3
            have l3 := keepcell hb3 o2
            have s3 := (⟨P3.c3, keepsL hb3 hs0⟩ : SL w.heap.size b off (some ⟨b, off, none⟩) ns cs k e w3)
            refine hK.out _ _ (by exact s3) (fun hHeld => ?_)
            clear hK K
            try dsimp only
            refine wpAnyH_ready (rs := [10]) (by kernel_rfl) (by simp) ?_
            refine AllReadyH.cons rfl (fun K hK => ?_) AllReadyH.nil
            refine step_append_rows (by rfl) (.tmp 48) (.tmp 56) (by rfl) V0.heap.size (.slice vA k vc) k ms (by exact XK.out.step hb3) (by rfl) ⟨w2.heap.size, 0, none⟩ 1 1 [⟨e.x, e.l, A3, e.n, c3⟩] (by rfl) rfl (by exact hnews) (fun e' he' => by rw [List.mem_singleton.1 he']; exact hr4) (fun e' he' hne ad hA ho => by
              rw [List.mem_singleton.1 he'] at hA
              have h1 := hf3 ad hA
              have h2 := (XK.out.own.lt _ ho).2
              omega) (by decide) (by omega) (by have h1 := hb3.size; have h2 := HVB.out; omega) ?_
            intro g cap w' hx hg
            have hgb := hx.own.lt g rfl
            have hgk : ∀ j, (Value.slice vA k vc).ownBlock = some j → V0.heap.size ≤ j := fun j hj => (XK.out.own.lt j hj).1
            have hne : ∀ j, j < w.heap.size + 1 + 1 + 1 → some j ≠ (Value.slice vA k vc).ownBlock := fun j hj e => by
              have := hgk j e.symm
              have := SZ.out
              omega
            have B2 := held_trans BK.out hb3
            have O3 := (OK.out.step hb3).grown hg (hne _ (by omega))
            have Z3 := (ZK.out.step hb3).grown hg (hne _ (by omega))
            have P4' := P3.grown hg (hne _ (by omega))
            have RG3 := RG.out.step hb3
            have RG4 := RG3.grown hg (by cases e : vG.ownBlock with
              | none => exact .inl rfl
              | some q => exact .inr (fun e' => by have h1 := hgk q e'.symm; have h2 := GB.out.1 q e; omega)) (fun e' he' hne ad hA e2 => by have h1 := hgk _ e2; have h2 := GB.out.2 e' he' hne ad hA; omega)
            have sc := keepsgL (w := w3) (w' := w') hg (hne b (by omega)) s3.2
            have B3 := B2.grown hg B2.size (fun j hj => by have := hgk j hj; have := SZ.out; omega)
            have s4 := (⟨P4'.c3, sc⟩ : SL w.heap.size b off (some ⟨b, off, none⟩) ns cs k e w')
            refine hK.out _ _ (by exact s4) (fun hHeld => ?_)
            clear hK K
            try dsimp only
            refine wpAnyH_takesJ (i := 11) (v := (.pointer (some ⟨w.heap.size + 1 + 1, 3, none⟩))) (some 58) rfl rfl (by kernel_rfl) (by kernel_rfl) (by kernel_rfl) (fun _ _ _ h => h) (Or.inl ⟨by rfl, (by intro W9 hSw; (try dsimp only [SG, SL] at hSw); go_simp; first | done | with_reducible rfl)⟩) (by assumption) ?_
            simp only [Act.put, List.setIfInBounds_toArray]; try simp only [List.set_cons_zero, List.set_cons_succ]
            have o23 := O3.b5.c3
            have q23 := O3.f3
            refine wpAnyH_ready (rs := [12]) (by kernel_rfl) (by simp) ?_
            refine AllReadyH.cons rfl (fun K hK => ?_) AllReadyH.nil
            go_simp
            have hmsb : ∀ e' ∈ ms ++ [(⟨e.x, e.l, A3, e.n, c3⟩ : El)], e'.l ≠ [] → ∀ ad, e'.A = some ad → V0.heap.size ≤ ad.block := fun e' he' hne ad hA => by
              rcases List.mem_append.1 he' with h' | h'
              · exact ML.out e' h' hne ad hA
              · rw [List.mem_singleton.1 h'] at hA
                have h1 := hf3 ad hA
                have h2 := HVB.out
                omega
            have XK4 := Lib.hid (hx.far (X := w.heap.size + 1 + 1) (j := 3) (u := .slice (some ⟨g, 0, none⟩) (k + 1) cap) (by have := SZ.out; omega) (fun e' he' hne ad hA => by have h1 := hmsb e' he' hne ad hA; have h2 := SZ.out; omega))
            have MS4 := Lib.hid (show (ms ++ [(⟨e.x, e.l, A3, e.n, c3⟩ : El)]).map elL = (ls.map elL).take (k + 1) from by
              rw [List.map_append, MS.out, ← List.map_take, ← List.map_take, List.take_add_one, HE.out, List.map_append]
              rfl)
            have ML4 := Lib.hid hmsb
            have O4 := Lib.hid (O3.set3 (.slice (some ⟨g, 0, none⟩) (k + 1) cap))
            have Z4 := Lib.hid (Z3.far (p := ⟨w.heap.size + 1 + 1, 3, none⟩) (u := .slice (some ⟨g, 0, none⟩) (k + 1) cap) (by simp only; omega))
            have P4 := Lib.hid (P4'.far (p := ⟨w.heap.size + 1 + 1, 3, none⟩) (u := .slice (some ⟨g, 0, none⟩) (k + 1) cap) (by simp only; omega))
            have B4 := Lib.hid (B3.setCell (p := ⟨w.heap.size + 1 + 1, 3, none⟩) (by simp only; omega) (.slice (some ⟨g, 0, none⟩) (k + 1) cap))
            have HV4 := Lib.hid (show V0.heap.size ≤ (w'.setCell ⟨w.heap.size + 1 + 1, 3, none⟩ (.slice (some ⟨g, 0, none⟩) (k + 1) cap)).heap.size from by have := hgb; simp [World.setCell]; omega)
            obtain ⟨cG, hvG⟩ : ∃ cG : World, True := ⟨w3, trivial⟩
            have RG5 := Lib.hid (RG4.farv (X := w.heap.size + 1 + 1) (j := 3) (u := .slice (some ⟨g, 0, none⟩) (k + 1) cap) (fun e' => by have h1 := GB.out.1; have h2 := GLO.out.1 _ e'; omega) (fun e' he' hne ad hA => by have h2 := GLO.out.2 e' he' hne ad hA; omega))
            have s5 := (⟨P4.out.c3, keepsfL (by omega) s4.2⟩ : SL w.heap.size b off (some ⟨b, off, none⟩) ns cs k e (w'.setCell ⟨w.heap.size + 1 + 1, 3, none⟩ (.slice (some ⟨g, 0, none⟩) (k + 1) cap)))
            refine hK.out _ _ (by exact s5) (fun hHeld => ?_)
            clear hK K
            try dsimp only
            refine wpAnyH_done (by kernel_rfl) ?_ _
            clear hx hg O3 Z3 P4' sc B3 B2 hnews hb1 hb2 hb3 hbn ow1 ho2 hg2 hr3 hr4 hf3 o23 q23 o2 q2 d2 hHeld hne hgk P1 P2 P3 l1 l2 l3 s0 s1 s2 s3 s4 s5 hs0 hmsb hgb RG3 RG4 hvG cG
            go_wp2_with fail
            go_roundw
            case rel => exact ⟨k + 1, by omega, by go_num, _, _, XK4, MS4, ML4, O4, Z4, P4, B4, HV4, RG5⟩
            case measure => simp [intOf]; omega
          · go_simp
            have hb1 : Below wr.heap.size wr (wr.alloc (.cells #[] 3)).drew := (below_new wr _).drew
            have ow1 : (wr.alloc (.cells #[] 3)).drew.ownsRow wr.heap.size 3 1 (.slice (some ⟨wr.heap.size, 0, none⟩) 0 0) 0 (([] : List Int).map (Value.int .i64)) := (own_no wr wr.heap.size 3 1 (Nat.le_refl _)).drew
            obtain ⟨w1, hw1⟩ : ∃ w1, w1 = (wr.alloc (.cells #[] 3)).drew := ⟨_, rfl⟩
            rw [← hw1] at hb1 ow1
            rw [← hw1]
            clear hw1
            have P1 := PK.out.step hb1
            have l1 := keepcell hb1 o2
            have s1 := (⟨P1.c3, keepsL hb1 hs0⟩ : SL w.heap.size b off (some ⟨b, off, none⟩) ns cs k e w1)
            refine hK.out _ _ (by exact s1) (fun hHeld => ?_)
            clear hK K
            try dsimp only
            refine wpAnyH_ready (rs := [1, 8]) (by kernel_rfl) (by simp) ?_
            refine AllReadyH.cons rfl (fun K hK => ?_) (AllReadyH.cons rfl (fun K hK => ?_) AllReadyH.nil)
            · go_simp
              refine hK.out _ _ (by exact s1) (fun hHeld => ?_)
              clear hK K
              try dsimp only
              refine wpAnyH_ready (rs := [8]) (by kernel_rfl) (by simp) ?_
              refine AllReadyH.cons rfl (fun K hK => ?_) AllReadyH.nil
              refine step_append_row (by rfl) (.tmp 49) (.tmp 54) (by rfl) wr.heap.size (.slice (some ⟨wr.heap.size, 0, none⟩) 0 0) 0 [] (by rfl) (by exact ow1) e.A e.n e.c e.l (by rfl) (HRE.out.below hb1) (by have := hen; omega) (by have := hb1.size; omega) ?_
              intro v2 w2 ho2 hg2
              rw [Nat.zero_add, List.nil_append] at ho2
              have hb2 : Below wr.heap.size wr w2 := hb1.grown hg2 hb1.size (fun j hj => (ow1.lt j hj).1)
              obtain ⟨A3, c3, rfl, hr3, hf3⟩ := Row.of_own' ho2
              have P2 := PK.out.step hb2
              have l2 := keepcell hb2 o2
              have s2 := (⟨P2.c3, keepsL hb2 hs0⟩ : SL w.heap.size b off (some ⟨b, off, none⟩) ns cs k e w2)
              refine hK.out _ _ (by exact s2) (fun hHeld => ?_)
              clear hK K
              try dsimp only
              refine wpAnyH_ready (rs := [9]) (by kernel_rfl) (by simp) ?_
              refine AllReadyH.cons rfl (fun K hK => ?_) AllReadyH.nil
              go_simp
              have hbn := below_new w2 (.cells #[.slice A3 e.n c3] 42)
              have hb3 := hb2.trans (hbn.mono hb2.size)
              have hnews : ∀ j u, ([(⟨e.x, e.l, A3, e.n, c3⟩ : El)].flatMap csL)[j]? = some u → (w2.alloc (.cells #[.slice A3 e.n c3] 42)).cell? ((⟨w2.heap.size, 0, none⟩ : Addr).add j) = some u := one_new1 (T := 42) w2 ⟨e.x, e.l, A3, e.n, c3⟩
              have hr4 := hr3.below hbn
              obtain ⟨w3, hw3⟩ : ∃ w3, w3 = w2.alloc (.cells #[.slice A3 e.n c3] 42) := ⟨_, rfl⟩
              rw [← hw3] at hb3 hnews hr4
              rw [← hw3]
              clear hw3
              have P3 := PK.out.step hb3
              have l3 := keepcell hb3 o2
              have s3 := (⟨P3.c3, keepsL hb3 hs0⟩ : SL w.heap.size b off (some ⟨b, off, none⟩) ns cs k e w3)
              refine hK.out _ _ (by exact s3) (fun hHeld => ?_)
              clear hK K
              try dsimp only
              refine wpAnyH_ready (rs := [10]) (by kernel_rfl) (by simp) ?_
              refine AllReadyH.cons rfl (fun K hK => ?_) AllReadyH.nil
              refine step_append_rows (by rfl) (.tmp 48) (.tmp 56) (by rfl) V0.heap.size (.slice vA k vc) k ms (by exact XK.out.step hb3) (by rfl) ⟨w2.heap.size, 0, none⟩ 1 1 [⟨e.x, e.l, A3, e.n, c3⟩] (by rfl) rfl (by exact hnews) (fun e' he' => by rw [List.mem_singleton.1 he']; exact hr4) (fun e' he' hne ad hA ho => by
                rw [List.mem_singleton.1 he'] at hA
                have h1 := hf3 ad hA
                have h2 := (XK.out.own.lt _ ho).2
                omega) (by decide) (by omega) (by have h1 := hb3.size; have h2 := HVB.out; omega) ?_
              intro g cap w' hx hg
              have hgb := hx.own.lt g rfl
              have hgk : ∀ j, (Value.slice vA k vc).ownBlock = some j → V0.heap.size ≤ j := fun j hj => (XK.out.own.lt j hj).1
              have hne : ∀ j, j < w.heap.size + 1 + 1 + 1 → some j ≠ (Value.slice vA k vc).ownBlock := fun j hj e => by
                have := hgk j e.symm
                have := SZ.out
                omega
              have B2 := held_trans BK.out hb3
              have O3 := (OK.out.step hb3).grown hg (hne _ (by omega))
              have Z3 := (ZK.out.step hb3).grown hg (hne _ (by omega))
              have P4' := P3.grown hg (hne _ (by omega))
              have RG3 := RG.out.step hb3
              have RG4 := RG3.grown hg (by cases e : vG.ownBlock with
                | none => exact .inl rfl
                | some q => exact .inr (fun e' => by have h1 := hgk q e'.symm; have h2 := GB.out.1 q e; omega)) (fun e' he' hne ad hA e2 => by have h1 := hgk _ e2; have h2 := GB.out.2 e' he' hne ad hA; omega)
              have sc := keepsgL (w := w3) (w' := w') hg (hne b (by omega)) s3.2
              have B3 := B2.grown hg B2.size (fun j hj => by have := hgk j hj; have := SZ.out; omega)
              have s4 := (⟨P4'.c3, sc⟩ : SL w.heap.size b off (some ⟨b, off, none⟩) ns cs k e w')
              refine hK.out _ _ (by exact s4) (fun hHeld => ?_)
              clear hK K
              try dsimp only
              refine wpAnyH_takesJ (i := 11) (v := (.pointer (some ⟨w.heap.size + 1 + 1, 3, none⟩))) (some 58) rfl rfl (by kernel_rfl) (by kernel_rfl) (by kernel_rfl) (fun _ _ _ h => h) (Or.inl ⟨by rfl, (by intro W9 hSw; (try dsimp only [SG, SL] at hSw); go_simp; first | done | with_reducible rfl)⟩) (by assumption) ?_
              simp only [Act.put, List.setIfInBounds_toArray]; try simp only [List.set_cons_zero, List.set_cons_succ]
              have o23 := O3.b5.c3
              have q23 := O3.f3
              refine wpAnyH_ready (rs := [12]) (by kernel_rfl) (by simp) ?_
              refine AllReadyH.cons rfl (fun K hK => ?_) AllReadyH.nil
              go_simp
              have hmsb : ∀ e' ∈ ms ++ [(⟨e.x, e.l, A3, e.n, c3⟩ : El)], e'.l ≠ [] → ∀ ad, e'.A = some ad → V0.heap.size ≤ ad.block := fun e' he' hne ad hA => by
                rcases List.mem_append.1 he' with h' | h'
                · exact ML.out e' h' hne ad hA
                · rw [List.mem_singleton.1 h'] at hA
                  have h1 := hf3 ad hA
                  have h2 := HVB.out
                  omega
              have XK4 := Lib.hid (hx.far (X := w.heap.size + 1 + 1) (j := 3) (u := .slice (some ⟨g, 0, none⟩) (k + 1) cap) (by have := SZ.out; omega) (fun e' he' hne ad hA => by have h1 := hmsb e' he' hne ad hA; have h2 := SZ.out; omega))
              have MS4 := Lib.hid (show (ms ++ [(⟨e.x, e.l, A3, e.n, c3⟩ : El)]).map elL = (ls.map elL).take (k + 1) from by
                rw [List.map_append, MS.out, ← List.map_take, ← List.map_take, List.take_add_one, HE.out, List.map_append]
                rfl)
              have ML4 := Lib.hid hmsb
              have O4 := Lib.hid (O3.set3 (.slice (some ⟨g, 0, none⟩) (k + 1) cap))
              have Z4 := Lib.hid (Z3.far (p := ⟨w.heap.size + 1 + 1, 3, none⟩) (u := .slice (some ⟨g, 0, none⟩) (k + 1) cap) (by simp only; omega))
              have P4 := Lib.hid (P4'.far (p := ⟨w.heap.size + 1 + 1, 3, none⟩) (u := .slice (some ⟨g, 0, none⟩) (k + 1) cap) (by simp only; omega))
              have B4 := Lib.hid (B3.setCell (p := ⟨w.heap.size + 1 + 1, 3, none⟩) (by simp only; omega) (.slice (some ⟨g, 0, none⟩) (k + 1) cap))
              have HV4 := Lib.hid (show V0.heap.size ≤ (w'.setCell ⟨w.heap.size + 1 + 1, 3, none⟩ (.slice (some ⟨g, 0, none⟩) (k + 1) cap)).heap.size from by have := hgb; simp [World.setCell]; omega)
              obtain ⟨cG, hvG⟩ : ∃ cG : World, True := ⟨w3, trivial⟩
              have RG5 := Lib.hid (RG4.farv (X := w.heap.size + 1 + 1) (j := 3) (u := .slice (some ⟨g, 0, none⟩) (k + 1) cap) (fun e' => by have h1 := GB.out.1; have h2 := GLO.out.1 _ e'; omega) (fun e' he' hne ad hA => by have h2 := GLO.out.2 e' he' hne ad hA; omega))
              have s5 := (⟨P4.out.c3, keepsfL (by omega) s4.2⟩ : SL w.heap.size b off (some ⟨b, off, none⟩) ns cs k e (w'.setCell ⟨w.heap.size + 1 + 1, 3, none⟩ (.slice (some ⟨g, 0, none⟩) (k + 1) cap)))
              refine hK.out _ _ (by exact s5) (fun hHeld => ?_)
              clear hK K
              try dsimp only
              refine wpAnyH_done (by kernel_rfl) ?_ _
              clear hx hg O3 Z3 P4' sc B3 B2 hnews hb1 hb2 hb3 hbn ow1 ho2 hg2 hr3 hr4 hf3 o23 q23 o2 q2 d2 hHeld hne hgk P1 P2 P3 l1 l2 l3 s0 s1 s2 s3 s4 s5 hs0 hmsb hgb RG3 RG4 hvG cG
              go_wp2_with fail
              go_roundw
              case rel => exact ⟨k + 1, by omega, by go_num, _, _, XK4, MS4, ML4, O4, Z4, P4, B4, HV4, RG5⟩
              case measure => simp [intOf]; omega
            · skip
              refine step_append_row (by rfl) (.tmp 49) (.tmp 54) (by rfl) wr.heap.size (.slice (some ⟨wr.heap.size, 0, none⟩) 0 0) 0 [] (by rfl) (by exact ow1) e.A e.n e.c e.l (by rfl) (HRE.out.below hb1) (by have := hen; omega) (by have := hb1.size; omega) ?_
              intro v2 w2 ho2 hg2
              rw [Nat.zero_add, List.nil_append] at ho2
              have hb2 : Below wr.heap.size wr w2 := hb1.grown hg2 hb1.size (fun j hj => (ow1.lt j hj).1)
              obtain ⟨A3, c3, rfl, hr3, hf3⟩ := Row.of_own' ho2
              have P2 := PK.out.step hb2
              have l2 := keepcell hb2 o2
              have s2 := (⟨P2.c3, keepsL hb2 hs0⟩ : SL w.heap.size b off (some ⟨b, off, none⟩) ns cs k e w2)
              refine hK.out _ _ (by exact s2) (fun hHeld => ?_)
              clear hK K
              try dsimp only
              refine wpAnyH_ready (rs := [1, 9]) (by kernel_rfl) (by simp) ?_
              refine AllReadyH.cons rfl (fun K hK => ?_) (AllReadyH.cons rfl (fun K hK => ?_) AllReadyH.nil)
              · go_simp
                refine hK.out _ _ (by exact s2) (fun hHeld => ?_)
                clear hK K
                try dsimp only
                refine wpAnyH_ready (rs := [9]) (by kernel_rfl) (by simp) ?_
                refine AllReadyH.cons rfl (fun K hK => ?_) AllReadyH.nil
                go_simp
                have hbn := below_new w2 (.cells #[.slice A3 e.n c3] 42)
                have hb3 := hb2.trans (hbn.mono hb2.size)
                have hnews : ∀ j u, ([(⟨e.x, e.l, A3, e.n, c3⟩ : El)].flatMap csL)[j]? = some u → (w2.alloc (.cells #[.slice A3 e.n c3] 42)).cell? ((⟨w2.heap.size, 0, none⟩ : Addr).add j) = some u := one_new1 (T := 42) w2 ⟨e.x, e.l, A3, e.n, c3⟩
                have hr4 := hr3.below hbn
                obtain ⟨w3, hw3⟩ : ∃ w3, w3 = w2.alloc (.cells #[.slice A3 e.n c3] 42) := ⟨_, rfl⟩
                rw [← hw3] at hb3 hnews hr4
                rw [← hw3]
                clear hw3
                have P3 := PK.out.step hb3
                have l3 := keepcell hb3 o2
                have s3 := (⟨P3.c3, keepsL hb3 hs0⟩ : SL w.heap.size b off (some ⟨b, off, none⟩) ns cs k e w3)
                refine hK.out _ _ (by exact s3) (fun hHeld => ?_)
                clear hK K
                try dsimp only
                refine wpAnyH_ready (rs := [10]) (by kernel_rfl) (by simp) ?_
                refine AllReadyH.cons rfl (fun K hK => ?_) AllReadyH.nil
                refine step_append_rows (by rfl) (.tmp 48) (.tmp 56) (by rfl) V0.heap.size (.slice vA k vc) k ms (by exact XK.out.step hb3) (by rfl) ⟨w2.heap.size, 0, none⟩ 1 1 [⟨e.x, e.l, A3, e.n, c3⟩] (by rfl) rfl (by exact hnews) (fun e' he' => by rw [List.mem_singleton.1 he']; exact hr4) (fun e' he' hne ad hA ho => by
                  rw [List.mem_singleton.1 he'] at hA
                  have h1 := hf3 ad hA
                  have h2 := (XK.out.own.lt _ ho).2
                  omega) (by decide) (by omega) (by have h1 := hb3.size; have h2 := HVB.out; omega) ?_
                intro g cap w' hx hg
                have hgb := hx.own.lt g rfl
                have hgk : ∀ j, (Value.slice vA k vc).ownBlock = some j → V0.heap.size ≤ j := fun j hj => (XK.out.own.lt j hj).1
                have hne : ∀ j, j < w.heap.size + 1 + 1 + 1 → some j ≠ (Value.slice vA k vc).ownBlock := fun j hj e => by
                  have := hgk j e.symm
                  have := SZ.out
                  omega
                have B2 := held_trans BK.out hb3
                have O3 := (OK.out.step hb3).grown hg (hne _ (by omega))
                have Z3 := (ZK.out.step hb3).grown hg (hne _ (by omega))
                have P4' := P3.grown hg (hne _ (by omega))
                have RG3 := RG.out.step hb3
                have RG4 := RG3.grown hg (by cases e : vG.ownBlock with
                  | none => exact .inl rfl
                  | some q => exact .inr (fun e' => by have h1 := hgk q e'.symm; have h2 := GB.out.1 q e; omega)) (fun e' he' hne ad hA e2 => by have h1 := hgk _ e2; have h2 := GB.out.2 e' he' hne ad hA; omega)
                have sc := keepsgL (w := w3) (w' := w') hg (hne b (by omega)) s3.2
                have B3 := B2.grown hg B2.size (fun j hj => by have := hgk j hj; have := SZ.out; omega)
                have s4 := (⟨P4'.c3, sc⟩ : SL w.heap.size b off (some ⟨b, off, none⟩) ns cs k e w')
                refine hK.out _ _ (by exact s4) (fun hHeld => ?_)
                clear hK K
                try dsimp only
                refine wpAnyH_takesJ (i := 11) (v := (.pointer (some ⟨w.heap.size + 1 + 1, 3, none⟩))) (some 58) rfl rfl (by kernel_rfl) (by kernel_rfl) (by kernel_rfl) (fun _ _ _ h => h) (Or.inl ⟨by rfl, (by intro W9 hSw; (try dsimp only [SG, SL] at hSw); go_simp; first | done | with_reducible rfl)⟩) (by assumption) ?_
                simp only [Act.put, List.setIfInBounds_toArray]; try simp only [List.set_cons_zero, List.set_cons_succ]
                have o23 := O3.b5.c3
                have q23 := O3.f3
                refine wpAnyH_ready (rs := [12]) (by kernel_rfl) (by simp) ?_
                refine AllReadyH.cons rfl (fun K hK => ?_) AllReadyH.nil
                go_simp
                have hmsb : ∀ e' ∈ ms ++ [(⟨e.x, e.l, A3, e.n, c3⟩ : El)], e'.l ≠ [] → ∀ ad, e'.A = some ad → V0.heap.size ≤ ad.block := fun e' he' hne ad hA => by
                  rcases List.mem_append.1 he' with h' | h'
                  · exact ML.out e' h' hne ad hA
                  · rw [List.mem_singleton.1 h'] at hA
                    have h1 := hf3 ad hA
                    have h2 := HVB.out
                    omega
                have XK4 := Lib.hid (hx.far (X := w.heap.size + 1 + 1) (j := 3) (u := .slice (some ⟨g, 0, none⟩) (k + 1) cap) (by have := SZ.out; omega) (fun e' he' hne ad hA => by have h1 := hmsb e' he' hne ad hA; have h2 := SZ.out; omega))
                have MS4 := Lib.hid (show (ms ++ [(⟨e.x, e.l, A3, e.n, c3⟩ : El)]).map elL = (ls.map elL).take (k + 1) from by
                  rw [List.map_append, MS.out, ← List.map_take, ← List.map_take, List.take_add_one, HE.out, List.map_append]
                  rfl)
                have ML4 := Lib.hid hmsb
                have O4 := Lib.hid (O3.set3 (.slice (some ⟨g, 0, none⟩) (k + 1) cap))
                have Z4 := Lib.hid (Z3.far (p := ⟨w.heap.size + 1 + 1, 3, none⟩) (u := .slice (some ⟨g, 0, none⟩) (k + 1) cap) (by simp only; omega))
                have P4 := Lib.hid (P4'.far (p := ⟨w.heap.size + 1 + 1, 3, none⟩) (u := .slice (some ⟨g, 0, none⟩) (k + 1) cap) (by simp only; omega))
                have B4 := Lib.hid (B3.setCell (p := ⟨w.heap.size + 1 + 1, 3, none⟩) (by simp only; omega) (.slice (some ⟨g, 0, none⟩) (k + 1) cap))
                have HV4 := Lib.hid (show V0.heap.size ≤ (w'.setCell ⟨w.heap.size + 1 + 1, 3, none⟩ (.slice (some ⟨g, 0, none⟩) (k + 1) cap)).heap.size from by have := hgb; simp [World.setCell]; omega)
                obtain ⟨cG, hvG⟩ : ∃ cG : World, True := ⟨w3, trivial⟩
                have RG5 := Lib.hid (RG4.farv (X := w.heap.size + 1 + 1) (j := 3) (u := .slice (some ⟨g, 0, none⟩) (k + 1) cap) (fun e' => by have h1 := GB.out.1; have h2 := GLO.out.1 _ e'; omega) (fun e' he' hne ad hA => by have h2 := GLO.out.2 e' he' hne ad hA; omega))
                have s5 := (⟨P4.out.c3, keepsfL (by omega) s4.2⟩ : SL w.heap.size b off (some ⟨b, off, none⟩) ns cs k e (w'.setCell ⟨w.heap.size + 1 + 1, 3, none⟩ (.slice (some ⟨g, 0, none⟩) (k + 1) cap)))
                refine hK.out _ _ (by exact s5) (fun hHeld => ?_)
                clear hK K
                try dsimp only
                refine wpAnyH_done (by kernel_rfl) ?_ _
                clear hx hg O3 Z3 P4' sc B3 B2 hnews hb1 hb2 hb3 hbn ow1 ho2 hg2 hr3 hr4 hf3 o23 q23 o2 q2 d2 hHeld hne hgk P1 P2 P3 l1 l2 l3 s0 s1 s2 s3 s4 s5 hs0 hmsb hgb RG3 RG4 hvG cG
                go_wp2_with fail
                go_roundw
                case rel => exact ⟨k + 1, by omega, by go_num, _, _, XK4, MS4, ML4, O4, Z4, P4, B4, HV4, RG5⟩
                case measure => simp [intOf]; omega
              · go_simp
                have hbn := below_new w2 (.cells #[.slice A3 e.n c3] 42)
                have hb3 := hb2.trans (hbn.mono hb2.size)
                have hnews : ∀ j u, ([(⟨e.x, e.l, A3, e.n, c3⟩ : El)].flatMap csL)[j]? = some u → (w2.alloc (.cells #[.slice A3 e.n c3] 42)).cell? ((⟨w2.heap.size, 0, none⟩ : Addr).add j) = some u := one_new1 (T := 42) w2 ⟨e.x, e.l, A3, e.n, c3⟩
                have hr4 := hr3.below hbn
                obtain ⟨w3, hw3⟩ : ∃ w3, w3 = w2.alloc (.cells #[.slice A3 e.n c3] 42) := ⟨_, rfl⟩
                rw [← hw3] at hb3 hnews hr4
                rw [← hw3]
                clear hw3
                have P3 := PK.out.step hb3
                have l3 := keepcell hb3 o2
                have s3 := (⟨P3.c3, keepsL hb3 hs0⟩ : SL w.heap.size b off (some ⟨b, off, none⟩) ns cs k e w3)
                refine hK.out _ _ (by exact s3) (fun hHeld => ?_)
                clear hK K
                try dsimp only
                refine wpAnyH_ready (rs := [1]) (by kernel_rfl) (by simp) ?_
                refine AllReadyH.cons rfl (fun K hK => ?_) AllReadyH.nil
                go_simp
                refine hK.out _ _ (by exact s3) (fun hHeld => ?_)
                clear hK K
                try dsimp only
                refine wpAnyH_ready (rs := [10]) (by kernel_rfl) (by simp) ?_
                refine AllReadyH.cons rfl (fun K hK => ?_) AllReadyH.nil
                refine step_append_rows (by rfl) (.tmp 48) (.tmp 56) (by rfl) V0.heap.size (.slice vA k vc) k ms (by exact XK.out.step hb3) (by rfl) ⟨w2.heap.size, 0, none⟩ 1 1 [⟨e.x, e.l, A3, e.n, c3⟩] (by rfl) rfl (by exact hnews) (fun e' he' => by rw [List.mem_singleton.1 he']; exact hr4) (fun e' he' hne ad hA ho => by
                  rw [List.mem_singleton.1 he'] at hA
                  have h1 := hf3 ad hA
                  have h2 := (XK.out.own.lt _ ho).2
                  omega) (by decide) (by omega) (by have h1 := hb3.size; have h2 := HVB.out; omega) ?_
                intro g cap w' hx hg
                have hgb := hx.own.lt g rfl
                have hgk : ∀ j, (Value.slice vA k vc).ownBlock = some j → V0.heap.size ≤ j := fun j hj => (XK.out.own.lt j hj).1
                have hne : ∀ j, j < w.heap.size + 1 + 1 + 1 → some j ≠ (Value.slice vA k vc).ownBlock := fun j hj e => by
                  have := hgk j e.symm
                  have := SZ.out
                  omega
                have B2 := held_trans BK.out hb3
                have O3 := (OK.out.step hb3).grown hg (hne _ (by omega))
                have Z3 := (ZK.out.step hb3).grown hg (hne _ (by omega))
                have P4' := P3.grown hg (hne _ (by omega))
                have RG3 := RG.out.step hb3
                have RG4 := RG3.grown hg (by cases e : vG.ownBlock with
                  | none => exact .inl rfl
                  | some q => exact .inr (fun e' => by have h1 := hgk q e'.symm; have h2 := GB.out.1 q e; omega)) (fun e' he' hne ad hA e2 => by have h1 := hgk _ e2; have h2 := GB.out.2 e' he' hne ad hA; omega)
                have sc := keepsgL (w := w3) (w' := w') hg (hne b (by omega)) s3.2
                have B3 := B2.grown hg B2.size (fun j hj => by have := hgk j hj; have := SZ.out; omega)
                have s4 := (⟨P4'.c3, sc⟩ : SL w.heap.size b off (some ⟨b, off, none⟩) ns cs k e w')
                refine hK.out _ _ (by exact s4) (fun hHeld => ?_)
                clear hK K
                try dsimp only
                refine wpAnyH_takesJ (i := 11) (v := (.pointer (some ⟨w.heap.size + 1 + 1, 3, none⟩))) (some 58) rfl rfl (by kernel_rfl) (by kernel_rfl) (by kernel_rfl) (fun _ _ _ h => h) (Or.inl ⟨by rfl, (by intro W9 hSw; (try dsimp only [SG, SL] at hSw); go_simp; first | done | with_reducible rfl)⟩) (by assumption) ?_
                simp only [Act.put, List.setIfInBounds_toArray]; try simp only [List.set_cons_zero, List.set_cons_succ]
                have o23 := O3.b5.c3
                have q23 := O3.f3
                refine wpAnyH_ready (rs := [12]) (by kernel_rfl) (by simp) ?_
                refine AllReadyH.cons rfl (fun K hK => ?_) AllReadyH.nil
                go_simp
                have hmsb : ∀ e' ∈ ms ++ [(⟨e.x, e.l, A3, e.n, c3⟩ : El)], e'.l ≠ [] → ∀ ad, e'.A = some ad → V0.heap.size ≤ ad.block := fun e' he' hne ad hA => by
                  rcases List.mem_append.1 he' with h' | h'
                  · exact ML.out e' h' hne ad hA
                  · rw [List.mem_singleton.1 h'] at hA
                    have h1 := hf3 ad hA
                    have h2 := HVB.out
                    omega
                have XK4 := Lib.hid (hx.far (X := w.heap.size + 1 + 1) (j := 3) (u := .slice (some ⟨g, 0, none⟩) (k + 1) cap) (by have := SZ.out; omega) (fun e' he' hne ad hA => by have h1 := hmsb e' he' hne ad hA; have h2 := SZ.out; omega))
                have MS4 := Lib.hid (show (ms ++ [(⟨e.x, e.l, A3, e.n, c3⟩ : El)]).map elL = (ls.map elL).take (k + 1) from by
                  rw [List.map_append, MS.out, ← List.map_take, ← List.map_take, List.take_add_one, HE.out, List.map_append]
                  rfl)
                have ML4 := Lib.hid hmsb
                have O4 := Lib.hid (O3.set3 (.slice (some ⟨g, 0, none⟩) (k + 1) cap))
                have Z4 := Lib.hid (Z3.far (p := ⟨w.heap.size + 1 + 1, 3, none⟩) (u := .slice (some ⟨g, 0, none⟩) (k + 1) cap) (by simp only; omega))
                have P4 := Lib.hid (P4'.far (p := ⟨w.heap.size + 1 + 1, 3, none⟩) (u := .slice (some ⟨g, 0, none⟩) (k + 1) cap) (by simp only; omega))
                have B4 := Lib.hid (B3.setCell (p := ⟨w.heap.size + 1 + 1, 3, none⟩) (by simp only; omega) (.slice (some ⟨g, 0, none⟩) (k + 1) cap))
                have HV4 := Lib.hid (show V0.heap.size ≤ (w'.setCell ⟨w.heap.size + 1 + 1, 3, none⟩ (.slice (some ⟨g, 0, none⟩) (k + 1) cap)).heap.size from by have := hgb; simp [World.setCell]; omega)
                obtain ⟨cG, hvG⟩ : ∃ cG : World, True := ⟨w3, trivial⟩
                have RG5 := Lib.hid (RG4.farv (X := w.heap.size + 1 + 1) (j := 3) (u := .slice (some ⟨g, 0, none⟩) (k + 1) cap) (fun e' => by have h1 := GB.out.1; have h2 := GLO.out.1 _ e'; omega) (fun e' he' hne ad hA => by have h2 := GLO.out.2 e' he' hne ad hA; omega))
                have s5 := (⟨P4.out.c3, keepsfL (by omega) s4.2⟩ : SL w.heap.size b off (some ⟨b, off, none⟩) ns cs k e (w'.setCell ⟨w.heap.size + 1 + 1, 3, none⟩ (.slice (some ⟨g, 0, none⟩) (k + 1) cap)))
                refine hK.out _ _ (by exact s5) (fun hHeld => ?_)
                clear hK K
                try dsimp only
                refine wpAnyH_done (by kernel_rfl) ?_ _
                clear hx hg O3 Z3 P4' sc B3 B2 hnews hb1 hb2 hb3 hbn ow1 ho2 hg2 hr3 hr4 hf3 o23 q23 o2 q2 d2 hHeld hne hgk P1 P2 P3 l1 l2 l3 s0 s1 s2 s3 s4 s5 hs0 hmsb hgb RG3 RG4 hvG cG
                go_wp2_with fail
                go_roundw
                case rel => exact ⟨k + 1, by omega, by go_num, _, _, XK4, MS4, ML4, O4, Z4, P4, B4, HV4, RG5⟩
                case measure => simp [intOf]; omega
        · obtain rfl : ns = k := by omega
          have XF := XK.out
          have hmn : ms.map elL = r.rows := by rw [MS.out, ← HLE.out, List.take_of_length_le (by omega)]
          have t0 := OK.out.b5.c0
          have t1 := OK.out.b5.c1
          have t2 := OK.out.b5.c2
          have t4 := OK.out.b5.c4
          have y0 := ZK.out.b5.c0
          have y1 := ZK.out.b5.c1
          have y2 := ZK.out.b5.c2
          have y3 := ZK.out.b5.c3
          have y4 := ZK.out.b5.c4
          have g0 := ZK.out.f0
          have g1 := ZK.out.f1
          have g2 := ZK.out.f2
          have g3 := ZK.out.f3
          have g4 := ZK.out.f4
          obtain ⟨A5, c5, e5, hx5, hf5⟩ := XF.xr csL_len (by decide)
          injection e5 with e51 _ e52
          subst e51 e52
          obtain ⟨A6, c6, hvg6⟩ := XD.out
          subst hvg6
          obtain ⟨A7, c7, e7, hx7, _⟩ := RG.out.xr csG_len (by decide)
          injection e7 with e71 _ e72
          subst e71 e72
          have hvs := SZ.out
          have B9 := below_put (b := w.heap.size + 1) BK.out (by omega) (.slice A0 nt ct) (.int .i64 r.size) (.slice A6 nr c6) (.slice vA ns vc) (.int .u64 (r.on : Nat))
          have hgl : ∀ ad, A6 = some ad → w.heap.size + 1 + 1 + 1 ≤ ad.block := fun ad e => GLO.out.1 _ (by rw [e]; rfl)
          have hlieG : LieE (More F w) A6 mG := ⟨fun _ ad e => .inr (by have := hgl ad e; omega), fun e he hne ad hA => .inr (by have := GLO.out.2 e he hne ad hA; omega)⟩
          have hlieL : LieE (More F w) vA ms := ⟨fun _ ad e => .inr (by have := hf5 ad e; omega), fun e he hne ad hA => .inr (by have := ML.out e he hne ad hA; omega)⟩
          have hXG : LieE (fun b => b ≠ w.heap.size + 1) A6 mG := ⟨fun _ ad e => by have := hgl ad e; omega, fun e he hne ad hA => by have := GLO.out.2 e he hne ad hA; omega⟩
          have hXL : LieE (fun b => b ≠ w.heap.size + 1) vA ms := ⟨fun _ ad e => by have := hf5 ad e; omega, fun e he hne ad hA => by have := ML.out e he hne ad hA; omega⟩
          have hx9 := ((((hx5.farj (j := 0) (u := .slice A0 nt ct) hXL).farj (j := 1) (u := .int .i64 r.size) hXL).farj (j := 2) (u := .slice A6 nr c6) hXL).farj (j := 3) (u := .slice vA ns vc) hXL).farj (j := 4) (u := .int .u64 (r.on : Nat)) hXL
          have hy9 := ((((hx7.farj (j := 0) (u := .slice A0 nt ct) hXG).farj (j := 1) (u := .int .i64 r.size) hXG).farj (j := 2) (u := .slice A6 nr c6) hXG).farj (j := 3) (u := .slice vA ns vc) hXG).farj (j := 4) (u := .int .u64 (r.on : Nat)) hXG
          have HB := (H.out.below B9).mono (G := More F w) More.in
          have HF := Lib.hid (TellJ.is (F := F) (w0 := w) (d := ⟨A0, nt, ct, A6, nr, c6, vA, ns, vc⟩) (r := r) ⟨HB.tlen, HB.tmax, HB.fit, HB.tree, HB.lie, ⟨mG, hy9, GE.out.symm, hlieG⟩, ⟨ms, hx9, hmn.symm, hlieL⟩, HB.on, HB.size⟩ B9)
          obtain ⟨k0, k1, k2, k3, k4⟩ := put5_told ZK.out (.slice A0 nt ct) (.int .i64 r.size) (.slice A6 nr c6) (.slice vA ns vc) (.int .u64 (r.on : Nat))
          unfold put5 at k0 k1 k2 k3 k4
          clear B9 hlieG hlieL hXG hXL hx9 hy9 HB hx5 hx7 hf5 XF q2 hmn hgl
          go_wp2_with fail
          refine bodyPost_ret ?_ rfl HF.out
          simp [results, Tryd.results8, go_sem, k0, k1, k2, k3, k4, jv]
end Go.Proofs.YtcoccegmkcdeiaaDoor

