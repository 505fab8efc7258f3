/- Contracts and plain mathematics, put together by program (wip/merge.py) out of: JApartW JReady YCut. -/
import Derived.Test.YthbeldmgaioemaaDoorM10
import Derived.Maps.AppendAt
import Derived.Test.YthbeldmgaioemaaDoorM8
/- runs.apart walked. -/
namespace Go.Proofs.YthbeldmgaioemaaDoor
open Go.RowKit
set_option linter.unusedVariables false

/-- A box that is turned, and a result's place. -/
theorem boxes2c (w : World) (p0 p1 p2 p3 p4 z0 z1 z2 z3 z4 : Value) (T U : TypeId) : ∃ V, V = (w.alloc (.cells #[p0, p1, p2, p3, p4] T)).alloc (.cells #[z0, z1, z2, z3, z4] U) ∧
    C5 V w.heap.size p0 p1 p2 p3 p4 ∧ C5 V (w.heap.size + 1) z0 z1 z2 z3 z4 ∧ Below w.heap.size w V ∧ V.heap.size = w.heap.size + 2 := by
  have a1 := C5.new w p0 p1 p2 p3 p4 T
  have a2 := C5.new (w.alloc (.cells #[p0, p1, p2, p3, p4] T)) z0 z1 z2 z3 z4 U
  have s1 : (w.alloc (.cells #[p0, p1, p2, p3, p4] T)).heap.size = w.heap.size + 1 := by simp
  rw [s1] at a2
  exact ⟨_, rfl, a1.step (below_new _ _), a2, ((Below.refl _ w).alloc (Nat.le_refl _) _).alloc (by simp) _, by simp⟩
/-- What apart leaves. -/
def TellA (r : Jp.Rn) (w : World) (e : Ending) (w' : World) : Prop :=
  ∃ d B1 B2 B3 es ls, e = .returned (jv d r) ∧ Told (w.heap.size + 2) B1 B2 B3 d r es ls w' ∧ Below w.heap.size w w'
set_option maxRecDepth 100000 in
set_option maxHeartbeats 2000000 in
theorem runsApart_any {F : Nat → Prop} (d : Ad) (r : Jp.Rn) (w : World) (h : RM F w d r) (hlow : Low r) :
    Calls Tryd.prog 25 #[jv d r] w (TellA r w) := by
  obtain ⟨A0, nt, ct, R, nr, cr, S, ns, cs⟩ := d
  have H := Lib.hid h
  have HL := Lib.hid hlow
  obtain ⟨hr1, hr2, hr3⟩ := h.nr
  obtain ⟨hs1, hs2, hs3⟩ := h.ns
  have hr4 := hlow.rings
  have hs4 := hlow.rows
  have ht := hlow.tree
  simp only at hr1 hr2 hr3 hs1 hs2 hs3
  clear h hlow
  obtain ⟨V, hV, hX, hZ, hB, hsz⟩ := boxes2c w (.slice A0 nt ct) (.int .i64 r.size) (.slice R nr cr) (.slice S ns cs) (.int .u64 (r.on : Nat)) (.slice none 0 0) (.int .i64 0) (.slice none 0 0) (.slice none 0 0) (.int .u64 0) 33 33
  have E := Lib.hid hV
  have HM0 := H.out.below hB
  have htl := H.out.tlen
  simp only at htl
  have CV := Lib.hid (cloneV_any A0 nt ct r.tree V htl HM0.tree (by omega))
  have d0 := hX.b5.c0
  have X0 := Lib.hid hX
  have Z0 := Lib.hid hZ
  have B0 := Lib.hid hB
  have SZ := Lib.hid hsz
  clear hX hZ hB hsz hV HM0 htl
  unfold jv
  go_enter Tryd.func25, Tryd.ntmps25
  go_wp2_with fail
  rw [← E.out]
  clear E
  refine CV.out.mono ?_
  rintro e w1 ⟨A1, c1, rfl, hv1, hf1, hb1⟩
  have e0 := (X0.out.step hb1).b5.c0
  have f0 := (X0.out.step hb1).f0
  have hsz1 := SZ.out
  have hs1' := hb1.size
  obtain ⟨U1, hU1⟩ : ∃ U1, U1 = w1.setCell ⟨w.heap.size, 0, none⟩ (.slice A1 nt c1) := ⟨_, rfl⟩
  have EU1 := Lib.hid hU1
  have hX1 := (X0.out.step hb1).set0 (.slice A1 nt c1)
  have hZ1 := (Z0.out.step hb1).far (p := ⟨w.heap.size, 0, none⟩) (u := .slice A1 nt c1) (by simp)
  have hv1' := vrow_farj (X := w.heap.size) (j := 0) (u := .slice A1 nt c1) hv1 (fun _ ad hA => by have := hf1 ad hA; omega)
  have hB1 := (B0.out.trans (hb1.mono B0.out.size)).setCell (p := ⟨w.heap.size, 0, none⟩) (by simp) (.slice A1 nt c1)
  have hS1 : w.heap.size + 2 ≤ (w1.setCell ⟨w.heap.size, 0, none⟩ (.slice A1 nt c1)).heap.size := by simp [World.setCell]; omega
  rw [← hU1] at hX1 hZ1 hv1' hB1 hS1
  have X1 := Lib.hid hX1
  have Z1 := Lib.hid hZ1
  have V1 := Lib.hid hv1'
  have B1 := Lib.hid hB1
  have S1 := Lib.hid hS1
  have FT := Lib.hid (show From (w.heap.size + 2) A1 by rw [← hsz1]; exact hf1)
  have d2 := hX1.b5.c2
  have HM1 := H.out.below hB1
  obtain ⟨gs, hgs, hgi, _⟩ := H.out.rings
  have CG := Lib.hid (cloneG_any R nr cr gs U1 (hgs.below hB1) (by omega))
  have HGI := Lib.hid hgi
  have HGR := Lib.hid (show ∀ e ∈ gs, e.l ≠ [] → ∀ ad, e.A = some ad → ad.block ≠ w.heap.size from fun e he hne ad hA => by have := row_block (hgs.rows e he) hne hA; omega)
  clear hb1 hv1 hf1 hX1 hZ1 hv1' hB1 hS1 hU1 HM1 hgs hgi hs1' hsz1 X0 Z0 B0 CV d0
  go_wp2_with (rw [← EU1.out])
  refine CG.out.mono ?_
  rintro e w2 ⟨v2, rfl, hx2, hb2⟩
  obtain ⟨A2, c2, rfl⟩ := own_form hx2.own
  have e2 := (X1.out.step hb2).b5.c2
  have f2 := (X1.out.step hb2).f2
  obtain ⟨U2, hU2⟩ : ∃ U2, U2 = w2.setCell ⟨w.heap.size, 2, none⟩ (.slice A2 nr c2) := ⟨_, rfl⟩
  have EU2 := Lib.hid hU2
  have hgne : ∀ g, (Value.slice A2 nr c2).ownBlock = some g → g ≠ w.heap.size := fun g e => by have := (hx2.own.lt g e).1; have := S1.out; omega
  have hLG : LG w U1.heap.size nt c1 nr c2 ns cs A1 A2 S r 0 gs U2 := by
    rw [hU2]
    refine ⟨(X1.out.step hb2).set2 _, (Z1.out.step hb2).far (by simp), ?_, ⟨hx2.own.kept (grown_one w2 w.heap.size 2 (.slice A2 nr c2)) ?_, fun e he => row_farj (hx2.rows e he) ?_, hx2.apart⟩, HGI.out.symm, fun i e hi => absurd hi (by omega), (B1.out.trans (hb2.mono B1.out.size)).setCell (by simp) _, S1.out, by have := hb2.size; simp [World.setCell]; omega⟩
    · intro i z hi
      obtain ⟨b, off, e, hb1, hc, hd⟩ := V1.out i z hi
      have hne := FT.out _ e
      simp only at hne
      exact ⟨b, off, e, hb1, farcell (by omega) (keepcell hb2 hc), farcell (by omega) (keepcell hb2 hd)⟩
    · cases hob : (Value.slice A2 nr c2).ownBlock with
      | none => exact .inl rfl
      | some g => exact .inr (fun e => by injection e with e; exact hgne g hob e)
    · exact HGR.out e he
  have LG0 := Lib.hid hLG
  have d2 := hLG.box.b5.c2
  clear hb2 hx2 hU2 hLG X1 Z1 V1 B1 CG hgne
  go_wp2_with (rw [← EU2.out])
  clear EU1 EU2 e0 f0 e2 f2
  go_loopw [16] (fun i wr => ∃ k : Nat, k ≤ nr ∧ i = .int .i64 k ∧ ∃ es, Hid (LG w U1.heap.size nt c1 nr c2 ns cs A1 A2 S r k es wr)) (fun i _ => nr - (intOf i).toNat)
  case atStart => exact ⟨0, Nat.zero_le _, rfl, gs, LG0⟩
  case round =>
    clear d2 LG0
    obtain ⟨k, hk, rfl, es, HG⟩ := hrel
    have hlen := HG.out.own.len csG_len (by decide)
    by_cases hlt : k < nr
    · obtain ⟨g, cap, e1, hg1, hg2, hcap, hmax⟩ := HG.out.own.form (by omega)
      injection e1 with e11 _ e12
      subst e11 e12
      obtain ⟨e, he⟩ : ∃ e, es[k]? = some e := ⟨_, List.getElem?_eq_getElem (by omega)⟩
      have HE := Lib.hid he
      have hx := (own_slice csG_len (by decide) HG.out.own).1
      obtain ⟨b, off, e1, _, hc⟩ := hx.cell k e he
      injection e1 with e1
      injection e1 with e1 e2 e3
      subst e1 e2
      have c1' := hc 1 _ rfl
      have hrow := HG.out.own.rows e (List.mem_of_getElem? he)
      have hen : e.n ≤ 400 := by
        rw [← hrow.len]
        exact HL.out.ring (elG e) (by rw [← HG.out.is]; exact List.mem_map.2 ⟨e, List.mem_of_getElem? he, rfl⟩)
      have d2 := HG.out.box.b5.c2
      have i0 : (0 : Int) ≤ (k : Int) := by omega
      have i1 : (k : Int) < (nr : Int) := by omega
      have HR := Lib.hid hrow
      clear hc hx he hrow hr1 hs1 hlen
      have hfz : wr.frozen? ⟨g, k * 2 + 1, none⟩ = false := HG.out.own.own.frozenAt (k * 2 + 1)
      rw [Nat.zero_add] at c1'
      have hNX := fun w2 A3 n3 c3 => HG.out.next (w2 := w2) (A3 := A3) (n3 := n3) (c3 := c3) HE.out
      have NX := Lib.hid hNX
      have BX := Lib.hid HG.out.box
      have HU := Lib.hid HG.out.up
      clear hNX
      go_wp2_with fail
      refine wp_region_held_drew (S := fun w' => w'.cell? ⟨w.heap.size, 2, none⟩ = some (.slice (some ⟨g, 0, none⟩) nr c2)) (by kernel_rfl) d2 (fun hHeld => ?_)
      refine wpAnyH_takesJ (i := 0) (v := (.pointer (some ⟨w.heap.size, 2, none⟩))) (some 19) rfl rfl (by kernel_rfl) (by kernel_rfl) (by kernel_rfl) (fun _ _ _ h => h) (Or.inl ⟨by rfl, (by intro W9 hSw; (try dsimp only at hSw); go_simp; first | done | with_reducible rfl)⟩) (by assumption) ?_
      simp only [Act.put, List.setIfInBounds_toArray]; try simp only [List.set_cons_zero, List.set_cons_succ]
      refine wpAnyH_takesJ (i := 1) (v := (.slice (some ⟨g, 0, none⟩) nr c2)) (some 20) rfl rfl (by kernel_rfl) (by kernel_rfl) (by kernel_rfl) (fun _ _ _ h => h) (Or.inl ⟨by rfl, (by intro W9 hSw; (try dsimp only at hSw); go_simp; first | done | with_reducible rfl)⟩) (by assumption) ?_
      simp only [Act.put, List.setIfInBounds_toArray]; try simp only [List.set_cons_zero, List.set_cons_succ]
      refine wpAnyH_takesJ (i := 2) (v := (.int .i64 (k : Nat))) (some 21) rfl rfl (by kernel_rfl) (by kernel_rfl) (by kernel_rfl) (fun _ _ _ h => h) (Or.inl ⟨by rfl, (by intro W9 hSw; (try dsimp only at hSw); go_simp; first | done | with_reducible rfl)⟩) (by assumption) ?_
      simp only [Act.put, List.setIfInBounds_toArray]; try simp only [List.set_cons_zero, List.set_cons_succ]
      refine wpAnyH_takesJ (i := 3) (v := (.pointer (some ⟨w.heap.size, 2, none⟩))) (some 22) rfl rfl (by kernel_rfl) (by kernel_rfl) (by kernel_rfl) (fun _ _ _ h => h) (Or.inl ⟨by rfl, (by intro W9 hSw; (try dsimp only at hSw); go_simp; first | done | with_reducible rfl)⟩) (by assumption) ?_
      simp only [Act.put, List.setIfInBounds_toArray]; try simp only [List.set_cons_zero, List.set_cons_succ]
      refine wpAnyH_takesJ (i := 4) (v := (.slice (some ⟨g, 0, none⟩) nr c2)) (some 23) rfl rfl (by kernel_rfl) (by kernel_rfl) (by kernel_rfl) (fun _ _ _ h => h) (Or.inl ⟨by rfl, (by intro W9 hSw; (try dsimp only at hSw); go_simp; first | done | with_reducible rfl)⟩) (by assumption) ?_
      simp only [Act.put, List.setIfInBounds_toArray]; try simp only [List.set_cons_zero, List.set_cons_succ]
      refine wpAnyH_takesJ (i := 5) (v := (.int .i64 (k : Nat))) (some 24) rfl rfl (by kernel_rfl) (by kernel_rfl) (by kernel_rfl) (fun _ _ _ h => h) (Or.inl ⟨by rfl, (by intro W9 hSw; (try dsimp only at hSw); go_simp; first | done | with_reducible rfl)⟩) (by assumption) ?_
      simp only [Act.put, List.setIfInBounds_toArray]; try simp only [List.set_cons_zero, List.set_cons_succ]
      refine wpAnyH_takesJ (i := 6) (v := (.pointer (some ⟨g, k * 2, none⟩))) (some 25) rfl rfl (by kernel_rfl) (by kernel_rfl) (by kernel_rfl) (fun _ _ _ h => h) (Or.inl ⟨by rfl, (by intro W9 hSw; (try dsimp only at hSw); go_simp; first | done | with_reducible rfl)⟩) (by assumption) ?_
      simp only [Act.put, List.setIfInBounds_toArray]; try simp only [List.set_cons_zero, List.set_cons_succ]
      refine wpAnyH_takesJ (i := 7) (v := (.pointer (some ⟨g, k * 2 + 1, none⟩))) (some 26) rfl rfl (by kernel_rfl) (by kernel_rfl) (by kernel_rfl) (fun _ _ _ h => h) (Or.inl ⟨by rfl, (by intro W9 hSw; (try dsimp only at hSw); go_simp; first | done | with_reducible rfl)⟩) (by assumption) ?_
      simp only [Act.put, List.setIfInBounds_toArray]; try simp only [List.set_cons_zero, List.set_cons_succ]
      refine wpAnyH_ready (rs := [8]) (by kernel_rfl) (by simp) ?_
      refine AllReadyH.cons rfl (fun K hK => ?_) AllReadyH.nil
      go_simp
      refine hK.out _ _ (by exact d2) (fun hHeld => ?_)
      clear hK K
      try dsimp only
      refine wpAnyH_ready (rs := [9]) (by kernel_rfl) (by simp) ?_
      refine AllReadyH.cons rfl (fun K hK => ?_) AllReadyH.nil
      go_simp
      go_at_call 49
      refine (cloneI_any e.A e.n e.c e.l _ (by exact HR.out.drew) (by omega)).mono ?_
      rintro e' w3 ⟨v3, rfl, ho3, hb3⟩
      obtain ⟨A3, c3, rfl⟩ := own_form ho3
      have hb3' := below_of_drew hb3
      refine hK.out _ _ (by exact keepcell hb3' d2) (fun hHeld => ?_)
      have NX3 := Lib.hid (NX.out _ A3 e.n c3 hb3' ho3)
      have q1 := keepcell hb3' c1'
      have qf := keepfree hb3' c1' hfz
      clear hK K
      try dsimp only
      refine wpAnyH_takesJ (i := 10) (v := (.pointer (some ⟨g, k * 2, none⟩))) (some 29) rfl rfl (by kernel_rfl) (by kernel_rfl) (by kernel_rfl) (fun _ _ _ h => h) (Or.inl ⟨by rfl, (by intro W9 hSw; (try dsimp only at hSw); go_simp; first | done | with_reducible rfl)⟩) (by assumption) ?_
      simp only [Act.put, List.setIfInBounds_toArray]; try simp only [List.set_cons_zero, List.set_cons_succ]
      refine wpAnyH_takesJ (i := 11) (v := (.pointer (some ⟨g, k * 2 + 1, none⟩))) (some 30) rfl rfl (by kernel_rfl) (by kernel_rfl) (by kernel_rfl) (fun _ _ _ h => h) (Or.inl ⟨by rfl, (by intro W9 hSw; (try dsimp only at hSw); go_simp; first | done | with_reducible rfl)⟩) (by assumption) ?_
      simp only [Act.put, List.setIfInBounds_toArray]; try simp only [List.set_cons_zero, List.set_cons_succ]
      refine wpAnyH_ready (rs := [12]) (by kernel_rfl) (by simp) ?_
      refine AllReadyH.cons rfl (fun K hK => ?_) AllReadyH.nil
      go_simp
      have BX3 := (BX.out.step hb3').b5.c2
      have hgX : g ≠ w.heap.size := by have := S1.out; omega
      refine hK.out _ _ (by exact farcell hgX.symm BX3) (fun hHeld => ?_)
      clear hK K
      try dsimp only
      refine wpAnyH_done (by kernel_rfl) ?_ _
      obtain ⟨W4, hW4⟩ : ∃ W4, W4 = w3.setCell ⟨g, k * 2 + 1, none⟩ (.slice A3 e.n c3) := ⟨_, rfl⟩
      rw [← hW4] at NX3 ⊢
      clear hW4 ho3 hb3 hb3' q1 qf BX3 d2 c1'
      go_wp2_with fail
      go_roundw
      case rel => exact ⟨k + 1, by omega, by go_num, _, NX3⟩
      case measure => simp [intOf]; omega
    · obtain rfl : k = nr := by omega
      obtain ⟨wo, rfl⟩ : ∃ wo : World, wo = wr := ⟨_, rfl⟩
      have e3 := HG.out.box.b5.c3
      have f3 := HG.out.box.f3
      have hBo := HG.out.below
      obtain ⟨ks, hks, hki, _⟩ := H.out.rows
      have CL := Lib.hid (cloneL_any S ns cs ks wo (hks.below hBo) (by omega))
      have HKI := Lib.hid hki
      have HKR := Lib.hid (show ∀ e ∈ ks, e.l ≠ [] → ∀ ad, e.A = some ad → ad.block < w.heap.size from fun e he hne ad hA => row_block (hks.rows e he) hne hA)
      clear hks hki hBo
      go_wp2_with fail
      refine CL.out.mono ?_
      rintro e w2 ⟨v2, rfl, hx2, hb2⟩
      obtain ⟨A4, c4, rfl⟩ := own_form hx2.own
      have e3 := (HG.out.box.step hb2).b5.c3
      have f3 := (HG.out.box.step hb2).f3
      obtain ⟨U3, hU3⟩ : ∃ U3, U3 = w2.setCell ⟨w.heap.size, 3, none⟩ (.slice A4 ns c4) := ⟨_, rfl⟩
      have EU3 := Lib.hid hU3
      have hgo := grown_one w2 w.heap.size 3 (.slice A4 ns c4)
      have hup := HG.out.up
      have hlow := HG.out.low
      have hsz3 : U3.heap.size = w2.heap.size := by rw [hU3]; simp [World.setCell]
      have hle := HG.out.own.len csG_len (by decide)
      have hLL : LL w U1.heap.size wo.heap.size w2.heap.size nt c1 k c2 ns c4 A1 A2 A4 r 0 es ks U3 := by
        rw [hU3]
        refine ⟨(HG.out.box.step hb2).set3 _, (HG.out.put.step hb2).far (by simp), ?_, ⟨(HG.out.own.step hb2).own.kept hgo ?_, fun e he => row_farj ((HG.out.own.step hb2).rows e he) (fun hne ad hA => ?_), HG.out.own.apart⟩, HG.out.is, fun e he => ?_, fun g hg => (HG.out.own.own.lt g hg).2, fun e he hne ad hA => row_block (HG.out.own.rows e he) hne hA,
          ⟨hx2.own.kept hgo ?_, fun e he => row_farj (hx2.rows e he) (fun hne ad hA => by have := HKR.out e he hne ad hA; omega), hx2.apart⟩, HKI.out.symm, fun g hg => (hx2.own.lt g hg).2, fun i e hi => absurd hi (by omega), fun i j e f hi => absurd hi (by omega), (HG.out.below.trans (hb2.mono HG.out.below.size)).setCell (by simp) _, HG.out.low, hup, hb2.size, by simp [World.setCell]⟩
        · intro i z hi
          obtain ⟨b, off, e, hb1, hc, hd⟩ := HG.out.tree i z hi
          have hne := FT.out _ e
          simp only at hne
          exact ⟨b, off, e, hb1, farcell (by omega) (keepcell hb2 hc), farcell (by omega) (keepcell hb2 hd)⟩
        · cases hob : (Value.slice A2 k c2).ownBlock with
          | none => exact .inl rfl
          | some g => exact .inr (fun e => by injection e with e; have := (HG.out.own.own.lt g hob).1; omega)
        · obtain ⟨i, hi⟩ := List.mem_iff_getElem?.1 he
          have := HG.out.mine i e (by rw [← hle]; exact (List.getElem?_eq_some_iff.1 hi).1) hi ad hA
          omega
        · obtain ⟨i, hi⟩ := List.mem_iff_getElem?.1 he
          exact HG.out.mine i e (by rw [← hle]; exact (List.getElem?_eq_some_iff.1 hi).1) hi
        · cases hob : (Value.slice A4 ns c4).ownBlock with
          | none => exact .inl rfl
          | some g => exact .inr (fun e => by injection e with e; have := (hx2.own.lt g hob).1; omega)
      have LL0 := Lib.hid hLL
      have d3 := hLL.box.b5.c3
      clear hb2 hx2 hU3 hLL HG CL hgo hup hlow hsz3 hle
      go_wp2_with (rw [← EU3.out])
      clear EU3 e3 f3 
      go_loopw [39] (fun i wr => ∃ j : Nat, j ≤ ns ∧ i = .int .i64 j ∧ ∃ ls, Hid (LL w U1.heap.size wo.heap.size w2.heap.size nt c1 k c2 ns c4 A1 A2 A4 r j es ls wr)) (fun i _ => ns - (intOf i).toNat)
      case atStart => exact ⟨0, Nat.zero_le _, rfl, ks, LL0⟩
      case round =>
        clear d3 LL0
        obtain ⟨j, hj, rfl, ls, HG⟩ := hrel
        have hlen := HG.out.rows.len csL_len (by decide)
        by_cases hlj : j < ns
        · obtain ⟨g, cap, e1, hg1, hg2, hcap, hmax⟩ := HG.out.rows.form (by omega)
          injection e1 with e11 _ e12
          subst e11 e12
          obtain ⟨e, he⟩ : ∃ e, ls[j]? = some e := ⟨_, List.getElem?_eq_getElem (by omega)⟩
          have HE := Lib.hid he
          have hx := (own_slice csL_len (by decide) HG.out.rows).1
          obtain ⟨b, off, e1, _, hc⟩ := hx.cell j e he
          injection e1 with e1
          injection e1 with e1 e2 e3
          subst e1 e2
          have c1' := hc 0 _ rfl
          rw [Nat.zero_add, Nat.mul_one, Nat.add_zero] at c1'
          have hrow := HG.out.rows.rows e (List.mem_of_getElem? he)
          have hen : e.n ≤ 400 := by
            rw [← hrow.len]
            exact HL.out.row (elL e) (by rw [← HG.out.isl]; exact List.mem_map.2 ⟨e, List.mem_of_getElem? he, rfl⟩)
          have d3 := HG.out.box.b5.c3
          have i0 : (0 : Int) ≤ (j : Int) := by omega
          have i1 : (j : Int) < (ns : Int) := by omega
          have HR := Lib.hid hrow
          clear hc hx he hrow hr1 hs1 hlen
          have hfz : wr.frozen? ⟨g, j, none⟩ = false := HG.out.rows.own.frozenAt j
          have hNX := fun w2 A3 n3 c3 => HG.out.next (w2 := w2) (A3 := A3) (n3 := n3) (c3 := c3) HE.out
          have NX := Lib.hid hNX
          have BX := Lib.hid HG.out.box
          have hgX : g ≠ w.heap.size := by have := S1.out; have := HG.out.low; have := HG.out.o12; omega
          clear hNX
          go_wp2_with fail
          refine wp_region_held_drew (S := fun w' => w'.cell? ⟨w.heap.size, 3, none⟩ = some (.slice (some ⟨g, 0, none⟩) ns c4)) (by kernel_rfl) d3 (fun hHeld => ?_)
          refine wpAnyH_takesJ (i := 0) (v := (.pointer (some ⟨w.heap.size, 3, none⟩))) (some 42) rfl rfl (by kernel_rfl) (by kernel_rfl) (by kernel_rfl) (fun _ _ _ h => h) (Or.inl ⟨by rfl, (by intro W9 hSw; (try dsimp only at hSw); go_simp; first | done | with_reducible rfl)⟩) (by assumption) ?_
          simp only [Act.put, List.setIfInBounds_toArray]; try simp only [List.set_cons_zero, List.set_cons_succ]
          refine wpAnyH_takesJ (i := 1) (v := (.slice (some ⟨g, 0, none⟩) ns c4)) (some 43) rfl rfl (by kernel_rfl) (by kernel_rfl) (by kernel_rfl) (fun _ _ _ h => h) (Or.inl ⟨by rfl, (by intro W9 hSw; (try dsimp only at hSw); go_simp; first | done | with_reducible rfl)⟩) (by assumption) ?_
          simp only [Act.put, List.setIfInBounds_toArray]; try simp only [List.set_cons_zero, List.set_cons_succ]
          refine wpAnyH_takesJ (i := 2) (v := (.int .i64 (j : Nat))) (some 44) rfl rfl (by kernel_rfl) (by kernel_rfl) (by kernel_rfl) (fun _ _ _ h => h) (Or.inl ⟨by rfl, (by intro W9 hSw; (try dsimp only at hSw); go_simp; first | done | with_reducible rfl)⟩) (by assumption) ?_
          simp only [Act.put, List.setIfInBounds_toArray]; try simp only [List.set_cons_zero, List.set_cons_succ]
          refine wpAnyH_takesJ (i := 3) (v := (.pointer (some ⟨w.heap.size, 3, none⟩))) (some 45) rfl rfl (by kernel_rfl) (by kernel_rfl) (by kernel_rfl) (fun _ _ _ h => h) (Or.inl ⟨by rfl, (by intro W9 hSw; (try dsimp only at hSw); go_simp; first | done | with_reducible rfl)⟩) (by assumption) ?_
          simp only [Act.put, List.setIfInBounds_toArray]; try simp only [List.set_cons_zero, List.set_cons_succ]
          refine wpAnyH_takesJ (i := 4) (v := (.slice (some ⟨g, 0, none⟩) ns c4)) (some 46) rfl rfl (by kernel_rfl) (by kernel_rfl) (by kernel_rfl) (fun _ _ _ h => h) (Or.inl ⟨by rfl, (by intro W9 hSw; (try dsimp only at hSw); go_simp; first | done | with_reducible rfl)⟩) (by assumption) ?_
          simp only [Act.put, List.setIfInBounds_toArray]; try simp only [List.set_cons_zero, List.set_cons_succ]
          refine wpAnyH_takesJ (i := 5) (v := (.int .i64 (j : Nat))) (some 47) rfl rfl (by kernel_rfl) (by kernel_rfl) (by kernel_rfl) (fun _ _ _ h => h) (Or.inl ⟨by rfl, (by intro W9 hSw; (try dsimp only at hSw); go_simp; first | done | with_reducible rfl)⟩) (by assumption) ?_
          simp only [Act.put, List.setIfInBounds_toArray]; try simp only [List.set_cons_zero, List.set_cons_succ]
          refine wpAnyH_takesJ (i := 6) (v := (.pointer (some ⟨g, j, none⟩))) (some 48) rfl rfl (by kernel_rfl) (by kernel_rfl) (by kernel_rfl) (fun _ _ _ h => h) (Or.inl ⟨by rfl, (by intro W9 hSw; (try dsimp only at hSw); go_simp; first | done | with_reducible rfl)⟩) (by assumption) ?_
          simp only [Act.put, List.setIfInBounds_toArray]; try simp only [List.set_cons_zero, List.set_cons_succ]
          refine wpAnyH_ready (rs := [7]) (by kernel_rfl) (by simp) ?_
          refine AllReadyH.cons rfl (fun K hK => ?_) AllReadyH.nil
          go_simp
          refine hK.out _ _ (by exact d3) (fun hHeld => ?_)
          clear hK K
          try dsimp only
          refine wpAnyH_ready (rs := [8]) (by kernel_rfl) (by simp) ?_
          refine AllReadyH.cons rfl (fun K hK => ?_) AllReadyH.nil
          go_simp
          go_at_call 49
          refine (cloneI_any e.A e.n e.c e.l _ (by exact HR.out.drew) (by omega)).mono ?_
          rintro e' w3 ⟨v3, rfl, ho3, hb3⟩
          obtain ⟨A3, c3, rfl⟩ := own_form ho3
          have hb3' := below_of_drew hb3
          refine hK.out _ _ (by exact keepcell hb3' d3) (fun hHeld => ?_)
          have NX3 := Lib.hid (NX.out _ A3 e.n c3 hb3' ho3)
          have q1 := keepcell hb3' c1'
          have qf := keepfree hb3' c1' hfz
          clear hK K
          try dsimp only
          refine wpAnyH_takesJ (i := 9) (v := (.pointer (some ⟨g, j, none⟩))) (some 51) rfl rfl (by kernel_rfl) (by kernel_rfl) (by kernel_rfl) (fun _ _ _ h => h) (Or.inl ⟨by rfl, (by intro W9 hSw; (try dsimp only at hSw); go_simp; first | done | with_reducible rfl)⟩) (by assumption) ?_
          simp only [Act.put, List.setIfInBounds_toArray]; try simp only [List.set_cons_zero, List.set_cons_succ]
          refine wpAnyH_ready (rs := [10]) (by kernel_rfl) (by simp) ?_
          refine AllReadyH.cons rfl (fun K hK => ?_) AllReadyH.nil
          go_simp
          have BX3 := (BX.out.step hb3').b5.c3
          refine hK.out _ _ (by exact farcell hgX.symm BX3) (fun hHeld => ?_)
          clear hK K
          try dsimp only
          refine wpAnyH_done (by kernel_rfl) ?_ _
          obtain ⟨W4, hW4⟩ : ∃ W4, W4 = w3.setCell ⟨g, j, none⟩ (.slice A3 e.n c3) := ⟨_, rfl⟩
          rw [← hW4] at NX3 ⊢
          clear hW4 ho3 hb3 hb3' q1 qf BX3 d3 c1'
          go_wp2_with fail
          go_roundw
          case rel => exact ⟨j + 1, by omega, by go_num, _, NX3⟩
          case measure => simp [intOf]; omega
        · obtain rfl : j = ns := by omega
          have T5 := Lib.hid (HG.out.told FT.out H.out (.slice A1 nt c1) (.int .i64 r.size) (.slice A2 k c2) (.slice A4 j c4) (.int .u64 (r.on : Nat)))
          have B5h := Lib.hid (below_put (b := w.heap.size + 1) HG.out.below (by omega) (.slice A1 nt c1) (.int .i64 r.size) (.slice A2 k c2) (.slice A4 j c4) (.int .u64 (r.on : Nat)))
          have d0 := HG.out.box.b5.c0
          have d1 := HG.out.box.b5.c1
          have d2 := HG.out.box.b5.c2
          have d3 := HG.out.box.b5.c3
          have d4 := HG.out.box.b5.c4
          have y0 := HG.out.put.b5.c0
          have y1 := HG.out.put.b5.c1
          have y2 := HG.out.put.b5.c2
          have y3 := HG.out.put.b5.c3
          have y4 := HG.out.put.b5.c4
          have g0 := HG.out.put.f0
          have g1 := HG.out.put.f1
          have g2 := HG.out.put.f2
          have g3 := HG.out.put.f3
          have g4 := HG.out.put.f4
          obtain ⟨k0, k1, k2, k3, k4⟩ := put5_told HG.out.put (.slice A1 nt c1) (.int .i64 r.size) (.slice A2 k c2) (.slice A4 j c4) (.int .u64 (r.on : Nat))
          have HF := Lib.hid (show TellA r w (.returned (jv ⟨A1, nt, c1, A2, k, c2, A4, j, c4⟩ r)) (put5 wr (w.heap.size + 1) (.slice A1 nt c1) (.int .i64 r.size) (.slice A2 k c2) (.slice A4 j c4) (.int .u64 (r.on : Nat))) from ⟨_, _, _, _, _, _, rfl, T5.out, B5h.out⟩)
          unfold put5 at k0 k1 k2 k3 k4
          clear T5 B5h HG hlen hr1 hs1
          go_wp2_with fail
          refine bodyPost_ret ?_ rfl HF.out
          simp [results, Tryd.results25, go_sem, k0, k1, k2, k3, k4, jv]
end Go.Proofs.YthbeldmgaioemaaDoor


/- A row of Runs that are told, made longer: an append, and what else stands. -/
namespace Go.Proofs.YthbeldmgaioemaaDoor
open Go.RowKit
set_option linter.unusedVariables false

theorem run_append_rowat (w : World) (ty : TypeId) (base : Nat) (v : Value) (n : Nat) (xs : List Int) (hown : w.ownsRow base 3 1 v n (xs.map (Value.int .i64)))
    (A : Option Addr) (m c : Nat) (zs : List Int) (h : Row w A m c zs) (hb : n + m ≤ 1000000) (hbase : base ≤ w.heap.size) :
    ∃ v' w', (Builtin.append_ #[44, 44] ty #[v, .slice A m c]).run Tryd.prog w = .ok v' w' ∧ w'.ownsRow base 3 1 v' (n + m) ((xs ++ zs).map (Value.int .i64)) ∧ w.grownBy w' v.ownBlock ∧ (v'.ownBlock = v.ownBlock ∨ v'.ownBlock = some w.heap.size) := by
  obtain ⟨i0, hi, hz0, hz1, hz2⟩ := info_parts info_int
  have hl := h.len
  cases A with
  | none =>
    have hc := h.nil rfl
    have h2 := h.cap
    subst hc
    have hm : m = 0 := by omega
    subst hm
    have hv : zs = [] := List.length_eq_zero_iff.1 hl
    subst hv
    exact ⟨v, w, run_append_owned_none (P := Tryd.prog) w base 44 ty 3 i0 1 Tryd.underlying44 hi v n _ hown, by rw [List.append_nil, Nat.add_zero]; exact hown, World.grownBy.refl w _, .inl rfl⟩
  | some ad =>
    have hcells : ∀ j u, (zs.map (Value.int .i64))[j]? = some u → w.cell? (ad.add j) = some u := by
      cases zs with
      | nil => intro j u hj; simp at hj
      | cons y ys =>
        obtain ⟨b, off, e, _⟩ := h.row 0 y rfl
        injection e with e
        subst e
        exact h.icells
    obtain ⟨v', w', h1, h2, h3, _, h5⟩ := run_append_own_at (P := Tryd.prog) w base 44 ty 3 i0 _ 1 8 Tryd.underlying44 hi hz0 hz1 hz2 rfl (by decide) v n _ hown ad m c _ (by rw [List.length_map, hl]; omega) hcells (icells_one zs) (by unfold maxLen; omega) (by omega) hbase
    exact ⟨v', w', h1, by rw [List.map_append]; exact h2, h3, h5⟩
theorem step_append_rowat {w : World} {ops : Array Oper} {o : Oper} {a : Act} {K : Act → World → Prop} {Q : Exit → Act → World → Prop} {E : Prop} (hgd : o.guard = none) (s x : Operand)
    (ho : o.op = .call { callee := .builtin .append, args := #[s, x], argTypes := #[44, 44] })
    (base : Nat) (v : Value) (n : Nat) (xs : List Int) (hs : a.eval s = v) (hown : w.ownsRow base 3 1 v n (xs.map (Value.int .i64)))
    (A : Option Addr) (m c : Nat) (zs : List Int) (hx : a.eval x = .slice A m c) (h : Row w A m c zs) (hb : n + m ≤ 1000000) (hbase : base ≤ w.heap.size)
    (hK : ∀ v' w', w'.ownsRow base 3 1 v' (n + m) ((xs ++ zs).map (Value.int .i64)) → w.grownBy w' v.ownBlock → (v'.ownBlock = v.ownBlock ∨ v'.ownBlock = some w.heap.size) → K (a.put o.dst v') w') :
    if Region.wanted o (yielded ops a.tmps) = true then Oper.wp Tryd.prog o a w K Q else E := by
  obtain ⟨v', w', hr, h2, h3, h4⟩ := run_append_rowat w o.type base v n xs hown A m c zs h hb hbase
  have hw : Region.wanted o (yielded ops a.tmps) = true := by simp [Region.wanted, hgd]
  rw [if_pos hw]
  unfold Oper.wp
  simp [execOp, ho, resolve, invoke, builtin, hs, hx, hr, Result.andThen]
  exact hK v' w' h2 h3 h4
/-- Runs in memory whose row q is the call's own, apart from all else. -/
structure Ready (B0 q : Nat) (d : Ad) (r : Jp.Rn) (es ls : List El) (e0 : El) (W : World) : Prop where
  tlen : r.tree.length = d.nt
  tmax : d.nt ≤ 9223372036854775807
  fit : Fit r.tree
  on : r.on < 18446744073709551616
  size : In64 r.size
  tree : VRow W W.heap.size d.T r.tree
  treeF : From B0 d.T
  own : XO csG 2 56 B0 W (.slice d.R d.nr d.cr) d.nr es
  is : es.map elG = r.rings
  mine : ∀ e ∈ es, From B0 e.A
  rows : XO csL 1 44 B0 W (.slice d.S d.ns d.cs) d.ns ls
  isl : ls.map elL = r.rows
  lie : ∀ e ∈ ls, From B0 e.A
  at' : ls[q]? = some e0
  ours : W.ownsRow B0 3 1 (.slice e0.A e0.n e0.c) e0.n (e0.l.map (Value.int .i64))
  t1 : ∀ g, (Value.slice e0.A e0.n e0.c).ownBlock = some g → ∀ ad, d.T = some ad → ad.block ≠ g
  t2 : ∀ g, (Value.slice e0.A e0.n e0.c).ownBlock = some g → (Value.slice d.R d.nr d.cr).ownBlock ≠ some g
  t3 : ∀ g, (Value.slice e0.A e0.n e0.c).ownBlock = some g → ∀ e ∈ es, e.l ≠ [] → ∀ ad, e.A = some ad → ad.block ≠ g
  t4 : ∀ g, (Value.slice e0.A e0.n e0.c).ownBlock = some g → (Value.slice d.S d.ns d.cs).ownBlock ≠ some g
  t5 : ∀ (j : Nat) (f : El), j ≠ q → ls[j]? = some f → Apart (.slice e0.A e0.n e0.c) f
  r1 : ∀ g, (Value.slice d.R d.nr d.cr).ownBlock = some g → ∀ ad, d.T = some ad → ad.block ≠ g
  r2 : ∀ g, (Value.slice d.R d.nr d.cr).ownBlock = some g → (Value.slice d.S d.ns d.cs).ownBlock ≠ some g
  r3 : ∀ g, (Value.slice d.R d.nr d.cr).ownBlock = some g → ∀ e ∈ ls, e.l ≠ [] → ∀ ad, e.A = some ad → ad.block ≠ g
  s1 : ∀ g, (Value.slice d.S d.ns d.cs).ownBlock = some g → ∀ ad, d.T = some ad → ad.block ≠ g
  s2 : ∀ g, (Value.slice d.S d.ns d.cs).ownBlock = some g → ∀ e ∈ es, e.l ≠ [] → ∀ ad, e.A = some ad → ad.block ≠ g
  up : B0 ≤ W.heap.size
theorem xo_base {cs : El → List Value} {sz : Nat} {ty : TypeId} {b1 b2 n : Nat} {w : World} {v : Value} {es : List El} (h : XO cs sz ty b1 w v n es) (hb : b2 ≤ b1) : XO cs sz ty b2 w v n es := ⟨zown_base' h.own hb, h.rows, h.apart⟩
/-- A tree's block lies below B1. -/
theorem tree_lt {W : World} {B : Nat} {A : Option Addr} {vs : List (Int × Int)} (h : VRow W B A vs) (hne : vs ≠ []) : ∀ ad, A = some ad → ad.block < B := by
  intro ad hA
  obtain ⟨x0, hx0⟩ : ∃ x, vs[0]? = some x := ⟨_, List.getElem?_eq_getElem (List.length_pos_iff.2 hne)⟩
  obtain ⟨b, off, e5, hb, _⟩ := h 0 x0 hx0
  rw [hA] at e5
  injection e5 with e5
  subst e5
  exact hb
theorem Told.ready {B0 B1 B2 B3 : Nat} {d : Ad} {r : Jp.Rn} {es ls : List El} {W : World} (h : Told B0 B1 B2 B3 d r es ls W) (hne : r.tree ≠ []) {q : Nat} {e0 : El} (hq : ls[q]? = some e0) : Ready B0 q d r es ls e0 W := by
  have h01 := h.o01
  have h12 := h.o12
  have h23 := h.o23
  have hup := h.up
  have hT := tree_lt h.tree hne
  have rf : ∀ (i : Nat) e, ls[i]? = some e → From B3 e.A := fun i e hi => by
    obtain ⟨_, _, e1, _, h3⟩ := Row.of_own' (h.ours i e hi)
    injection e1 with e1
    subst e1
    exact h3
  have rf' : ∀ e ∈ ls, From B3 e.A := fun e he => by obtain ⟨i, hi⟩ := List.mem_iff_getElem?.1 he; exact rf i e hi
  have hg0 : ∀ g, (Value.slice e0.A e0.n e0.c).ownBlock = some g → B3 ≤ g := fun g hg => ((h.ours q e0 hq).lt g hg).1
  exact {
    tlen := h.tlen, tmax := h.tmax, fit := h.fit, on := h.on, size := h.size
    tree := h.tree.more (by omega)
    treeF := h.treeF
    own := xo_base h.own h01
    is := h.is
    mine := fun e he => (h.mine e he).mono h01
    rows := xo_base h.rows (by omega)
    isl := h.isl
    lie := fun e he => (rf' e he).mono (by omega)
    at' := hq
    ours := zown_base' (h.ours q e0 hq) (by omega)
    t1 := fun g hg ad hA => by have := hg0 g hg; have := hT ad hA; omega
    t2 := fun g hg e => by have := hg0 g hg; have := h.gl g e; omega
    t3 := fun g hg e he hne ad hA => by have := hg0 g hg; have := h.gr e he hne ad hA; omega
    t4 := fun g hg e => by have := hg0 g hg; have := h.ll g e; omega
    t5 := fun j f hj hf => h.far q j e0 f (fun e => hj e.symm) hq hf
    r1 := fun g hg ad hA => by have := (h.own.own.lt g hg).1; have := hT ad hA; omega
    r2 := fun g hg e => by have := h.gl g hg; have := (h.rows.own.lt g e).1; omega
    r3 := fun g hg e he hne ad hA => by have := h.gl g hg; have := rf' e he ad hA; omega
    s1 := fun g hg ad hA => by have := (h.rows.own.lt g hg).1; have := hT ad hA; omega
    s2 := fun g hg e he hne ad hA => by have := (h.rows.own.lt g hg).1; have := h.gr e he hne ad hA; omega
    up := by omega }
theorem Ready.step {B0 q : Nat} {d : Ad} {r : Jp.Rn} {es ls : List El} {e0 : El} {W W' : World} (h : Ready B0 q d r es ls e0 W) (hb : Below W.heap.size W W') : Ready B0 q d r es ls e0 W' :=
  { h with
    tree := (h.tree.below hb).more hb.size
    own := h.own.step hb
    rows := h.rows.step hb
    ours := own_below h.ours hb
    up := Nat.le_trans h.up hb.size }
theorem vrow_set {W : World} {X j : Nat} {A : Option Addr} {vs : List (Int × Int)} {u : Value} (h : VRow W W.heap.size A vs) (ha : ∀ ad, A = some ad → ad.block ≠ X) : VRow (W.setCell ⟨X, j, none⟩ u) (W.setCell ⟨X, j, none⟩ u).heap.size A vs := vrow_farj h (fun _ => ha)
theorem xo_kept {cs : El → List Value} {sz : Nat} {ty : TypeId} {base n g : Nat} {W W' : World} {v : Value} {es : List El} (h : XO cs sz ty base W v n es) (hg : W.grownBy W' (some g)) (hv : v.ownBlock ≠ some g) (hr : ∀ e ∈ es, e.l ≠ [] → ∀ ad, e.A = some ad → ad.block ≠ g) : XO cs sz ty base W' v n es :=
  ⟨h.own.kept hg (.inr hv), fun e he => row_kept (h.rows e he) hg (fun hne ad hA e2 => by injection e2 with e2; exact hr e he hne ad hA e2.symm), h.apart⟩
theorem map_set_elG (es : List El) (p : Nat) (e : El) : (es.set p e).map elG = (es.map elG).set p (elG e) := List.map_set
theorem map_set_elL (es : List El) (p : Nat) (e : El) : (es.set p e).map elL = (es.map elL).set p (elL e) := List.map_set
theorem vrow_grown {W W' : World} {g : Nat} {A : Option Addr} {vs : List (Int × Int)} (h : VRow W W.heap.size A vs) (hg : W.grownBy W' (some g)) (ha : ∀ ad, A = some ad → ad.block ≠ g) : VRow W' W'.heap.size A vs := by
  intro i z hi
  obtain ⟨b, off, e, hb, hc, hd⟩ := h i z hi
  have hne := ha _ e
  simp only at hne
  exact ⟨b, off, e, Nat.lt_of_lt_of_le hb hg.size, hg.cell hc (fun e => by injection e with e; exact hne e), hg.cell hd (fun e => by injection e with e; exact hne e)⟩
/-- A ring turned. -/
theorem Ready.ring {B0 B q p g nt ct nr cr ns cs : Nat} {T S : Option Addr} {r : Jp.Rn} {es ls : List El} {e0 : El} {W : World} (h : Ready B0 q ⟨T, nt, ct, some ⟨g, 0, none⟩, nr, cr, S, ns, cs⟩ r es ls e0 W) (hp : p < nr) {x : Int × List Int} {A : Option Addr} {n c : Nat}
    (hr : Row W A n c x.2) (hf : From B A) (hB0 : B0 ≤ B) (hg : g < B) (he : ∀ k, (Value.slice e0.A e0.n e0.c).ownBlock = some k → k < B) (hs : ∀ k, (Value.slice S ns cs).ownBlock = some k → k < B) :
    Ready B0 q ⟨T, nt, ct, some ⟨g, 0, none⟩, nr, cr, S, ns, cs⟩ (Jp.ringed r p x) (es.set p ⟨x.1, x.2, A, n, c⟩) ls e0 ((W.setCell ⟨g, p * 2, none⟩ (.int .i64 x.1)).setCell ⟨g, p * 2 + 1, none⟩ (.slice A n c)) := by
  have hgr := (grown_one W g (p * 2) (.int .i64 x.1)).trans (grown_one _ g (p * 2 + 1) (.slice A n c))
  have hgB := (h.own.own.lt g rfl).1
  exact {
    tlen := h.tlen, tmax := h.tmax, fit := h.fit, on := h.on, size := h.size
    tree := vrow_grown h.tree hgr (h.r1 g rfl)
    treeF := h.treeF
    own := h.own.set2 p ⟨x.1, x.2, A, n, c⟩ hp hr (fun _ ad hA e2 => by have := hf ad hA; simp only [Value.ownBlock, Option.some.injEq] at e2; omega)
    is := by rw [map_set_elG, h.is]; rfl
    mine := fun e he' => by
      rcases List.mem_or_eq_of_mem_set he' with h' | rfl
      · exact h.mine e h'
      · exact hf.mono hB0
    rows := xo_kept h.rows hgr (h.r2 g rfl) (h.r3 g rfl)
    isl := h.isl
    lie := h.lie
    at' := h.at'
    ours := h.ours.kept hgr (by
      cases hob : (Value.slice e0.A e0.n e0.c).ownBlock with
      | none => exact .inl rfl
      | some k => exact .inr (fun e => by injection e with e; exact h.t2 k hob (by rw [e]; rfl)))
    t1 := h.t1
    t2 := h.t2
    t3 := fun k hk e he' hne ad hA => by
      rcases List.mem_or_eq_of_mem_set he' with h' | rfl
      · exact h.t3 k hk e h' hne ad hA
      · have := hf ad hA; have := he k hk; omega
    t4 := h.t4
    t5 := h.t5
    r1 := h.r1
    r2 := h.r2
    r3 := h.r3
    s1 := h.s1
    s2 := fun k hk e he' hne ad hA => by
      rcases List.mem_or_eq_of_mem_set he' with h' | rfl
      · exact h.s2 k hk e h' hne ad hA
      · have := hf ad hA; have := hs k hk; omega
    up := Nat.le_trans h.up hgr.size }
/-- The row made longer, and told in its place. -/
theorem Ready.push {F : Nat → Prop} {B0 q g nt ct nr cr ns cs : Nat} {T R : Option Addr} {r : Jp.Rn} {es ls : List El} {e0 : El} {w0 W W' : World} (h : Ready B0 q ⟨T, nt, ct, R, nr, cr, some ⟨g, 0, none⟩, ns, cs⟩ r es ls e0 W) (h0 : w0.heap.size ≤ B0) {l : List Int} {A : Option Addr} {n c : Nat}
    (ho : W'.ownsRow B0 3 1 (.slice A n c) n ((e0.l ++ l).map (Value.int .i64))) (hgr : W.grownBy W' (Value.slice e0.A e0.n e0.c).ownBlock) (hat : (Value.slice A n c).ownBlock = (Value.slice e0.A e0.n e0.c).ownBlock ∨ (Value.slice A n c).ownBlock = some W.heap.size) :
    RM (More F w0) (W'.setCell ⟨g, q, none⟩ (.slice A n c)) ⟨T, nt, ct, R, nr, cr, some ⟨g, 0, none⟩, ns, cs⟩ (Jp.rowed r q (e0.l ++ l)) := by
  have hq := h.at'
  have hln : ls.length = ns := h.rows.len csL_len (by decide)
  have hqn : q < ns := by rw [← hln]; exact (List.getElem?_eq_some_iff.1 hq).1
  have hgl := h.rows.own.lt g rfl
  obtain ⟨A5, c5, e5, hrow, hfr⟩ := Row.of_own' ho
  injection e5 with e51 _ e52
  subst e51 e52
  -- behind the append
  have ne : ∀ {v : Value}, (∀ k, (Value.slice e0.A e0.n e0.c).ownBlock = some k → v.ownBlock ≠ some k) → v.ownBlock = none ∨ v.ownBlock ≠ (Value.slice e0.A e0.n e0.c).ownBlock := fun {v} hv => by
    cases hob : (Value.slice e0.A e0.n e0.c).ownBlock with
    | none =>
      cases hv' : v.ownBlock with
      | none => exact .inl rfl
      | some b => exact .inr (by simp)
    | some k => exact .inr (hv k hob)
  have rn : ∀ {e : El}, (∀ k, (Value.slice e0.A e0.n e0.c).ownBlock = some k → e.l ≠ [] → ∀ ad, e.A = some ad → ad.block ≠ k) → e.l ≠ [] → ∀ ad, e.A = some ad → (Value.slice e0.A e0.n e0.c).ownBlock ≠ some ad.block := fun {e} hv hne ad hA hk => hv _ hk hne ad hA rfl
  have hG : XO csG 2 56 B0 W' (.slice R nr cr) nr es := ⟨h.own.own.kept hgr (ne h.t2), fun e he => row_kept (h.own.rows e he) hgr (rn (fun k hk => h.t3 k hk e he)), h.own.apart⟩
  have hLo : W'.ownsRow B0 44 1 (.slice (some ⟨g, 0, none⟩) ns cs) ns (ls.flatMap csL) := h.rows.own.kept hgr (ne h.t4)
  have hTr : VRow W' W'.heap.size T r.tree := by
    intro i z hi
    obtain ⟨b, off, e, hb, hc, hd⟩ := h.tree i z hi
    have hne : (Value.slice e0.A e0.n e0.c).ownBlock ≠ some b := fun hk => h.t1 b hk _ e rfl
    exact ⟨b, off, e, Nat.lt_of_lt_of_le hb hgr.size, hgr.cell hc (fun e => hne e.symm), hgr.cell hd (fun e => hne e.symm)⟩
  -- the store
  have hAg : ∀ ad, A = some ad → ad.block ≠ g := fun ad hA => by
    have hfl : (Value.slice A n c).ownBlock = some ad.block := by rw [hA]; rfl
    rcases hat with e | e
    · rw [hfl] at e; exact fun e2 => h.t4 _ e.symm (by rw [e2]; rfl)
    · rw [hfl] at e; injection e with e; omega
  have hgo := grown_one W' g q (.slice A n c)
  have hG2 := xo_kept hG hgo (fun e => h.r2 _ e rfl) (h.s2 g rfl)
  have hT2 := vrow_grown hTr hgo (h.s1 g rfl)
  have hset : (ls.flatMap csL).set q (.slice A n c) = (ls.set q ⟨e0.x, e0.l ++ l, A, n, c⟩).flatMap csL := flat_set_one ls q ⟨e0.x, e0.l ++ l, A, n, c⟩ (List.getElem?_eq_some_iff.1 hq).1
  have hL2 : XO csL 1 44 B0 (W'.setCell ⟨g, q, none⟩ (.slice A n c)) (.slice (some ⟨g, 0, none⟩) ns cs) ns (ls.set q ⟨e0.x, e0.l ++ l, A, n, c⟩) := by
    refine ⟨by rw [← hset]; exact (hLo.stored q (.slice A n c)).1, fun e he => ?_, fun e he hne ad hA e2 => ?_⟩
    · obtain ⟨j, hj⟩ := List.mem_iff_getElem?.1 he
      rw [List.getElem?_set] at hj
      by_cases hjq : q = j
      · subst hjq
        rw [if_pos rfl, if_pos (List.getElem?_eq_some_iff.1 hq).1] at hj
        injection hj with hj
        subst hj
        exact row_kept hrow hgo (fun _ ad hA e2 => by injection e2 with e2; exact hAg ad hA e2.symm)
      · rw [if_neg hjq] at hj
        have h1 := row_kept (h.rows.rows e (List.mem_of_getElem? hj)) hgr (h.t5 j e (fun e => hjq e.symm) hj)
        exact row_kept h1 hgo (fun hne ad hA => h.rows.apart e (List.mem_of_getElem? hj) hne ad hA)
    · simp only [Value.ownBlock, Option.some.injEq] at e2
      rcases List.mem_or_eq_of_mem_set he with h' | rfl
      · exact h.rows.apart e h' hne ad hA (by rw [e2]; rfl)
      · exact hAg ad hA e2.symm
  obtain ⟨x1, f1⟩ := own_slice csG_len (by decide) hG2
  obtain ⟨x2, f2⟩ := own_slice csL_len (by decide) hL2
  refine ⟨h.tlen, h.tmax, h.fit, hT2, fun _ ad hA => .inr (by have := h.treeF ad hA; omega), ⟨es, x1, h.is.symm, fun _ ad hA => .inr (by have := f1 ad hA; omega), fun e he _ ad hA => .inr (by have := h.mine e he ad hA; omega)⟩, ⟨_, x2, by rw [map_set_elL, h.isl]; rfl, fun _ ad hA => .inr (by have := f2 ad hA; omega), fun e he _ ad hA => .inr ?_⟩, h.on, h.size⟩
  rcases List.mem_or_eq_of_mem_set he with h' | rfl
  · have := h.lie e h' ad hA; omega
  · have := hfr ad hA; omega
theorem may_tree {r : Jp.Rn} (h : Jp.May r) : r.tree ≠ [] := fun e => by
  have := h.tree
  rw [e] at this
  exact absurd this (by decide)
theorem Told.ns {B0 B1 B2 B3 : Nat} {d : Ad} {r : Jp.Rn} {es ls : List El} {W : World} (h : Told B0 B1 B2 B3 d r es ls W) : r.rows.length = d.ns ∧ ls.length = d.ns := by
  have h1 := h.rows.len csL_len (by decide)
  exact ⟨by rw [← h.isl, List.length_map, h1], h1⟩
theorem Told.nr {B0 B1 B2 B3 : Nat} {d : Ad} {r : Jp.Rn} {es ls : List El} {W : World} (h : Told B0 B1 B2 B3 d r es ls W) : r.rings.length = d.nr ∧ es.length = d.nr := by
  have h1 := h.own.len csG_len (by decide)
  exact ⟨by rw [← h.is, List.length_map, h1], h1⟩
theorem nobody {w : World} {b : Nat} (h : More (fun _ => False) w b) : w.heap.size ≤ b := h.resolve_left id
end Go.Proofs.YthbeldmgaioemaaDoor


/- Runs that are apart, in which a ring or a row is turned: what is left. -/
namespace Go.Proofs.YthbeldmgaioemaaDoor
open Go.RowKit
set_option linter.unusedVariables false

theorem Ready.rm {F : Nat → Prop} {B0 q : Nat} {d : Ad} {r : Jp.Rn} {es ls : List El} {e0 : El} {W w0 : World} (h : Ready B0 q d r es ls e0 W) (h0 : w0.heap.size ≤ B0) : RM (More F w0) W d r := by
  obtain ⟨x1, f1⟩ := own_slice csG_len (by decide) h.own
  obtain ⟨x2, f2⟩ := own_slice csL_len (by decide) h.rows
  exact ⟨h.tlen, h.tmax, h.fit, h.tree, fun _ ad hA => .inr (by have := h.treeF ad hA; omega), ⟨es, x1, h.is.symm, fun _ ad hA => .inr (by have := f1 ad hA; omega), fun e he _ ad hA => .inr (by have := h.mine e he ad hA; omega)⟩, ⟨ls, x2, h.isl.symm, fun _ ad hA => .inr (by have := f2 ad hA; omega), fun e he _ ad hA => .inr (by have := h.lie e he ad hA; omega)⟩, h.on, h.size⟩
/-- The row cut off, and told in its place. -/
theorem Ready.cut {F : Nat → Prop} {B0 q g nt ct nr cr ns cs : Nat} {T R : Option Addr} {r : Jp.Rn} {es ls : List El} {e0 : El} {w0 W : World} (h : Ready B0 q ⟨T, nt, ct, R, nr, cr, some ⟨g, 0, none⟩, ns, cs⟩ r es ls e0 W) (h0 : w0.heap.size ≤ B0) {l : List Int} {A : Option Addr} {n c : Nat}
    (hr : Row W A n c l) (hA : ∀ ad, A = some ad → ∃ ad0, e0.A = some ad0 ∧ ad.block = ad0.block) :
    RM (More F w0) (W.setCell ⟨g, q, none⟩ (.slice A n c)) ⟨T, nt, ct, R, nr, cr, some ⟨g, 0, none⟩, ns, cs⟩ (Jp.rowed r q l) := by
  have hq := h.at'
  have hln : ls.length = ns := h.rows.len csL_len (by decide)
  have hqn : q < ns := by rw [← hln]; exact (List.getElem?_eq_some_iff.1 hq).1
  have hAg : ∀ ad, A = some ad → ad.block ≠ g := fun ad hAa => by
    obtain ⟨ad0, h1, h2⟩ := hA ad hAa
    have hfl : (Value.slice e0.A e0.n e0.c).ownBlock = some ad0.block := by rw [h1]; rfl
    exact fun e => h.t4 _ hfl (by rw [← h2, e]; rfl)
  have hAl : ∀ ad, A = some ad → B0 ≤ ad.block := fun ad hAa => by
    obtain ⟨ad0, h1, h2⟩ := hA ad hAa
    have := h.lie e0 (List.mem_of_getElem? hq) ad0 h1
    omega
  have hgo := grown_one W g q (.slice A n c)
  have hG2 := xo_kept h.own hgo (fun e => h.r2 _ e rfl) (h.s2 g rfl)
  have hT2 := vrow_grown h.tree hgo (h.s1 g rfl)
  have hL2 := h.rows.set1 q ⟨e0.x, l, A, n, c⟩ hqn hr (fun _ ad hAa e2 => by simp only [Value.ownBlock, Option.some.injEq] at e2; exact hAg ad hAa e2.symm)
  obtain ⟨x1, f1⟩ := own_slice csG_len (by decide) hG2
  obtain ⟨x2, f2⟩ := own_slice csL_len (by decide) hL2
  refine ⟨h.tlen, h.tmax, h.fit, hT2, fun _ ad hA => .inr (by have := h.treeF ad hA; omega), ⟨es, x1, h.is.symm, fun _ ad hA => .inr (by have := f1 ad hA; omega), fun e he _ ad hA => .inr (by have := h.mine e he ad hA; omega)⟩, ⟨_, x2, by rw [map_set_elL, h.isl]; rfl, fun _ ad hA => .inr (by have := f2 ad hA; omega), fun e he _ ad hA => .inr ?_⟩, h.on, h.size⟩
  rcases List.mem_or_eq_of_mem_set he with h' | rfl
  · have := h.lie e h' ad hA; omega
  · have := hAl ad hA; omega
/-- What is written into one block alone, behind new memory. -/
structure Rg (g : Nat) (w w' : World) : Prop where
  box : ∀ b v0 v1 v2 v3 v4, b ≠ g → C5 w b v0 v1 v2 v3 v4 → C5 w' b v0 v1 v2 v3 v4
  held : ∀ B W, B ≤ g → B ≤ w.heap.size → Below B W w → Below B W w'
  cell : ∀ b i v, b ≠ g → w.cell? ⟨b, i, none⟩ = some v → w'.cell? ⟨b, i, none⟩ = some v
theorem Rg.below {g : Nat} {w w' : World} (hb : Below w.heap.size w w') : Rg g w w' :=
  ⟨fun _ _ _ _ _ _ _ h => h.step hb, fun _ _ _ h2 h => h.trans (hb.mono h2), fun _ _ _ _ h => keepcell hb h⟩
theorem Rg.set {g j : Nat} {w w' : World} {u : Value} (h : Rg g w w') : Rg g w (w'.setCell ⟨g, j, none⟩ u) :=
  ⟨fun b v0 v1 v2 v3 v4 hne hc => (h.box b v0 v1 v2 v3 v4 hne hc).far (fun e => hne e.symm), fun B W h1 h2 hb => (h.held B W h1 h2 hb).setCell h1 u, fun b i v hne hc => farcell hne (h.cell b i v hne hc)⟩
theorem Rg.of {g : Nat} {w w1 w2 : World} (hb : Below w.heap.size w w1) (h : Rg g w1 w2) : Rg g w w2 :=
  ⟨fun b v0 v1 v2 v3 v4 hne hc => h.box b v0 v1 v2 v3 v4 hne (hc.step hb), fun B W h1 h2 hb2 => h.held B W h1 (Nat.le_trans h2 hb.size) (hb2.trans (hb.mono h2)), fun b i v hne hc => h.cell b i v hne (keepcell hb hc)⟩
end Go.Proofs.YthbeldmgaioemaaDoor

