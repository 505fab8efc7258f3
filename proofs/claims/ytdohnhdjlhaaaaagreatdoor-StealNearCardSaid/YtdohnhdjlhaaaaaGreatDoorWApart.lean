/- steal.apart walked. -/
import Derived.Test.YtdohnhdjlhaaaaaGreatDoorJApartW
namespace Go.Proofs.YtdohnhdjlhaaaaaGreatDoor
open Go.RowKit
set_option linter.unusedVariables false

set_option maxRecDepth 100000 in
set_option maxHeartbeats 2000000 in
theorem stealApart_any {F : Nat → Prop} (d : Ad) (r : Jp.Rn) (w : World) (h : RM F w d r) (hlow : Low r) :
    Calls Tryz.prog 27 #[jv d r] w (TellA r w) := by
  obtain ⟨A0, nt, ct, R, nr, cr, S, ns, cs⟩ := d
  have H := Lib.hid h
  have HL := Lib.hid hlow
  obtain ⟨hr1, hr2, hr3⟩ := h.nr
  obtain ⟨hs1, hs2, hs3⟩ := h.ns
  have hr4 := hlow.rings
  have hs4 := hlow.rows
  have ht := hlow.tree
  simp only at hr1 hr2 hr3 hs1 hs2 hs3
  clear h hlow
  obtain ⟨V, hV, hX, hZ, hB, hsz⟩ := boxes2c w (.slice A0 nt ct) (.int .i64 r.size) (.slice R nr cr) (.slice S ns cs) (.int .u64 (r.on : Nat)) (.slice none 0 0) (.int .i64 0) (.slice none 0 0) (.slice none 0 0) (.int .u64 0) 33 33
  have E := Lib.hid hV
  have HM0 := H.out.below hB
  have htl := H.out.tlen
  simp only at htl
  have CV := Lib.hid (cloneV_any A0 nt ct r.tree V htl HM0.tree (by omega))
  have d0 := hX.b5.c0
  have X0 := Lib.hid hX
  have Z0 := Lib.hid hZ
  have B0 := Lib.hid hB
  have SZ := Lib.hid hsz
  clear hX hZ hB hsz hV HM0 htl
  unfold jv
  go_enter Tryz.func27, Tryz.ntmps27
  go_wp2_with fail
  rw [← E.out]
  clear E
  refine CV.out.mono ?_
  rintro e w1 ⟨A1, c1, rfl, hv1, hf1, hb1⟩
  have e0 := (X0.out.step hb1).b5.c0
  have f0 := (X0.out.step hb1).f0
  have hsz1 := SZ.out
  have hs1' := hb1.size
  obtain ⟨U1, hU1⟩ : ∃ U1, U1 = w1.setCell ⟨w.heap.size, 0, none⟩ (.slice A1 nt c1) := ⟨_, rfl⟩
  have EU1 := Lib.hid hU1
  have hX1 := (X0.out.step hb1).set0 (.slice A1 nt c1)
  have hZ1 := (Z0.out.step hb1).far (p := ⟨w.heap.size, 0, none⟩) (u := .slice A1 nt c1) (by simp)
  have hv1' := vrow_farj (X := w.heap.size) (j := 0) (u := .slice A1 nt c1) hv1 (fun _ ad hA => by have := hf1 ad hA; omega)
  have hB1 := (B0.out.trans (hb1.mono B0.out.size)).setCell (p := ⟨w.heap.size, 0, none⟩) (by simp) (.slice A1 nt c1)
  have hS1 : w.heap.size + 2 ≤ (w1.setCell ⟨w.heap.size, 0, none⟩ (.slice A1 nt c1)).heap.size := by simp [World.setCell]; omega
  rw [← hU1] at hX1 hZ1 hv1' hB1 hS1
  have X1 := Lib.hid hX1
  have Z1 := Lib.hid hZ1
  have V1 := Lib.hid hv1'
  have B1 := Lib.hid hB1
  have S1 := Lib.hid hS1
  have FT := Lib.hid (show From (w.heap.size + 2) A1 by rw [← hsz1]; exact hf1)
  have d2 := hX1.b5.c2
  have HM1 := H.out.below hB1
  obtain ⟨gs, hgs, hgi, _⟩ := H.out.rings
  have CG := Lib.hid (cloneG_any R nr cr gs U1 (hgs.below hB1) (by omega))
  have HGI := Lib.hid hgi
  have HGR := Lib.hid (show ∀ e ∈ gs, e.l ≠ [] → ∀ ad, e.A = some ad → ad.block ≠ w.heap.size from fun e he hne ad hA => by have := row_block (hgs.rows e he) hne hA; omega)
  clear hb1 hv1 hf1 hX1 hZ1 hv1' hB1 hS1 hU1 HM1 hgs hgi hs1' hsz1 X0 Z0 B0 CV d0
  go_wp2_with (rw [← EU1.out])
  refine CG.out.mono ?_
  rintro e w2 ⟨v2, rfl, hx2, hb2⟩
  obtain ⟨A2, c2, rfl⟩ := own_form hx2.own
  have e2 := (X1.out.step hb2).b5.c2
  have f2 := (X1.out.step hb2).f2
  obtain ⟨U2, hU2⟩ : ∃ U2, U2 = w2.setCell ⟨w.heap.size, 2, none⟩ (.slice A2 nr c2) := ⟨_, rfl⟩
  have EU2 := Lib.hid hU2
  have hgne : ∀ g, (Value.slice A2 nr c2).ownBlock = some g → g ≠ w.heap.size := fun g e => by have := (hx2.own.lt g e).1; have := S1.out; omega
  have hLG : LG w U1.heap.size nt c1 nr c2 ns cs A1 A2 S r 0 gs U2 := by
    rw [hU2]
    refine ⟨(X1.out.step hb2).set2 _, (Z1.out.step hb2).far (by simp), ?_, ⟨hx2.own.kept (grown_one w2 w.heap.size 2 (.slice A2 nr c2)) ?_, fun e he => row_farj (hx2.rows e he) ?_, hx2.apart⟩, HGI.out.symm, fun i e hi => absurd hi (by omega), (B1.out.trans (hb2.mono B1.out.size)).setCell (by simp) _, S1.out, by have := hb2.size; simp [World.setCell]; omega⟩
    · intro i z hi
      obtain ⟨b, off, e, hb1, hc, hd⟩ := V1.out i z hi
      have hne := FT.out _ e
      simp only at hne
      exact ⟨b, off, e, hb1, farcell (by omega) (keepcell hb2 hc), farcell (by omega) (keepcell hb2 hd)⟩
    · cases hob : (Value.slice A2 nr c2).ownBlock with
      | none => exact .inl rfl
      | some g => exact .inr (fun e => by injection e with e; exact hgne g hob e)
    · exact HGR.out e he
  have LG0 := Lib.hid hLG
  have d2 := hLG.box.b5.c2
  clear hb2 hx2 hU2 hLG X1 Z1 V1 B1 CG hgne
  go_wp2_with (rw [← EU2.out])
  clear EU1 EU2 e0 f0 e2 f2
  go_loopw [16] (fun i wr => ∃ k : Nat, k ≤ nr ∧ i = .int .i64 k ∧ ∃ es, Hid (LG w U1.heap.size nt c1 nr c2 ns cs A1 A2 S r k es wr)) (fun i _ => nr - (intOf i).toNat)
  case atStart => exact ⟨0, Nat.zero_le _, rfl, gs, LG0⟩
  case round =>
    clear d2 LG0
    obtain ⟨k, hk, rfl, es, HG⟩ := hrel
    have hlen := HG.out.own.len csG_len (by decide)
    by_cases hlt : k < nr
    · obtain ⟨g, cap, e1, hg1, hg2, hcap, hmax⟩ := HG.out.own.form (by omega)
      injection e1 with e11 _ e12
      subst e11 e12
      obtain ⟨e, he⟩ : ∃ e, es[k]? = some e := ⟨_, List.getElem?_eq_getElem (by omega)⟩
      have HE := Lib.hid he
      have hx := (own_slice csG_len (by decide) HG.out.own).1
      obtain ⟨b, off, e1, _, hc⟩ := hx.cell k e he
      injection e1 with e1
      injection e1 with e1 e2 e3
      subst e1 e2
      have c1' := hc 1 _ rfl
      have hrow := HG.out.own.rows e (List.mem_of_getElem? he)
      have hen : e.n ≤ 400 := by
        rw [← hrow.len]
        exact HL.out.ring (elG e) (by rw [← HG.out.is]; exact List.mem_map.2 ⟨e, List.mem_of_getElem? he, rfl⟩)
      have d2 := HG.out.box.b5.c2
      have i0 : (0 : Int) ≤ (k : Int) := by omega
      have i1 : (k : Int) < (nr : Int) := by omega
      have HR := Lib.hid hrow
      clear hc hx he hrow hr1 hs1 hlen
      have hfz : wr.frozen? ⟨g, k * 2 + 1, none⟩ = false := HG.out.own.own.frozenAt (k * 2 + 1)
      rw [Nat.zero_add] at c1'
      have hNX := fun w2 A3 n3 c3 => HG.out.next (w2 := w2) (A3 := A3) (n3 := n3) (c3 := c3) HE.out
      have NX := Lib.hid hNX
      have BX := Lib.hid HG.out.box
      have HU := Lib.hid HG.out.up
      clear hNX
      go_wp2_with fail
      refine wp_region_held_drew (S := fun w' => w'.cell? ⟨w.heap.size, 2, none⟩ = some (.slice (some ⟨g, 0, none⟩) nr c2)) (by kernel_rfl) d2 (fun hHeld => ?_)
      refine wpAnyH_takesJ (i := 0) (v := (.pointer (some ⟨w.heap.size, 2, none⟩))) (some 19) rfl rfl (by kernel_rfl) (by kernel_rfl) (by kernel_rfl) (fun _ _ _ h => h) (Or.inl ⟨by rfl, (by intro W9 hSw; (try dsimp only at hSw); go_simp; first | done | with_reducible rfl)⟩) (by assumption) ?_
      simp only [Act.put, List.setIfInBounds_toArray]; try simp only [List.set_cons_zero, List.set_cons_succ]
      refine wpAnyH_takesJ (i := 1) (v := (.slice (some ⟨g, 0, none⟩) nr c2)) (some 20) rfl rfl (by kernel_rfl) (by kernel_rfl) (by kernel_rfl) (fun _ _ _ h => h) (Or.inl ⟨by rfl, (by intro W9 hSw; (try dsimp only at hSw); go_simp; first | done | with_reducible rfl)⟩) (by assumption) ?_
      simp only [Act.put, List.setIfInBounds_toArray]; try simp only [List.set_cons_zero, List.set_cons_succ]
      refine wpAnyH_takesJ (i := 2) (v := (.int .i64 (k : Nat))) (some 21) rfl rfl (by kernel_rfl) (by kernel_rfl) (by kernel_rfl) (fun _ _ _ h => h) (Or.inl ⟨by rfl, (by intro W9 hSw; (try dsimp only at hSw); go_simp; first | done | with_reducible rfl)⟩) (by assumption) ?_
      simp only [Act.put, List.setIfInBounds_toArray]; try simp only [List.set_cons_zero, List.set_cons_succ]
      refine wpAnyH_takesJ (i := 3) (v := (.pointer (some ⟨w.heap.size, 2, none⟩))) (some 22) rfl rfl (by kernel_rfl) (by kernel_rfl) (by kernel_rfl) (fun _ _ _ h => h) (Or.inl ⟨by rfl, (by intro W9 hSw; (try dsimp only at hSw); go_simp; first | done | with_reducible rfl)⟩) (by assumption) ?_
      simp only [Act.put, List.setIfInBounds_toArray]; try simp only [List.set_cons_zero, List.set_cons_succ]
      refine wpAnyH_takesJ (i := 4) (v := (.slice (some ⟨g, 0, none⟩) nr c2)) (some 23) rfl rfl (by kernel_rfl) (by kernel_rfl) (by kernel_rfl) (fun _ _ _ h => h) (Or.inl ⟨by rfl, (by intro W9 hSw; (try dsimp only at hSw); go_simp; first | done | with_reducible rfl)⟩) (by assumption) ?_
      simp only [Act.put, List.setIfInBounds_toArray]; try simp only [List.set_cons_zero, List.set_cons_succ]
      refine wpAnyH_takesJ (i := 5) (v := (.int .i64 (k : Nat))) (some 24) rfl rfl (by kernel_rfl) (by kernel_rfl) (by kernel_rfl) (fun _ _ _ h => h) (Or.inl ⟨by rfl, (by intro W9 hSw; (try dsimp only at hSw); go_simp; first | done | with_reducible rfl)⟩) (by assumption) ?_
      simp only [Act.put, List.setIfInBounds_toArray]; try simp only [List.set_cons_zero, List.set_cons_succ]
      refine wpAnyH_takesJ (i := 6) (v := (.pointer (some ⟨g, k * 2, none⟩))) (some 25) rfl rfl (by kernel_rfl) (by kernel_rfl) (by kernel_rfl) (fun _ _ _ h => h) (Or.inl ⟨by rfl, (by intro W9 hSw; (try dsimp only at hSw); go_simp; first | done | with_reducible rfl)⟩) (by assumption) ?_
      simp only [Act.put, List.setIfInBounds_toArray]; try simp only [List.set_cons_zero, List.set_cons_succ]
      refine wpAnyH_takesJ (i := 7) (v := (.pointer (some ⟨g, k * 2 + 1, none⟩))) (some 26) rfl rfl (by kernel_rfl) (by kernel_rfl) (by kernel_rfl) (fun _ _ _ h => h) (Or.inl ⟨by rfl, (by intro W9 hSw; (try dsimp only at hSw); go_simp; first | done | with_reducible rfl)⟩) (by assumption) ?_
      simp only [Act.put, List.setIfInBounds_toArray]; try simp only [List.set_cons_zero, List.set_cons_succ]
      refine wpAnyH_ready (rs := [8]) (by kernel_rfl) (by simp) ?_
      refine AllReadyH.cons rfl (fun K hK => ?_) AllReadyH.nil
      go_simp
      refine hK.out _ _ (by exact d2) (fun hHeld => ?_)
      clear hK K
      try dsimp only
      refine wpAnyH_ready (rs := [9]) (by kernel_rfl) (by simp) ?_
      refine AllReadyH.cons rfl (fun K hK => ?_) AllReadyH.nil
      go_simp
      go_at_call 66
      refine (cloneI_any e.A e.n e.c e.l _ (by exact HR.out.drew) (by omega)).mono ?_
      rintro e' w3 ⟨v3, rfl, ho3, hb3⟩
      obtain ⟨A3, c3, rfl⟩ := own_form ho3
      have hb3' := below_of_drew hb3
      refine hK.out _ _ (by exact keepcell hb3' d2) (fun hHeld => ?_)
      have NX3 := Lib.hid (NX.out _ A3 e.n c3 hb3' ho3)
      have q1 := keepcell hb3' c1'
      have qf := keepfree hb3' c1' hfz
      clear hK K
      try dsimp only
      refine wpAnyH_takesJ (i := 10) (v := (.pointer (some ⟨g, k * 2, none⟩))) (some 29) rfl rfl (by kernel_rfl) (by kernel_rfl) (by kernel_rfl) (fun _ _ _ h => h) (Or.inl ⟨by rfl, (by intro W9 hSw; (try dsimp only at hSw); go_simp; first | done | with_reducible rfl)⟩) (by assumption) ?_
      simp only [Act.put, List.setIfInBounds_toArray]; try simp only [List.set_cons_zero, List.set_cons_succ]
      refine wpAnyH_takesJ (i := 11) (v := (.pointer (some ⟨g, k * 2 + 1, none⟩))) (some 30) rfl rfl (by kernel_rfl) (by kernel_rfl) (by kernel_rfl) (fun _ _ _ h => h) (Or.inl ⟨by rfl, (by intro W9 hSw; (try dsimp only at hSw); go_simp; first | done | with_reducible rfl)⟩) (by assumption) ?_
      simp only [Act.put, List.setIfInBounds_toArray]; try simp only [List.set_cons_zero, List.set_cons_succ]
      refine wpAnyH_ready (rs := [12]) (by kernel_rfl) (by simp) ?_
      refine AllReadyH.cons rfl (fun K hK => ?_) AllReadyH.nil
      go_simp
      have BX3 := (BX.out.step hb3').b5.c2
      have hgX : g ≠ w.heap.size := by have := S1.out; omega
      refine hK.out _ _ (by exact farcell hgX.symm BX3) (fun hHeld => ?_)
      clear hK K
      try dsimp only
      refine wpAnyH_done (by kernel_rfl) ?_ _
      obtain ⟨W4, hW4⟩ : ∃ W4, W4 = w3.setCell ⟨g, k * 2 + 1, none⟩ (.slice A3 e.n c3) := ⟨_, rfl⟩
      rw [← hW4] at NX3 ⊢
      clear hW4 ho3 hb3 hb3' q1 qf BX3 d2 c1'
      go_wp2_with fail
      go_roundw
      case rel => exact ⟨k + 1, by omega, by go_num, _, NX3⟩
      case measure => simp [intOf]; omega
    · obtain rfl : k = nr := by omega
      obtain ⟨wo, rfl⟩ : ∃ wo : World, wo = wr := ⟨_, rfl⟩
      have e3 := HG.out.box.b5.c3
      have f3 := HG.out.box.f3
      have hBo := HG.out.below
      obtain ⟨ks, hks, hki, _⟩ := H.out.rows
      have CL := Lib.hid (cloneL_any S ns cs ks wo (hks.below hBo) (by omega))
      have HKI := Lib.hid hki
      have HKR := Lib.hid (show ∀ e ∈ ks, e.l ≠ [] → ∀ ad, e.A = some ad → ad.block < w.heap.size from fun e he hne ad hA => row_block (hks.rows e he) hne hA)
      clear hks hki hBo
      go_wp2_with fail
      refine CL.out.mono ?_
      rintro e w2 ⟨v2, rfl, hx2, hb2⟩
      obtain ⟨A4, c4, rfl⟩ := own_form hx2.own
      have e3 := (HG.out.box.step hb2).b5.c3
      have f3 := (HG.out.box.step hb2).f3
      obtain ⟨U3, hU3⟩ : ∃ U3, U3 = w2.setCell ⟨w.heap.size, 3, none⟩ (.slice A4 ns c4) := ⟨_, rfl⟩
      have EU3 := Lib.hid hU3
      have hgo := grown_one w2 w.heap.size 3 (.slice A4 ns c4)
      have hup := HG.out.up
      have hlow := HG.out.low
      have hsz3 : U3.heap.size = w2.heap.size := by rw [hU3]; simp [World.setCell]
      have hle := HG.out.own.len csG_len (by decide)
      have hLL : LL w U1.heap.size wo.heap.size w2.heap.size nt c1 k c2 ns c4 A1 A2 A4 r 0 es ks U3 := by
        rw [hU3]
        refine ⟨(HG.out.box.step hb2).set3 _, (HG.out.put.step hb2).far (by simp), ?_, ⟨(HG.out.own.step hb2).own.kept hgo ?_, fun e he => row_farj ((HG.out.own.step hb2).rows e he) (fun hne ad hA => ?_), HG.out.own.apart⟩, HG.out.is, fun e he => ?_, fun g hg => (HG.out.own.own.lt g hg).2, fun e he hne ad hA => row_block (HG.out.own.rows e he) hne hA,
          ⟨hx2.own.kept hgo ?_, fun e he => row_farj (hx2.rows e he) (fun hne ad hA => by have := HKR.out e he hne ad hA; omega), hx2.apart⟩, HKI.out.symm, fun g hg => (hx2.own.lt g hg).2, fun i e hi => absurd hi (by omega), fun i j e f hi => absurd hi (by omega), (HG.out.below.trans (hb2.mono HG.out.below.size)).setCell (by simp) _, HG.out.low, hup, hb2.size, by simp [World.setCell]⟩
        · intro i z hi
          obtain ⟨b, off, e, hb1, hc, hd⟩ := HG.out.tree i z hi
          have hne := FT.out _ e
          simp only at hne
          exact ⟨b, off, e, hb1, farcell (by omega) (keepcell hb2 hc), farcell (by omega) (keepcell hb2 hd)⟩
        · cases hob : (Value.slice A2 k c2).ownBlock with
          | none => exact .inl rfl
          | some g => exact .inr (fun e => by injection e with e; have := (HG.out.own.own.lt g hob).1; omega)
        · obtain ⟨i, hi⟩ := List.mem_iff_getElem?.1 he
          have := HG.out.mine i e (by rw [← hle]; exact (List.getElem?_eq_some_iff.1 hi).1) hi ad hA
          omega
        · obtain ⟨i, hi⟩ := List.mem_iff_getElem?.1 he
          exact HG.out.mine i e (by rw [← hle]; exact (List.getElem?_eq_some_iff.1 hi).1) hi
        · cases hob : (Value.slice A4 ns c4).ownBlock with
          | none => exact .inl rfl
          | some g => exact .inr (fun e => by injection e with e; have := (hx2.own.lt g hob).1; omega)
      have LL0 := Lib.hid hLL
      have d3 := hLL.box.b5.c3
      clear hb2 hx2 hU3 hLL HG CL hgo hup hlow hsz3 hle
      go_wp2_with (rw [← EU3.out])
      clear EU3 e3 f3 
      go_loopw [39] (fun i wr => ∃ j : Nat, j ≤ ns ∧ i = .int .i64 j ∧ ∃ ls, Hid (LL w U1.heap.size wo.heap.size w2.heap.size nt c1 k c2 ns c4 A1 A2 A4 r j es ls wr)) (fun i _ => ns - (intOf i).toNat)
      case atStart => exact ⟨0, Nat.zero_le _, rfl, ks, LL0⟩
      case round =>
        clear d3 LL0
        obtain ⟨j, hj, rfl, ls, HG⟩ := hrel
        have hlen := HG.out.rows.len csL_len (by decide)
        by_cases hlj : j < ns
        · obtain ⟨g, cap, e1, hg1, hg2, hcap, hmax⟩ := HG.out.rows.form (by omega)
          injection e1 with e11 _ e12
          subst e11 e12
          obtain ⟨e, he⟩ : ∃ e, ls[j]? = some e := ⟨_, List.getElem?_eq_getElem (by omega)⟩
          have HE := Lib.hid he
          have hx := (own_slice csL_len (by decide) HG.out.rows).1
          obtain ⟨b, off, e1, _, hc⟩ := hx.cell j e he
          injection e1 with e1
          injection e1 with e1 e2 e3
          subst e1 e2
          have c1' := hc 0 _ rfl
          rw [Nat.zero_add, Nat.mul_one, Nat.add_zero] at c1'
          have hrow := HG.out.rows.rows e (List.mem_of_getElem? he)
          have hen : e.n ≤ 400 := by
            rw [← hrow.len]
            exact HL.out.row (elL e) (by rw [← HG.out.isl]; exact List.mem_map.2 ⟨e, List.mem_of_getElem? he, rfl⟩)
          have d3 := HG.out.box.b5.c3
          have i0 : (0 : Int) ≤ (j : Int) := by omega
          have i1 : (j : Int) < (ns : Int) := by omega
          have HR := Lib.hid hrow
          clear hc hx he hrow hr1 hs1 hlen
          have hfz : wr.frozen? ⟨g, j, none⟩ = false := HG.out.rows.own.frozenAt j
          have hNX := fun w2 A3 n3 c3 => HG.out.next (w2 := w2) (A3 := A3) (n3 := n3) (c3 := c3) HE.out
          have NX := Lib.hid hNX
          have BX := Lib.hid HG.out.box
          have hgX : g ≠ w.heap.size := by have := S1.out; have := HG.out.low; have := HG.out.o12; omega
          clear hNX
          go_wp2_with fail
          refine wp_region_held_drew (S := fun w' => w'.cell? ⟨w.heap.size, 3, none⟩ = some (.slice (some ⟨g, 0, none⟩) ns c4)) (by kernel_rfl) d3 (fun hHeld => ?_)
          refine wpAnyH_takesJ (i := 0) (v := (.pointer (some ⟨w.heap.size, 3, none⟩))) (some 42) rfl rfl (by kernel_rfl) (by kernel_rfl) (by kernel_rfl) (fun _ _ _ h => h) (Or.inl ⟨by rfl, (by intro W9 hSw; (try dsimp only at hSw); go_simp; first | done | with_reducible rfl)⟩) (by assumption) ?_
          simp only [Act.put, List.setIfInBounds_toArray]; try simp only [List.set_cons_zero, List.set_cons_succ]
          refine wpAnyH_takesJ (i := 1) (v := (.slice (some ⟨g, 0, none⟩) ns c4)) (some 43) rfl rfl (by kernel_rfl) (by kernel_rfl) (by kernel_rfl) (fun _ _ _ h => h) (Or.inl ⟨by rfl, (by intro W9 hSw; (try dsimp only at hSw); go_simp; first | done | with_reducible rfl)⟩) (by assumption) ?_
          simp only [Act.put, List.setIfInBounds_toArray]; try simp only [List.set_cons_zero, List.set_cons_succ]
          refine wpAnyH_takesJ (i := 2) (v := (.int .i64 (j : Nat))) (some 44) rfl rfl (by kernel_rfl) (by kernel_rfl) (by kernel_rfl) (fun _ _ _ h => h) (Or.inl ⟨by rfl, (by intro W9 hSw; (try dsimp only at hSw); go_simp; first | done | with_reducible rfl)⟩) (by assumption) ?_
          simp only [Act.put, List.setIfInBounds_toArray]; try simp only [List.set_cons_zero, List.set_cons_succ]
          refine wpAnyH_takesJ (i := 3) (v := (.pointer (some ⟨w.heap.size, 3, none⟩))) (some 45) rfl rfl (by kernel_rfl) (by kernel_rfl) (by kernel_rfl) (fun _ _ _ h => h) (Or.inl ⟨by rfl, (by intro W9 hSw; (try dsimp only at hSw); go_simp; first | done | with_reducible rfl)⟩) (by assumption) ?_
          simp only [Act.put, List.setIfInBounds_toArray]; try simp only [List.set_cons_zero, List.set_cons_succ]
          refine wpAnyH_takesJ (i := 4) (v := (.slice (some ⟨g, 0, none⟩) ns c4)) (some 46) rfl rfl (by kernel_rfl) (by kernel_rfl) (by kernel_rfl) (fun _ _ _ h => h) (Or.inl ⟨by rfl, (by intro W9 hSw; (try dsimp only at hSw); go_simp; first | done | with_reducible rfl)⟩) (by assumption) ?_
          simp only [Act.put, List.setIfInBounds_toArray]; try simp only [List.set_cons_zero, List.set_cons_succ]
          refine wpAnyH_takesJ (i := 5) (v := (.int .i64 (j : Nat))) (some 47) rfl rfl (by kernel_rfl) (by kernel_rfl) (by kernel_rfl) (fun _ _ _ h => h) (Or.inl ⟨by rfl, (by intro W9 hSw; (try dsimp only at hSw); go_simp; first | done | with_reducible rfl)⟩) (by assumption) ?_
          simp only [Act.put, List.setIfInBounds_toArray]; try simp only [List.set_cons_zero, List.set_cons_succ]
          refine wpAnyH_takesJ (i := 6) (v := (.pointer (some ⟨g, j, none⟩))) (some 48) rfl rfl (by kernel_rfl) (by kernel_rfl) (by kernel_rfl) (fun _ _ _ h => h) (Or.inl ⟨by rfl, (by intro W9 hSw; (try dsimp only at hSw); go_simp; first | done | with_reducible rfl)⟩) (by assumption) ?_
          simp only [Act.put, List.setIfInBounds_toArray]; try simp only [List.set_cons_zero, List.set_cons_succ]
          refine wpAnyH_ready (rs := [7]) (by kernel_rfl) (by simp) ?_
          refine AllReadyH.cons rfl (fun K hK => ?_) AllReadyH.nil
          go_simp
          refine hK.out _ _ (by exact d3) (fun hHeld => ?_)
          clear hK K
          try dsimp only
          refine wpAnyH_ready (rs := [8]) (by kernel_rfl) (by simp) ?_
          refine AllReadyH.cons rfl (fun K hK => ?_) AllReadyH.nil
          go_simp
          go_at_call 66
          refine (cloneI_any e.A e.n e.c e.l _ (by exact HR.out.drew) (by omega)).mono ?_
          rintro e' w3 ⟨v3, rfl, ho3, hb3⟩
          obtain ⟨A3, c3, rfl⟩ := own_form ho3
          have hb3' := below_of_drew hb3
          refine hK.out _ _ (by exact keepcell hb3' d3) (fun hHeld => ?_)
          have NX3 := Lib.hid (NX.out _ A3 e.n c3 hb3' ho3)
          have q1 := keepcell hb3' c1'
          have qf := keepfree hb3' c1' hfz
          clear hK K
          try dsimp only
          refine wpAnyH_takesJ (i := 9) (v := (.pointer (some ⟨g, j, none⟩))) (some 51) rfl rfl (by kernel_rfl) (by kernel_rfl) (by kernel_rfl) (fun _ _ _ h => h) (Or.inl ⟨by rfl, (by intro W9 hSw; (try dsimp only at hSw); go_simp; first | done | with_reducible rfl)⟩) (by assumption) ?_
          simp only [Act.put, List.setIfInBounds_toArray]; try simp only [List.set_cons_zero, List.set_cons_succ]
          refine wpAnyH_ready (rs := [10]) (by kernel_rfl) (by simp) ?_
          refine AllReadyH.cons rfl (fun K hK => ?_) AllReadyH.nil
          go_simp
          have BX3 := (BX.out.step hb3').b5.c3
          refine hK.out _ _ (by exact farcell hgX.symm BX3) (fun hHeld => ?_)
          clear hK K
          try dsimp only
          refine wpAnyH_done (by kernel_rfl) ?_ _
          obtain ⟨W4, hW4⟩ : ∃ W4, W4 = w3.setCell ⟨g, j, none⟩ (.slice A3 e.n c3) := ⟨_, rfl⟩
          rw [← hW4] at NX3 ⊢
          clear hW4 ho3 hb3 hb3' q1 qf BX3 d3 c1'
          go_wp2_with fail
          go_roundw
          case rel => exact ⟨j + 1, by omega, by go_num, _, NX3⟩
          case measure => simp [intOf]; omega
        · obtain rfl : j = ns := by omega
          have T5 := Lib.hid (HG.out.told FT.out H.out (.slice A1 nt c1) (.int .i64 r.size) (.slice A2 k c2) (.slice A4 j c4) (.int .u64 (r.on : Nat)))
          have B5h := Lib.hid (below_put (b := w.heap.size + 1) HG.out.below (by omega) (.slice A1 nt c1) (.int .i64 r.size) (.slice A2 k c2) (.slice A4 j c4) (.int .u64 (r.on : Nat)))
          have d0 := HG.out.box.b5.c0
          have d1 := HG.out.box.b5.c1
          have d2 := HG.out.box.b5.c2
          have d3 := HG.out.box.b5.c3
          have d4 := HG.out.box.b5.c4
          have y0 := HG.out.put.b5.c0
          have y1 := HG.out.put.b5.c1
          have y2 := HG.out.put.b5.c2
          have y3 := HG.out.put.b5.c3
          have y4 := HG.out.put.b5.c4
          have g0 := HG.out.put.f0
          have g1 := HG.out.put.f1
          have g2 := HG.out.put.f2
          have g3 := HG.out.put.f3
          have g4 := HG.out.put.f4
          obtain ⟨k0, k1, k2, k3, k4⟩ := put5_told HG.out.put (.slice A1 nt c1) (.int .i64 r.size) (.slice A2 k c2) (.slice A4 j c4) (.int .u64 (r.on : Nat))
          have HF := Lib.hid (show TellA r w (.returned (jv ⟨A1, nt, c1, A2, k, c2, A4, j, c4⟩ r)) (put5 wr (w.heap.size + 1) (.slice A1 nt c1) (.int .i64 r.size) (.slice A2 k c2) (.slice A4 j c4) (.int .u64 (r.on : Nat))) from ⟨_, _, _, _, _, _, rfl, T5.out, B5h.out⟩)
          unfold put5 at k0 k1 k2 k3 k4
          clear T5 B5h HG hlen hr1 hs1
          go_wp2_with fail
          refine bodyPost_ret ?_ rfl HF.out
          simp [results, Tryz.results27, go_sem, k0, k1, k2, k3, k4, jv]
end Go.Proofs.YtdohnhdjlhaaaaaGreatDoor

