/- The document's mailbox out of the program's ('real'), by its contract. -/
import Derived.Test.YtjpnfjiccckaiaaOFew
namespace Go.Proofs.Ytjpnfjiccckaiaa
open Go.RowKit
open Mp (Bo)
set_option linter.unusedVariables false

set_option maxHeartbeats 3200000 in
theorem real_any (b : Bo) (A B C : Option Addr) (n1 n2 n3 c1 c2 c3 : Nat) (w : World) (h : Tri w A n1 c1 B n2 c2 C n3 c3 b) (h2 : n2 ≤ 200) :
    Calls Try.prog 18 #[.agg #[.int .i64 b.room, .slice A n1 c1, .slice B n2 c2, .slice C n3 c3]] w fun e w' => ∃ bv, e = .returned bv ∧ TellB w 0 b bv w' := by
  obtain ⟨room, msgs, send, recv⟩ := b
  obtain ⟨W0, hW0, hX0⟩ := A4.start w (.int .i64 room) (.slice A n1 c1) (.slice B n2 c2) (.slice C n3 c3) (.int .i64 0) (.slice none 0 0) (.slice none 0 0) (.slice none 0 0) 31 26
  have hl2 : send.length = n2 := h.s.len
  have hcap2 := h.s.cap
  have hmost2 := h.s.most
  have hs0 : W0.heap.size = w.heap.size + 2 := by rw [hW0]; simp
  obtain ⟨W1, hW1⟩ : ∃ W1, W1 = W0.alloc (.cells #[.int .i64 room, .slice A n1 c1, .slice none 0 0, .slice C n3 c3] 26) := ⟨_, rfl⟩
  have HX := Lib.hid (show A4 w W1 _ _ _ _ _ _ _ _ by rw [hW1]; exact hX0.step (below_new _ _))
  have HQ := Lib.hid (show Q4 W1 (w.heap.size + 2) (.int .i64 room) (.slice A n1 c1) (.slice none 0 0) (.slice C n3 c3) by rw [hW1, ← hs0]; exact Q4.new _ _ _ _ _ _)
  have HS0 := Lib.hid (show w.heap.size + 3 ≤ W1.heap.size by rw [hW1]; simp [hs0])
  have HO0 := Lib.hid (World.ownsRow_nil W1 (w.heap.size + 3) 51 2)
  have H := Lib.hid h
  have E1 := Lib.hid (show W1 = ((w.alloc (.cells #[.int .i64 room, .slice A n1 c1, .slice B n2 c2, .slice C n3 c3] 31)).alloc (.cells #[.int .i64 0, .slice none 0 0, .slice none 0 0, .slice none 0 0] 26)).alloc (.cells #[.int .i64 room, .slice A n1 c1, .slice none 0 0, .slice C n3 c3] 26) by rw [hW1, hW0])
  have h2 := Lib.hid h2
  clear hX0 hW0 hW1 hs0 h
  go_enter Try.func18, Try.ntmps18
  go_wp2_with fail
  rw [← E1.out]
  clear E1
  go_loopw [4] (fun i wr => ∃ (k : Nat) (A5 : Option Addr) (d5 : Nat), k ≤ n2 ∧ i = .int .i64 k ∧ Hid (Q4 wr (w.heap.size + 2) (.int .i64 room) (.slice A n1 c1) (.slice A5 k d5) (.slice C n3 c3)) ∧ Hid (wr.ownsRow (w.heap.size + 3) 51 2 (.slice A5 k d5) k (vcells (send.take k))) ∧ Hid (A4 w wr (.int .i64 room) (.slice A n1 c1) (.slice B n2 c2) (.slice C n3 c3) (.int .i64 0) (.slice none 0 0) (.slice none 0 0) (.slice none 0 0)) ∧ Hid (w.heap.size + 3 ≤ wr.heap.size)) (fun i _ => n2 - (intOf i).toNat)
  case atStart => exact ⟨0, none, 0, Nat.zero_le _, rfl, HQ, HO0, HX, HS0⟩
  case round =>
    clear HQ HX HS0 HO0
    obtain ⟨k, A5, d5, hk, rfl, HQ, HO, HX, HS0⟩ := hrel
    have p0 := HX.out.p.c0
    have p1 := HX.out.p.c1
    have p2 := HX.out.p.c2
    have p3 := HX.out.p.c3
    by_cases hlt : k < n2
    · obtain ⟨z, hzk⟩ : ∃ z, send[k]? = some z := ⟨_, List.getElem?_eq_getElem (by omega)⟩
      obtain ⟨bs, off, rfl, hbs, hcs⟩ := H.out.s.cells (by omega)
      obtain ⟨hck, hdk⟩ := hcs k z hzk
      have HCK := Lib.hid hck
      have HDK := Lib.hid hdk
      have hck2 := keepcell HX.out.below hck
      have hdk2 := keepcell HX.out.below hdk
      have k0 : (0 : Int) ≤ (k : Int) := by omega
      have k1 : (k : Int) < (n2 : Int) := by omega
      have HT := Lib.hid (show send.take (k + 1) = send.take k ++ [z] by rw [List.take_add_one, hzk]; rfl)
      clear hcs hzk hck hdk
      go_wp2_with fail
      refine wp_region_held_drew (S := fun W => Q4 W w.heap.size (.int .i64 room) (.slice A n1 c1) (.slice (some ⟨bs, off, none⟩) n2 c2) (.slice C n3 c3) ∧ W.cell? ⟨bs, off + k * 2, none⟩ = some (.int .i64 z.1) ∧ W.cell? ⟨bs, off + k * 2 + 1, none⟩ = some (.int .i64 z.2)) (by kernel_rfl) ⟨HX.out.p.drew, hck2, hdk2⟩ (fun hHeld => ?_)
      clear hck2 hdk2 p0 p1 p2 p3
      have XV := Lib.hid HX.out.drew
      have QV := Lib.hid HQ.out.drew
      have OV := Lib.hid HO.out.drew
      have SV := Lib.hid (show w.heap.size + 3 ≤ wr.drew.heap.size from HS0.out)
      clear HX HQ HO HS0
      generalize wr.drew = V at *
      refine wpAnyH_takes (i := 0) (v := (.pointer (some ⟨w.heap.size + 2, 2, none⟩))) (some 19) rfl rfl (by kernel_rfl) (by kernel_rfl) (by kernel_rfl) (fun _ _ _ h => h) (Or.inl ⟨by rfl, (by intro W9 hSw; have s0 := hSw.1.c0; have s1 := hSw.1.c1; have s2 := hSw.1.c2; have s3 := hSw.1.c3; have s4 := hSw.2.1; have s5 := hSw.2.2; clear hSw; go_simp; first | done | with_reducible rfl)⟩) (by assumption) ?_
      simp only [Act.put, List.setIfInBounds_toArray, List.set_cons_zero, List.set_cons_succ]
      refine wpAnyH_takes (i := 2) (v := (.pointer (some ⟨w.heap.size, 2, none⟩))) (some 21) rfl rfl (by kernel_rfl) (by kernel_rfl) (by kernel_rfl) (fun _ _ _ h => h) (Or.inl ⟨by rfl, (by intro W9 hSw; have s0 := hSw.1.c0; have s1 := hSw.1.c1; have s2 := hSw.1.c2; have s3 := hSw.1.c3; have s4 := hSw.2.1; have s5 := hSw.2.2; clear hSw; go_simp; first | done | with_reducible rfl)⟩) (by assumption) ?_
      simp only [Act.put, List.setIfInBounds_toArray, List.set_cons_zero, List.set_cons_succ]
      refine wpAnyH_takes (i := 3) (v := (.slice (some ⟨bs, off, none⟩) n2 c2)) (some 22) rfl rfl (by kernel_rfl) (by kernel_rfl) (by kernel_rfl) (fun _ _ _ h => h) (Or.inl ⟨by rfl, (by intro W9 hSw; have s0 := hSw.1.c0; have s1 := hSw.1.c1; have s2 := hSw.1.c2; have s3 := hSw.1.c3; have s4 := hSw.2.1; have s5 := hSw.2.2; clear hSw; go_simp; first | done | with_reducible rfl)⟩) (by assumption) ?_
      simp only [Act.put, List.setIfInBounds_toArray, List.set_cons_zero, List.set_cons_succ]
      refine wpAnyH_takes (i := 4) (v := (.int .i64 k)) (some 23) rfl rfl (by kernel_rfl) (by kernel_rfl) (by kernel_rfl) (fun _ _ _ h => h) (Or.inl ⟨by rfl, (by intro W9 hSw; have s0 := hSw.1.c0; have s1 := hSw.1.c1; have s2 := hSw.1.c2; have s3 := hSw.1.c3; have s4 := hSw.2.1; have s5 := hSw.2.2; clear hSw; go_simp; first | done | with_reducible rfl)⟩) (by assumption) ?_
      simp only [Act.put, List.setIfInBounds_toArray, List.set_cons_zero, List.set_cons_succ]
      refine wpAnyH_takes (i := 5) (v := (.pointer (some ⟨bs, off + k * 2, none⟩))) (some 24) rfl rfl (by kernel_rfl) (by kernel_rfl) (by kernel_rfl) (fun _ _ _ h => h) (Or.inl ⟨by rfl, (by intro W9 hSw; have s0 := hSw.1.c0; have s1 := hSw.1.c1; have s2 := hSw.1.c2; have s3 := hSw.1.c3; have s4 := hSw.2.1; have s5 := hSw.2.2; clear hSw; go_simp; first | done | with_reducible rfl)⟩) (by assumption) ?_
      simp only [Act.put, List.setIfInBounds_toArray, List.set_cons_zero, List.set_cons_succ]
      refine wpAnyH_takes (i := 6) (v := (.pointer (some ⟨bs, off + k * 2, none⟩))) (some 25) rfl rfl (by kernel_rfl) (by kernel_rfl) (by kernel_rfl) (fun _ _ _ h => h) (Or.inl ⟨by rfl, (by intro W9 hSw; have s0 := hSw.1.c0; have s1 := hSw.1.c1; have s2 := hSw.1.c2; have s3 := hSw.1.c3; have s4 := hSw.2.1; have s5 := hSw.2.2; clear hSw; go_simp; first | done | with_reducible rfl)⟩) (by assumption) ?_
      simp only [Act.put, List.setIfInBounds_toArray, List.set_cons_zero, List.set_cons_succ]
      refine wpAnyH_takes (i := 7) (v := (.int .i64 z.1)) (some 26) rfl rfl (by kernel_rfl) (by kernel_rfl) (by kernel_rfl) (fun _ _ _ h => h) (Or.inl ⟨by rfl, (by intro W9 hSw; have s0 := hSw.1.c0; have s1 := hSw.1.c1; have s2 := hSw.1.c2; have s3 := hSw.1.c3; have s4 := hSw.2.1; have s5 := hSw.2.2; clear hSw; go_simp; first | done | with_reducible rfl)⟩) (by assumption) ?_
      simp only [Act.put, List.setIfInBounds_toArray, List.set_cons_zero, List.set_cons_succ]
      refine wpAnyH_takes (i := 8) (v := (.pointer (some ⟨w.heap.size, 2, none⟩))) (some 27) rfl rfl (by kernel_rfl) (by kernel_rfl) (by kernel_rfl) (fun _ _ _ h => h) (Or.inl ⟨by rfl, (by intro W9 hSw; have s0 := hSw.1.c0; have s1 := hSw.1.c1; have s2 := hSw.1.c2; have s3 := hSw.1.c3; have s4 := hSw.2.1; have s5 := hSw.2.2; clear hSw; go_simp; first | done | with_reducible rfl)⟩) (by assumption) ?_
      simp only [Act.put, List.setIfInBounds_toArray, List.set_cons_zero, List.set_cons_succ]
      refine wpAnyH_takes (i := 9) (v := (.slice (some ⟨bs, off, none⟩) n2 c2)) (some 28) rfl rfl (by kernel_rfl) (by kernel_rfl) (by kernel_rfl) (fun _ _ _ h => h) (Or.inl ⟨by rfl, (by intro W9 hSw; have s0 := hSw.1.c0; have s1 := hSw.1.c1; have s2 := hSw.1.c2; have s3 := hSw.1.c3; have s4 := hSw.2.1; have s5 := hSw.2.2; clear hSw; go_simp; first | done | with_reducible rfl)⟩) (by assumption) ?_
      simp only [Act.put, List.setIfInBounds_toArray, List.set_cons_zero, List.set_cons_succ]
      refine wpAnyH_takes (i := 10) (v := (.int .i64 k)) (some 29) rfl rfl (by kernel_rfl) (by kernel_rfl) (by kernel_rfl) (fun _ _ _ h => h) (Or.inl ⟨by rfl, (by intro W9 hSw; have s0 := hSw.1.c0; have s1 := hSw.1.c1; have s2 := hSw.1.c2; have s3 := hSw.1.c3; have s4 := hSw.2.1; have s5 := hSw.2.2; clear hSw; go_simp; first | done | with_reducible rfl)⟩) (by assumption) ?_
      simp only [Act.put, List.setIfInBounds_toArray, List.set_cons_zero, List.set_cons_succ]
      refine wpAnyH_takes (i := 11) (v := (.pointer (some ⟨bs, off + k * 2, none⟩))) (some 30) rfl rfl (by kernel_rfl) (by kernel_rfl) (by kernel_rfl) (fun _ _ _ h => h) (Or.inl ⟨by rfl, (by intro W9 hSw; have s0 := hSw.1.c0; have s1 := hSw.1.c1; have s2 := hSw.1.c2; have s3 := hSw.1.c3; have s4 := hSw.2.1; have s5 := hSw.2.2; clear hSw; go_simp; first | done | with_reducible rfl)⟩) (by assumption) ?_
      simp only [Act.put, List.setIfInBounds_toArray, List.set_cons_zero, List.set_cons_succ]
      refine wpAnyH_takes (i := 12) (v := (.pointer (some ⟨bs, off + k * 2 + 1, none⟩))) (some 31) rfl rfl (by kernel_rfl) (by kernel_rfl) (by kernel_rfl) (fun _ _ _ h => h) (Or.inl ⟨by rfl, (by intro W9 hSw; have s0 := hSw.1.c0; have s1 := hSw.1.c1; have s2 := hSw.1.c2; have s3 := hSw.1.c3; have s4 := hSw.2.1; have s5 := hSw.2.2; clear hSw; go_simp; first | done | with_reducible rfl)⟩) (by assumption) ?_
      simp only [Act.put, List.setIfInBounds_toArray, List.set_cons_zero, List.set_cons_succ]
      refine wpAnyH_takes (i := 13) (v := (.int .i64 z.2)) (some 32) rfl rfl (by kernel_rfl) (by kernel_rfl) (by kernel_rfl) (fun _ _ _ h => h) (Or.inl ⟨by rfl, (by intro W9 hSw; have s0 := hSw.1.c0; have s1 := hSw.1.c1; have s2 := hSw.1.c2; have s3 := hSw.1.c3; have s4 := hSw.2.1; have s5 := hSw.2.2; clear hSw; go_simp; first | done | with_reducible rfl)⟩) (by assumption) ?_
      simp only [Act.put, List.setIfInBounds_toArray, List.set_cons_zero, List.set_cons_succ]
      refine wpAnyH_takes (i := 14) (v := (.agg #[.int .i64 z.1, .int .i64 z.2])) (some 33) rfl rfl (by kernel_rfl) (by kernel_rfl) (by kernel_rfl) (fun _ _ _ h => h) (Or.inl ⟨by rfl, (by intro W9 hSw; have s0 := hSw.1.c0; have s1 := hSw.1.c1; have s2 := hSw.1.c2; have s3 := hSw.1.c3; have s4 := hSw.2.1; have s5 := hSw.2.2; clear hSw; go_simp; first | done | with_reducible rfl)⟩) (by assumption) ?_
      simp only [Act.put, List.setIfInBounds_toArray, List.set_cons_zero, List.set_cons_succ]
      refine wpAnyH_ready (rs := [1, 15]) (by kernel_rfl) (by simp) ?_
      refine AllReadyH.cons rfl (fun K hK => ?_) (AllReadyH.cons rfl (fun K hK => ?_) AllReadyH.nil)
      · skip
        have x2 := QV.out.c2
        go_simp
        refine hK.out _ _ hHeld (fun hHeld => ?_)
        clear hK K x2
        try dsimp only
        refine wpAnyH_ready (rs := [15]) (by kernel_rfl) (by simp) ?_
        refine AllReadyH.cons rfl (fun K hK => ?_) AllReadyH.nil
        go_simp
        have hn5 := below_new V (.cells #[.int .i64 z.1, .int .i64 z.2] 51)
        have hY5 := pr_at_rmail V z.1 z.2 _ rfl
        refine hK.out _ _ ⟨hHeld.1.step hn5, keepcell hn5 hHeld.2.1, keepcell hn5 hHeld.2.2⟩ (fun hHeld => ?_)
        clear hK K
        try dsimp only
        replace XV := Lib.hid (XV.out.step hn5)
        replace QV := Lib.hid (QV.out.step hn5)
        replace OV := Lib.hid (own_below OV.out hn5)
        have SV2 := Lib.hid (Nat.le_trans SV.out hn5.size)
        have Y6 := Lib.hid hY5
        clear hn5 hY5
        generalize V.alloc (.cells #[.int .i64 z.1, .int .i64 z.2] 51) = V6 at *
        refine wpAnyH_ready (rs := [16]) (by kernel_rfl) (by simp) ?_
        refine AllReadyH.cons rfl (fun K hK => ?_) AllReadyH.nil
        refine step_append_rmail (by rfl) (.tmp 20) (.tmp 34) (by rfl) (w.heap.size + 3) (.slice A5 k d5) k (send.take k) (by rfl) OV.out _ 1 1 [(z.1, z.2)] (by rfl) Y6.out (by have := h2.out; omega) SV2.out ?_
        intro v7 V7 ho7 hg7
        obtain ⟨A7, d7, rfl⟩ := own_form ho7
        have hlt7 : ∀ j, (Value.slice A5 k d5).ownBlock = some j → w.heap.size + 3 ≤ j := fun j e => (OV.out.lt j e).1
        have hX7 := XV.out.grown hg7 (fun j e => by have := hlt7 j e; omega)
        have hQ7 := QV.out.grown hg7 (fun j e => by have := hlt7 j e; omega)
        refine hK.out _ _ ⟨hX7.p, keepcell hX7.below HCK.out, keepcell hX7.below HDK.out⟩ (fun hHeld => ?_)
        clear hK K
        try dsimp only
        have y0 := hQ7.c0
        have y1 := hQ7.c1
        have y2 := hQ7.c2
        have y3 := hQ7.c3
        have y4 := hQ7.f2
        have O7 := Lib.hid (show V7.ownsRow (w.heap.size + 3) 51 2 (.slice A7 (k + 1) d7) (k + 1) (vcells (send.take (k + 1))) by rw [HT.out]; exact ho7)
        have HQ9 := Lib.hid (hQ7.set2 (.slice A7 (k + 1) d7))
        have HO9 := Lib.hid (ownsRow_setCell_below (a := ⟨w.heap.size + 2, 2, none⟩) O7.out (Nat.lt_succ_self (w.heap.size + 2)) (.slice A7 (k + 1) d7))
        have hX9 := hX7.setX (X := w.heap.size + 2) (Nat.le_refl _) 2 (.slice A7 (k + 1) d7)
        have HX9 := Lib.hid hX9
        have HS9 := Lib.hid (show w.heap.size + 3 ≤ (V7.setCell ⟨w.heap.size + 2, 2, none⟩ (.slice A7 (k + 1) d7)).heap.size by have h8 := hg7.size; have h9 := SV2.out; simp [World.setCell]; omega)
        clear ho7 hg7 hlt7 hX7 OV SV SV2 QV XV Y6 O7
        refine wpAnyH_takes (i := 17) (v := (.pointer (some ⟨w.heap.size + 2, 2, none⟩))) (some 36) rfl rfl (by kernel_rfl) (by kernel_rfl) (by kernel_rfl) (fun _ _ _ h => h) (Or.inl ⟨by rfl, (by intro W9 hSw; have s0 := hSw.1.c0; have s1 := hSw.1.c1; have s2 := hSw.1.c2; have s3 := hSw.1.c3; have s4 := hSw.2.1; have s5 := hSw.2.2; clear hSw; go_simp; first | done | with_reducible rfl)⟩) (by assumption) ?_
        simp only [Act.put, List.setIfInBounds_toArray]
        refine wpAnyH_ready (rs := [18]) (by kernel_rfl) (by simp) ?_
        refine AllReadyH.cons rfl (fun K hK => ?_) AllReadyH.nil
        go_simp
        refine hK.out _ _ ⟨hX9.p, keepcell hX9.below HCK.out, keepcell hX9.below HDK.out⟩ (fun hHeld => ?_)
        clear hK K y0 y1 y2 y3 y4 hX9
        try dsimp only
        refine wpAnyH_done (by kernel_rfl) ?_ _
        go_wp2_with fail
        go_roundw
        case rel => exact ⟨k + 1, A7, d7, by omega, by go_num, HQ9, HO9, HX9, HS9⟩
        case measure => simp [intOf]; omega
      · skip
        go_simp
        have hn5 := below_new V (.cells #[.int .i64 z.1, .int .i64 z.2] 51)
        have hY5 := pr_at_rmail V z.1 z.2 _ rfl
        refine hK.out _ _ ⟨hHeld.1.step hn5, keepcell hn5 hHeld.2.1, keepcell hn5 hHeld.2.2⟩ (fun hHeld => ?_)
        clear hK K
        try dsimp only
        replace XV := Lib.hid (XV.out.step hn5)
        replace QV := Lib.hid (QV.out.step hn5)
        replace OV := Lib.hid (own_below OV.out hn5)
        have SV2 := Lib.hid (Nat.le_trans SV.out hn5.size)
        have Y6 := Lib.hid hY5
        clear hn5 hY5
        generalize V.alloc (.cells #[.int .i64 z.1, .int .i64 z.2] 51) = V6 at *
        refine wpAnyH_ready (rs := [1]) (by kernel_rfl) (by simp) ?_
        refine AllReadyH.cons rfl (fun K hK => ?_) AllReadyH.nil
        have x2 := QV.out.c2
        go_simp
        refine hK.out _ _ hHeld (fun hHeld => ?_)
        clear hK K x2
        try dsimp only
        refine wpAnyH_ready (rs := [16]) (by kernel_rfl) (by simp) ?_
        refine AllReadyH.cons rfl (fun K hK => ?_) AllReadyH.nil
        refine step_append_rmail (by rfl) (.tmp 20) (.tmp 34) (by rfl) (w.heap.size + 3) (.slice A5 k d5) k (send.take k) (by rfl) OV.out _ 1 1 [(z.1, z.2)] (by rfl) Y6.out (by have := h2.out; omega) SV2.out ?_
        intro v7 V7 ho7 hg7
        obtain ⟨A7, d7, rfl⟩ := own_form ho7
        have hlt7 : ∀ j, (Value.slice A5 k d5).ownBlock = some j → w.heap.size + 3 ≤ j := fun j e => (OV.out.lt j e).1
        have hX7 := XV.out.grown hg7 (fun j e => by have := hlt7 j e; omega)
        have hQ7 := QV.out.grown hg7 (fun j e => by have := hlt7 j e; omega)
        refine hK.out _ _ ⟨hX7.p, keepcell hX7.below HCK.out, keepcell hX7.below HDK.out⟩ (fun hHeld => ?_)
        clear hK K
        try dsimp only
        have y0 := hQ7.c0
        have y1 := hQ7.c1
        have y2 := hQ7.c2
        have y3 := hQ7.c3
        have y4 := hQ7.f2
        have O7 := Lib.hid (show V7.ownsRow (w.heap.size + 3) 51 2 (.slice A7 (k + 1) d7) (k + 1) (vcells (send.take (k + 1))) by rw [HT.out]; exact ho7)
        have HQ9 := Lib.hid (hQ7.set2 (.slice A7 (k + 1) d7))
        have HO9 := Lib.hid (ownsRow_setCell_below (a := ⟨w.heap.size + 2, 2, none⟩) O7.out (Nat.lt_succ_self (w.heap.size + 2)) (.slice A7 (k + 1) d7))
        have hX9 := hX7.setX (X := w.heap.size + 2) (Nat.le_refl _) 2 (.slice A7 (k + 1) d7)
        have HX9 := Lib.hid hX9
        have HS9 := Lib.hid (show w.heap.size + 3 ≤ (V7.setCell ⟨w.heap.size + 2, 2, none⟩ (.slice A7 (k + 1) d7)).heap.size by have h8 := hg7.size; have h9 := SV2.out; simp [World.setCell]; omega)
        clear ho7 hg7 hlt7 hX7 OV SV SV2 QV XV Y6 O7
        refine wpAnyH_takes (i := 17) (v := (.pointer (some ⟨w.heap.size + 2, 2, none⟩))) (some 36) rfl rfl (by kernel_rfl) (by kernel_rfl) (by kernel_rfl) (fun _ _ _ h => h) (Or.inl ⟨by rfl, (by intro W9 hSw; have s0 := hSw.1.c0; have s1 := hSw.1.c1; have s2 := hSw.1.c2; have s3 := hSw.1.c3; have s4 := hSw.2.1; have s5 := hSw.2.2; clear hSw; go_simp; first | done | with_reducible rfl)⟩) (by assumption) ?_
        simp only [Act.put, List.setIfInBounds_toArray]
        refine wpAnyH_ready (rs := [18]) (by kernel_rfl) (by simp) ?_
        refine AllReadyH.cons rfl (fun K hK => ?_) AllReadyH.nil
        go_simp
        refine hK.out _ _ ⟨hX9.p, keepcell hX9.below HCK.out, keepcell hX9.below HDK.out⟩ (fun hHeld => ?_)
        clear hK K y0 y1 y2 y3 y4 hX9
        try dsimp only
        refine wpAnyH_done (by kernel_rfl) ?_ _
        go_wp2_with fail
        go_roundw
        case rel => exact ⟨k + 1, A7, d7, by omega, by go_num, HQ9, HO9, HX9, HS9⟩
        case measure => simp [intOf]; omega
    · obtain rfl : k = n2 := by omega
      rw [List.take_of_length_le (by omega)] at HO
      obtain ⟨A5', d5', e5, hR5, hF5⟩ := PR.of_own' HO.out
      injection e5 with e5 _ e6
      subst e5 e6
      have r0 := HX.out.r.c0
      have r1 := HX.out.r.c1
      have r2 := HX.out.r.c2
      have r3 := HX.out.r.c3
      have r4 := HX.out.r.f0
      have r5 := HX.out.r.f1
      have r6 := HX.out.r.f2
      have r7 := HX.out.r.f3
      have q0 := HQ.out.c0
      have q1 := HQ.out.c1
      have q2 := HQ.out.c2
      have q3 := HQ.out.c3
      have hbe := put4_below (x := .int .i64 room) (y := .slice A n1 c1) (z := .slice A5 k d5) (u := .slice C n3 c3) HX.out.below (show w.heap.size ≤ w.heap.size + 1 by omega)
      have HM := Lib.hid (tellR (b := ⟨room, msgs, send, recv⟩) (H.out.m.below hbe) (hR5.put4 (x := .int .i64 room) (y := .slice A n1 c1) (z := .slice A5 k d5) (u := .slice C n3 c3) (hF5.mono (by omega : w.heap.size + 1 + 1 ≤ w.heap.size + 3))) (H.out.r.below hbe) hbe)
      have K := HX.out.r.put (.int .i64 room) (.slice A n1 c1) (.slice A5 k d5) (.slice C n3 c3)
      have k0 := K.c0
      have k1 := K.c1
      have k2 := K.c2
      have k3 := K.c3
      clear K hbe hR5 hF5
      go_wp2_with fail
      refine bodyPost_ret (v := .agg #[.int .i64 room, .slice A n1 c1, .slice A5 k d5, .slice C n3 c3]) ?_ rfl ?_
      · simp [results, Try.results18, go_sem, k0, k1, k2, k3]
      exact ⟨_, rfl, HM.out⟩
end Go.Proofs.Ytjpnfjiccckaiaa

