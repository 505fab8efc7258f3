/- The document's Recv, by its contract: somebody waits to send, and something is there. -/
import Derived.Test.YtjpnfjiccckaiaaORefRcv
import Derived.Test.YtjpnfjiccckaiaaORefRecm
import Derived.Deep.DeepCutAuto
import Derived.BigRegion
namespace Go.Proofs.Ytjpnfjiccckaiaa
open Go.RowKit
open Mp (Bo)
set_option linter.unusedVariables false

set_option maxRecDepth 100000 in
set_option maxHeartbeats 3200000 in
theorem refRecv_both (room m : Int) (ms : List Int) (s : Int × Int) (ss : List (Int × Int)) (recv : List Int) (A B C : Option Addr) (n1 n2 n3 c1 c2 c3 : Nat) (g : Int) (w : World) (h : Tri w A n1 c1 B n2 c2 C n3 c3 ⟨room, m :: ms, s :: ss, recv⟩) (h1 : n1 ≤ 200) :
    Calls Try.prog 16 #[.agg #[.int .i64 room, .slice A n1 c1, .slice B n2 c2, .slice C n3 c3], .int .i64 g] w (RRecvE w (⟨room, ms ++ [s.2], ss, recv⟩, m, s.1, true)) := by
  obtain ⟨W0, hW0, hX0⟩ := A4.start w (.int .i64 room) (.slice A n1 c1) (.slice B n2 c2) (.slice C n3 c3) (.int .i64 0) (.slice none 0 0) (.slice none 0 0) (.slice none 0 0) 26 26
  have p0 := hX0.p.c0
  have p1 := hX0.p.c1
  have p2 := hX0.p.c2
  have p3 := hX0.p.c3
  have r0 := hX0.r.c0
  have r1 := hX0.r.c1
  have r2 := hX0.r.c2
  have r3 := hX0.r.c3
  have r4 := hX0.r.f0
  have r5 := hX0.r.f1
  have r6 := hX0.r.f2
  have r7 := hX0.r.f3
  have hl1 := h.m.len
  have hl2 := h.s.len
  have hl3 := h.r.len
  have X0 := Lib.hid hX0
  have H := Lib.hid h
  have E0 := Lib.hid hW0
  clear hX0 hW0 h
  have n0 : 0 < n1 := by simp at hl1; omega
  have n0' : 0 < n2 := by simp at hl2; omega
  obtain ⟨b, off, rfl, hbk, hcs⟩ := H.out.m.cells n0
  have hc0 := hcs 0 m rfl
  obtain ⟨b2, off2, rfl, hbk2, hcs2⟩ := H.out.s.cells n0'
  obtain ⟨hd0, hd1⟩ := hcs2 0 s rfl
  have hT := H.out.m.slice 1 n0
  have hU := H.out.s.slice 1 n0'
  have hcap := H.out.m.cap
  have hcm := H.out.m.most
  have hcap2 := H.out.s.cap
  have hcm2 := H.out.s.most
  rw [Nat.add_zero] at hc0
  rw [Nat.zero_mul, Nat.add_zero] at hd0 hd1
  rw [Nat.one_mul] at hU
  have HC := Lib.hid hd1
  have HCC := Lib.hid hd0
  have hcl := keepcell X0.out.below hc0
  rw [E0.out] at hcl
  have HU := Lib.hid hU
  have HT0 := Lib.hid hT
  clear hcs hc0 hcs2 hd0 hd1 hl1 hl2 hl3 hT hU
  have hn1 : (0 : Int) < (n1 : Int) := by omega
  have hn2 : ((n1 : Int) == 0) = false := by rw [beq_eq_false_iff_ne]; omega
  have hn3 : (n1 : Int) ≤ (c1 : Int) := by omega
  have hn4 : (1 : Int) ≤ (c1 : Int) := by omega
  have hn5 : (1 : Int) ≤ (n1 : Int) := by omega
  have hn6 : 1 ≤ c1 := by omega
  have hm1 : (0 : Int) < (n2 : Int) := by omega
  have hm2 : ((n2 : Int) == 0) = false := by rw [beq_eq_false_iff_ne]; omega
  have hm3 : (n2 : Int) ≤ (c2 : Int) := by omega
  have hm4 : (1 : Int) ≤ (c2 : Int) := by omega
  have hm5 : (1 : Int) ≤ (n2 : Int) := by omega
  have hm6 : 1 ≤ c2 := by omega
  go_enter Try.func16, Try.ntmps16
  go_upto_region 5 with fail
  rw [← E0.out]
  clear E0 hcl
  go_cut [9] (fun v wx => ∃ (A5 : Option Addr) (n5 d5 : Nat), v = .slice A5 n5 d5 ∧ Hid (Row wx A5 n5 d5 (ms ++ [s.2])) ∧ Hid (From (w.heap.size + 2) A5) ∧ Hid (A4 w wx (.int .i64 room) (.slice (some ⟨b, off, none⟩) n1 c1) (.slice (some ⟨b2, off2, none⟩) n2 c2) (.slice C n3 c3) (.int .i64 0) (.slice none 0 0) (.slice none 0 0) (.slice none 0 0)))
  case first =>
    by_cases hc : c1 = 1
    · subst hc
      obtain rfl : n1 = 1 := by omega
      have HT : Hid (Row w (some ⟨b, off, none⟩) (1 - 1) (1 - 1) ms) := Lib.hid (by have := HT0.out; rw [if_pos rfl] at this; exact this)
      clear HT0
      have XV := Lib.hid X0.out.drew
      refine wp_region_held_drew (S := fun W => Q4 W w.heap.size (.int .i64 room) (.slice (some ⟨b, off, none⟩) 1 1) (.slice (some ⟨b2, off2, none⟩) n2 c2) (.slice C n3 c3) ∧ W.cell? ⟨b2, off2 + 1, none⟩ = some (.int .i64 s.2)) (by kernel_rfl) ⟨X0.out.p.drew, keepcell X0.out.drew.below HC.out⟩ (fun hHeld => ?_)
      clear X0
      generalize W0.drew = V at *
      refine wpAnyH_takes (i := 1) (v := (.pointer (some ⟨w.heap.size, 1, none⟩))) (some 32) rfl rfl (by kernel_rfl) (by kernel_rfl) (by kernel_rfl) (fun _ _ _ h => h) (Or.inl ⟨by rfl, (by intro W9 hSw; have s0 := hSw.1.c0; have s1 := hSw.1.c1; have s2 := hSw.1.c2; have s3 := hSw.1.c3; have s4 := hSw.2; clear hSw; go_simp; first | done | with_reducible rfl)⟩) (by assumption) ?_
      simp only [Act.put, List.setIfInBounds_toArray, List.set_cons_zero, List.set_cons_succ]
      refine wpAnyH_takes (i := 2) (v := (.slice (some ⟨b, off, none⟩) 1 1)) (some 33) rfl rfl (by kernel_rfl) (by kernel_rfl) (by kernel_rfl) (fun _ _ _ h => h) (Or.inl ⟨by rfl, (by intro W9 hSw; have s0 := hSw.1.c0; have s1 := hSw.1.c1; have s2 := hSw.1.c2; have s3 := hSw.1.c3; have s4 := hSw.2; clear hSw; go_simp; first | done | with_reducible rfl)⟩) (by assumption) ?_
      simp only [Act.put, List.setIfInBounds_toArray, List.set_cons_zero, List.set_cons_succ]
      refine wpAnyH_takes (i := 3) (v := (.slice (some ⟨b, off, none⟩) (1 - 1) (1 - 1))) (some 34) rfl rfl (by kernel_rfl) (by kernel_rfl) (by kernel_rfl) (fun _ _ _ h => h) (Or.inl ⟨by rfl, (by intro W9 hSw; have s0 := hSw.1.c0; have s1 := hSw.1.c1; have s2 := hSw.1.c2; have s3 := hSw.1.c3; have s4 := hSw.2; clear hSw; go_simp; first | done | with_reducible rfl)⟩) (by assumption) ?_
      simp only [Act.put, List.setIfInBounds_toArray, List.set_cons_zero, List.set_cons_succ]
      refine wpAnyH_takes (i := 5) (v := (.pointer (some ⟨w.heap.size, 2, none⟩))) (some 36) rfl rfl (by kernel_rfl) (by kernel_rfl) (by kernel_rfl) (fun _ _ _ h => h) (Or.inl ⟨by rfl, (by intro W9 hSw; have s0 := hSw.1.c0; have s1 := hSw.1.c1; have s2 := hSw.1.c2; have s3 := hSw.1.c3; have s4 := hSw.2; clear hSw; go_simp; first | done | with_reducible rfl)⟩) (by assumption) ?_
      simp only [Act.put, List.setIfInBounds_toArray, List.set_cons_zero, List.set_cons_succ]
      refine wpAnyH_takes (i := 6) (v := (.slice (some ⟨b2, off2, none⟩) n2 c2)) (some 37) rfl rfl (by kernel_rfl) (by kernel_rfl) (by kernel_rfl) (fun _ _ _ h => h) (Or.inl ⟨by rfl, (by intro W9 hSw; have s0 := hSw.1.c0; have s1 := hSw.1.c1; have s2 := hSw.1.c2; have s3 := hSw.1.c3; have s4 := hSw.2; clear hSw; go_simp; first | done | with_reducible rfl)⟩) (by assumption) ?_
      simp only [Act.put, List.setIfInBounds_toArray, List.set_cons_zero, List.set_cons_succ]
      refine wpAnyH_takes (i := 7) (v := (.pointer (some ⟨b2, off2, none⟩))) (some 38) rfl rfl (by kernel_rfl) (by kernel_rfl) (by kernel_rfl) (fun _ _ _ h => h) (Or.inl ⟨by rfl, (by intro W9 hSw; have s0 := hSw.1.c0; have s1 := hSw.1.c1; have s2 := hSw.1.c2; have s3 := hSw.1.c3; have s4 := hSw.2; clear hSw; go_simp; first | done | with_reducible rfl)⟩) (by assumption) ?_
      simp only [Act.put, List.setIfInBounds_toArray, List.set_cons_zero, List.set_cons_succ]
      refine wpAnyH_takes (i := 8) (v := (.pointer (some ⟨b2, off2 + 1, none⟩))) (some 39) rfl rfl (by kernel_rfl) (by kernel_rfl) (by kernel_rfl) (fun _ _ _ h => h) (Or.inl ⟨by rfl, (by intro W9 hSw; have s0 := hSw.1.c0; have s1 := hSw.1.c1; have s2 := hSw.1.c2; have s3 := hSw.1.c3; have s4 := hSw.2; clear hSw; go_simp; first | done | with_reducible rfl)⟩) (by assumption) ?_
      simp only [Act.put, List.setIfInBounds_toArray, List.set_cons_zero, List.set_cons_succ]
      refine wpAnyH_takes (i := 9) (v := (.int .i64 s.2)) (some 40) rfl rfl (by kernel_rfl) (by kernel_rfl) (by kernel_rfl) (fun _ _ _ h => h) (Or.inl ⟨by rfl, (by intro W9 hSw; have s0 := hSw.1.c0; have s1 := hSw.1.c1; have s2 := hSw.1.c2; have s3 := hSw.1.c3; have s4 := hSw.2; clear hSw; go_simp; first | done | with_reducible rfl)⟩) (by assumption) ?_
      simp only [Act.put, List.setIfInBounds_toArray, List.set_cons_zero, List.set_cons_succ]
      refine wpAnyH_ready (rs := [0, 10]) (by kernel_rfl) (by simp) ?_
      refine AllReadyH.cons rfl (fun K hK => ?_) (AllReadyH.cons rfl (fun K hK => ?_) AllReadyH.nil)
      · skip
        have XE := Lib.hid (XV.out.step (below_new V (.cells #[] 2)))
        go_simp
        refine hK.out _ _ ⟨XE.out.p, keepcell XE.out.below HC.out⟩ (fun hHeld => ?_)
        clear hK K
        try dsimp only
        have Y1 := Lib.hid (show w.heap.size + 2 ≤ V.heap.size from XV.out.size)
        have ZE := Lib.hid (hsz (W := V) (.cells #[] 2))
        have BE := Lib.hid (below_new V (.cells #[] 2))
        generalize V.alloc (.cells #[] 2) = VE at *
        refine wpAnyH_ready (rs := [4, 10]) (by kernel_rfl) (by simp) ?_
        refine AllReadyH.cons rfl (fun K hK => ?_) (AllReadyH.cons rfl (fun K hK => ?_) AllReadyH.nil)
        · skip
          refine step_append_own64 (by rfl) (.tmp 31) (.tmp 34) (by rfl) (w.heap.size + 2) _ 0 [] (by rfl) (.inr ⟨_, rfl, rfl, rfl, (by simp only; exact Y1.out)⟩) (some ⟨b, off, none⟩) (1 - 1) (1 - 1) ms (by rfl) (HT.out.below XE.out.below) (by omega) (by have := XE.out.size; omega) ?_
          intro v1 w1 ho1 hg1
          rw [Nat.zero_add, List.nil_append] at ho1
          obtain ⟨A1, q1, rfl, hr1, hf1⟩ := Own64.row ho1
          have O1 := Lib.hid ho1
          have X1 := Lib.hid (XE.out.grown hg1 (fun k hk => by simp [Value.ownBlock] at hk; have := Y1.out; omega))
          refine hK.out _ _ ⟨X1.out.p, keepcell X1.out.below HC.out⟩ (fun hHeld => ?_)
          clear hK K ho1 hr1
          try dsimp only
          refine wpAnyH_ready (rs := [10]) (by kernel_rfl) (by simp) ?_
          refine AllReadyH.cons rfl (fun K hK => ?_) AllReadyH.nil
          have XG := Lib.hid (X1.out.step (below_new w1 (.cells #[.int .i64 s.2] 2)))
          go_simp
          refine hK.out _ _ ⟨XG.out.p, keepcell XG.out.below HC.out⟩ (fun hHeld => ?_)
          clear hK K
          try dsimp only
          have ZG := Lib.hid (hsz (W := w1) (.cells #[.int .i64 s.2] 2))
          have BG := Lib.hid (below_new w1 (.cells #[.int .i64 s.2] 2))
          have GG := Lib.hid (row_at64 w1 s.2 _ rfl)
          generalize w1.alloc (.cells #[.int .i64 s.2] 2) = VG at *
          refine wpAnyH_ready (rs := [11]) (by kernel_rfl) (by simp) ?_
          refine AllReadyH.cons rfl (fun K hK => ?_) AllReadyH.nil
          refine step_append_own64 (by rfl) (.tmp 35) (.tmp 41) (by rfl) (w.heap.size + 2) (.slice A1 ((1 - 1)) q1) ((1 - 1)) ms (by rfl) (O1.out.step BG.out) _ 1 1 [s.2] (by rfl) GG.out (by omega) (by have := XG.out.size; omega) ?_
          intro v2 w2 ho2 hg2
          obtain ⟨A2, q2, rfl, hr2, hf2⟩ := Own64.row ho2
          have X2 := XG.out.grown hg2 (own_from hf1)
          refine hK.out _ _ ⟨X2.p, keepcell X2.below HC.out⟩ (fun hHeld => ?_)
          clear hK K
          try dsimp only
          have b4 := X2.r.c0
          have b5 := X2.r.c1
          have b6 := X2.r.c2
          have b7 := X2.r.c3
          have b8 := X2.r.f0
          have b9 := X2.r.f1
          have b10 := X2.r.f2
          have b11 := X2.r.f3
          clear r0 r1 r2 r3 r4 r5 r6 r7 p0 p1 p2 p3
          refine wpAnyH_takes (i := 12) (v := (.slice A2 (1 - 1 + 1) q2)) (some 9) rfl rfl (by kernel_rfl) (by kernel_rfl) (by kernel_rfl) (fun _ _ _ h => h) (Or.inl ⟨by rfl, (by intro W9 hSw; have s0 := hSw.1.c0; have s1 := hSw.1.c1; have s2 := hSw.1.c2; have s3 := hSw.1.c3; have s4 := hSw.2; clear hSw; go_simp; first | done | with_reducible rfl)⟩) (by assumption) ?_
          simp only [Act.put, List.setIfInBounds_toArray]
          refine wpAnyH_done (by kernel_rfl) ?_ _
          have HX := Lib.hid X2
          have HR := Lib.hid hr2
          have HFR := Lib.hid hf2
          clear b4 b5 b6 b7 b8 b9 b10 b11 hr2 hf2 hg2 ho2 X2 hHeld
          go_wp2_with fail
          go_meet
          exact ⟨A2, _, q2, rfl, HR, HFR, HX⟩
        · skip
          have XG := Lib.hid (XE.out.step (below_new VE (.cells #[.int .i64 s.2] 2)))
          go_simp
          refine hK.out _ _ ⟨XG.out.p, keepcell XG.out.below HC.out⟩ (fun hHeld => ?_)
          clear hK K
          try dsimp only
          have ZG := Lib.hid (hsz (W := VE) (.cells #[.int .i64 s.2] 2))
          have BG := Lib.hid (below_new VE (.cells #[.int .i64 s.2] 2))
          have GG := Lib.hid (row_at64 VE s.2 _ rfl)
          generalize VE.alloc (.cells #[.int .i64 s.2] 2) = VG at *
          refine wpAnyH_ready (rs := [4]) (by kernel_rfl) (by simp) ?_
          refine AllReadyH.cons rfl (fun K hK => ?_) AllReadyH.nil
          refine step_append_own64 (by rfl) (.tmp 31) (.tmp 34) (by rfl) (w.heap.size + 2) _ 0 [] (by rfl) (.inr ⟨_, rfl, rfl, rfl, (by simp only; exact Y1.out)⟩) (some ⟨b, off, none⟩) (1 - 1) (1 - 1) ms (by rfl) (HT.out.below XG.out.below) (by omega) (by have := XG.out.size; omega) ?_
          intro v1 w1 ho1 hg1
          rw [Nat.zero_add, List.nil_append] at ho1
          obtain ⟨A1, q1, rfl, hr1, hf1⟩ := Own64.row ho1
          have O1 := Lib.hid ho1
          have X1 := Lib.hid (XG.out.grown hg1 (fun k hk => by simp [Value.ownBlock] at hk; have := Y1.out; omega))
          refine hK.out _ _ ⟨X1.out.p, keepcell X1.out.below HC.out⟩ (fun hHeld => ?_)
          clear hK K ho1 hr1
          try dsimp only
          have G1 := Lib.hid (GG.out.grown hg1 (by intro ad e; injection e with e; subst e; simp [Value.ownBlock]; have := ZE.out; omega))
          refine wpAnyH_ready (rs := [11]) (by kernel_rfl) (by simp) ?_
          refine AllReadyH.cons rfl (fun K hK => ?_) AllReadyH.nil
          refine step_append_own64 (by rfl) (.tmp 35) (.tmp 41) (by rfl) (w.heap.size + 2) (.slice A1 ((1 - 1)) q1) ((1 - 1)) ms (by rfl) O1.out _ 1 1 [s.2] (by rfl) G1.out (by omega) (by have := X1.out.size; omega) ?_
          intro v2 w2 ho2 hg2
          obtain ⟨A2, q2, rfl, hr2, hf2⟩ := Own64.row ho2
          have X2 := X1.out.grown hg2 (own_from hf1)
          refine hK.out _ _ ⟨X2.p, keepcell X2.below HC.out⟩ (fun hHeld => ?_)
          clear hK K
          try dsimp only
          have b4 := X2.r.c0
          have b5 := X2.r.c1
          have b6 := X2.r.c2
          have b7 := X2.r.c3
          have b8 := X2.r.f0
          have b9 := X2.r.f1
          have b10 := X2.r.f2
          have b11 := X2.r.f3
          clear r0 r1 r2 r3 r4 r5 r6 r7 p0 p1 p2 p3
          refine wpAnyH_takes (i := 12) (v := (.slice A2 (1 - 1 + 1) q2)) (some 9) rfl rfl (by kernel_rfl) (by kernel_rfl) (by kernel_rfl) (fun _ _ _ h => h) (Or.inl ⟨by rfl, (by intro W9 hSw; have s0 := hSw.1.c0; have s1 := hSw.1.c1; have s2 := hSw.1.c2; have s3 := hSw.1.c3; have s4 := hSw.2; clear hSw; go_simp; first | done | with_reducible rfl)⟩) (by assumption) ?_
          simp only [Act.put, List.setIfInBounds_toArray]
          refine wpAnyH_done (by kernel_rfl) ?_ _
          have HX := Lib.hid X2
          have HR := Lib.hid hr2
          have HFR := Lib.hid hf2
          clear b4 b5 b6 b7 b8 b9 b10 b11 hr2 hf2 hg2 ho2 X2 hHeld
          go_wp2_with fail
          go_meet
          exact ⟨A2, _, q2, rfl, HR, HFR, HX⟩
      · skip
        have XG := Lib.hid (XV.out.step (below_new V (.cells #[.int .i64 s.2] 2)))
        go_simp
        refine hK.out _ _ ⟨XG.out.p, keepcell XG.out.below HC.out⟩ (fun hHeld => ?_)
        clear hK K
        try dsimp only
        have ZG := Lib.hid (hsz (W := V) (.cells #[.int .i64 s.2] 2))
        have BG := Lib.hid (below_new V (.cells #[.int .i64 s.2] 2))
        have GG := Lib.hid (row_at64 V s.2 _ rfl)
        generalize V.alloc (.cells #[.int .i64 s.2] 2) = VG at *
        refine wpAnyH_ready (rs := [0]) (by kernel_rfl) (by simp) ?_
        refine AllReadyH.cons rfl (fun K hK => ?_) AllReadyH.nil
        have XE := Lib.hid (XG.out.step (below_new VG (.cells #[] 2)))
        go_simp
        refine hK.out _ _ ⟨XE.out.p, keepcell XE.out.below HC.out⟩ (fun hHeld => ?_)
        clear hK K
        try dsimp only
        have Y1 := Lib.hid (show w.heap.size + 2 ≤ VG.heap.size from XG.out.size)
        have ZE := Lib.hid (hsz (W := VG) (.cells #[] 2))
        have BE := Lib.hid (below_new VG (.cells #[] 2))
        generalize VG.alloc (.cells #[] 2) = VE at *
        refine wpAnyH_ready (rs := [4]) (by kernel_rfl) (by simp) ?_
        refine AllReadyH.cons rfl (fun K hK => ?_) AllReadyH.nil
        refine step_append_own64 (by rfl) (.tmp 31) (.tmp 34) (by rfl) (w.heap.size + 2) _ 0 [] (by rfl) (.inr ⟨_, rfl, rfl, rfl, (by simp only; exact Y1.out)⟩) (some ⟨b, off, none⟩) (1 - 1) (1 - 1) ms (by rfl) (HT.out.below XE.out.below) (by omega) (by have := XE.out.size; omega) ?_
        intro v1 w1 ho1 hg1
        rw [Nat.zero_add, List.nil_append] at ho1
        obtain ⟨A1, q1, rfl, hr1, hf1⟩ := Own64.row ho1
        have O1 := Lib.hid ho1
        have X1 := Lib.hid (XE.out.grown hg1 (fun k hk => by simp [Value.ownBlock] at hk; have := Y1.out; omega))
        refine hK.out _ _ ⟨X1.out.p, keepcell X1.out.below HC.out⟩ (fun hHeld => ?_)
        clear hK K ho1 hr1
        try dsimp only
        have G1 := Lib.hid ((GG.out.below BE.out).grown hg1 (by intro ad e; injection e with e; subst e; simp [Value.ownBlock]; have := ZG.out; omega))
        refine wpAnyH_ready (rs := [11]) (by kernel_rfl) (by simp) ?_
        refine AllReadyH.cons rfl (fun K hK => ?_) AllReadyH.nil
        refine step_append_own64 (by rfl) (.tmp 35) (.tmp 41) (by rfl) (w.heap.size + 2) (.slice A1 ((1 - 1)) q1) ((1 - 1)) ms (by rfl) O1.out _ 1 1 [s.2] (by rfl) G1.out (by omega) (by have := X1.out.size; omega) ?_
        intro v2 w2 ho2 hg2
        obtain ⟨A2, q2, rfl, hr2, hf2⟩ := Own64.row ho2
        have X2 := X1.out.grown hg2 (own_from hf1)
        refine hK.out _ _ ⟨X2.p, keepcell X2.below HC.out⟩ (fun hHeld => ?_)
        clear hK K
        try dsimp only
        have b4 := X2.r.c0
        have b5 := X2.r.c1
        have b6 := X2.r.c2
        have b7 := X2.r.c3
        have b8 := X2.r.f0
        have b9 := X2.r.f1
        have b10 := X2.r.f2
        have b11 := X2.r.f3
        clear r0 r1 r2 r3 r4 r5 r6 r7 p0 p1 p2 p3
        refine wpAnyH_takes (i := 12) (v := (.slice A2 (1 - 1 + 1) q2)) (some 9) rfl rfl (by kernel_rfl) (by kernel_rfl) (by kernel_rfl) (fun _ _ _ h => h) (Or.inl ⟨by rfl, (by intro W9 hSw; have s0 := hSw.1.c0; have s1 := hSw.1.c1; have s2 := hSw.1.c2; have s3 := hSw.1.c3; have s4 := hSw.2; clear hSw; go_simp; first | done | with_reducible rfl)⟩) (by assumption) ?_
        simp only [Act.put, List.setIfInBounds_toArray]
        refine wpAnyH_done (by kernel_rfl) ?_ _
        have HX := Lib.hid X2
        have HR := Lib.hid hr2
        have HFR := Lib.hid hf2
        clear b4 b5 b6 b7 b8 b9 b10 b11 hr2 hf2 hg2 ho2 X2 hHeld
        go_wp2_with fail
        go_meet
        exact ⟨A2, _, q2, rfl, HR, HFR, HX⟩
    · have HT : Hid (Row w (some ⟨b, off + 1, none⟩) (n1 - 1) (c1 - 1) ms) := Lib.hid (by have := HT0.out; rw [if_neg hc] at this; exact this)
      clear HT0
      have XV := Lib.hid X0.out.drew
      refine wp_region_held_drew (S := fun W => Q4 W w.heap.size (.int .i64 room) (.slice (some ⟨b, off, none⟩) n1 c1) (.slice (some ⟨b2, off2, none⟩) n2 c2) (.slice C n3 c3) ∧ W.cell? ⟨b2, off2 + 1, none⟩ = some (.int .i64 s.2)) (by kernel_rfl) ⟨X0.out.p.drew, keepcell X0.out.drew.below HC.out⟩ (fun hHeld => ?_)
      clear X0
      generalize W0.drew = V at *
      refine wpAnyH_takes (i := 1) (v := (.pointer (some ⟨w.heap.size, 1, none⟩))) (some 32) rfl rfl (by kernel_rfl) (by kernel_rfl) (by kernel_rfl) (fun _ _ _ h => h) (Or.inl ⟨by rfl, (by intro W9 hSw; have s0 := hSw.1.c0; have s1 := hSw.1.c1; have s2 := hSw.1.c2; have s3 := hSw.1.c3; have s4 := hSw.2; clear hSw; go_simp; first | done | with_reducible rfl)⟩) (by assumption) ?_
      simp only [Act.put, List.setIfInBounds_toArray, List.set_cons_zero, List.set_cons_succ]
      refine wpAnyH_takes (i := 2) (v := (.slice (some ⟨b, off, none⟩) n1 c1)) (some 33) rfl rfl (by kernel_rfl) (by kernel_rfl) (by kernel_rfl) (fun _ _ _ h => h) (Or.inl ⟨by rfl, (by intro W9 hSw; have s0 := hSw.1.c0; have s1 := hSw.1.c1; have s2 := hSw.1.c2; have s3 := hSw.1.c3; have s4 := hSw.2; clear hSw; go_simp; first | done | with_reducible rfl)⟩) (by assumption) ?_
      simp only [Act.put, List.setIfInBounds_toArray, List.set_cons_zero, List.set_cons_succ]
      refine wpAnyH_takes (i := 3) (v := (.slice (some ⟨b, off + 1, none⟩) (n1 - 1) (c1 - 1))) (some 34) rfl rfl (by kernel_rfl) (by kernel_rfl) (by kernel_rfl) (fun _ _ _ h => h) (Or.inl ⟨by rfl, (by intro W9 hSw; have s0 := hSw.1.c0; have s1 := hSw.1.c1; have s2 := hSw.1.c2; have s3 := hSw.1.c3; have s4 := hSw.2; clear hSw; go_simp; first | done | with_reducible rfl)⟩) (by assumption) ?_
      simp only [Act.put, List.setIfInBounds_toArray, List.set_cons_zero, List.set_cons_succ]
      refine wpAnyH_takes (i := 5) (v := (.pointer (some ⟨w.heap.size, 2, none⟩))) (some 36) rfl rfl (by kernel_rfl) (by kernel_rfl) (by kernel_rfl) (fun _ _ _ h => h) (Or.inl ⟨by rfl, (by intro W9 hSw; have s0 := hSw.1.c0; have s1 := hSw.1.c1; have s2 := hSw.1.c2; have s3 := hSw.1.c3; have s4 := hSw.2; clear hSw; go_simp; first | done | with_reducible rfl)⟩) (by assumption) ?_
      simp only [Act.put, List.setIfInBounds_toArray, List.set_cons_zero, List.set_cons_succ]
      refine wpAnyH_takes (i := 6) (v := (.slice (some ⟨b2, off2, none⟩) n2 c2)) (some 37) rfl rfl (by kernel_rfl) (by kernel_rfl) (by kernel_rfl) (fun _ _ _ h => h) (Or.inl ⟨by rfl, (by intro W9 hSw; have s0 := hSw.1.c0; have s1 := hSw.1.c1; have s2 := hSw.1.c2; have s3 := hSw.1.c3; have s4 := hSw.2; clear hSw; go_simp; first | done | with_reducible rfl)⟩) (by assumption) ?_
      simp only [Act.put, List.setIfInBounds_toArray, List.set_cons_zero, List.set_cons_succ]
      refine wpAnyH_takes (i := 7) (v := (.pointer (some ⟨b2, off2, none⟩))) (some 38) rfl rfl (by kernel_rfl) (by kernel_rfl) (by kernel_rfl) (fun _ _ _ h => h) (Or.inl ⟨by rfl, (by intro W9 hSw; have s0 := hSw.1.c0; have s1 := hSw.1.c1; have s2 := hSw.1.c2; have s3 := hSw.1.c3; have s4 := hSw.2; clear hSw; go_simp; first | done | with_reducible rfl)⟩) (by assumption) ?_
      simp only [Act.put, List.setIfInBounds_toArray, List.set_cons_zero, List.set_cons_succ]
      refine wpAnyH_takes (i := 8) (v := (.pointer (some ⟨b2, off2 + 1, none⟩))) (some 39) rfl rfl (by kernel_rfl) (by kernel_rfl) (by kernel_rfl) (fun _ _ _ h => h) (Or.inl ⟨by rfl, (by intro W9 hSw; have s0 := hSw.1.c0; have s1 := hSw.1.c1; have s2 := hSw.1.c2; have s3 := hSw.1.c3; have s4 := hSw.2; clear hSw; go_simp; first | done | with_reducible rfl)⟩) (by assumption) ?_
      simp only [Act.put, List.setIfInBounds_toArray, List.set_cons_zero, List.set_cons_succ]
      refine wpAnyH_takes (i := 9) (v := (.int .i64 s.2)) (some 40) rfl rfl (by kernel_rfl) (by kernel_rfl) (by kernel_rfl) (fun _ _ _ h => h) (Or.inl ⟨by rfl, (by intro W9 hSw; have s0 := hSw.1.c0; have s1 := hSw.1.c1; have s2 := hSw.1.c2; have s3 := hSw.1.c3; have s4 := hSw.2; clear hSw; go_simp; first | done | with_reducible rfl)⟩) (by assumption) ?_
      simp only [Act.put, List.setIfInBounds_toArray, List.set_cons_zero, List.set_cons_succ]
      refine wpAnyH_ready (rs := [0, 10]) (by kernel_rfl) (by simp) ?_
      refine AllReadyH.cons rfl (fun K hK => ?_) (AllReadyH.cons rfl (fun K hK => ?_) AllReadyH.nil)
      · skip
        have XE := Lib.hid (XV.out.step (below_new V (.cells #[] 2)))
        go_simp
        refine hK.out _ _ ⟨XE.out.p, keepcell XE.out.below HC.out⟩ (fun hHeld => ?_)
        clear hK K
        try dsimp only
        have Y1 := Lib.hid (show w.heap.size + 2 ≤ V.heap.size from XV.out.size)
        have ZE := Lib.hid (hsz (W := V) (.cells #[] 2))
        have BE := Lib.hid (below_new V (.cells #[] 2))
        generalize V.alloc (.cells #[] 2) = VE at *
        refine wpAnyH_ready (rs := [4, 10]) (by kernel_rfl) (by simp) ?_
        refine AllReadyH.cons rfl (fun K hK => ?_) (AllReadyH.cons rfl (fun K hK => ?_) AllReadyH.nil)
        · skip
          refine step_append_own64 (by rfl) (.tmp 31) (.tmp 34) (by rfl) (w.heap.size + 2) _ 0 [] (by rfl) (.inr ⟨_, rfl, rfl, rfl, (by simp only; exact Y1.out)⟩) (some ⟨b, off + 1, none⟩) (n1 - 1) (c1 - 1) ms (by rfl) (HT.out.below XE.out.below) (by omega) (by have := XE.out.size; omega) ?_
          intro v1 w1 ho1 hg1
          rw [Nat.zero_add, List.nil_append] at ho1
          obtain ⟨A1, q1, rfl, hr1, hf1⟩ := Own64.row ho1
          have O1 := Lib.hid ho1
          have X1 := Lib.hid (XE.out.grown hg1 (fun k hk => by simp [Value.ownBlock] at hk; have := Y1.out; omega))
          refine hK.out _ _ ⟨X1.out.p, keepcell X1.out.below HC.out⟩ (fun hHeld => ?_)
          clear hK K ho1 hr1
          try dsimp only
          refine wpAnyH_ready (rs := [10]) (by kernel_rfl) (by simp) ?_
          refine AllReadyH.cons rfl (fun K hK => ?_) AllReadyH.nil
          have XG := Lib.hid (X1.out.step (below_new w1 (.cells #[.int .i64 s.2] 2)))
          go_simp
          refine hK.out _ _ ⟨XG.out.p, keepcell XG.out.below HC.out⟩ (fun hHeld => ?_)
          clear hK K
          try dsimp only
          have ZG := Lib.hid (hsz (W := w1) (.cells #[.int .i64 s.2] 2))
          have BG := Lib.hid (below_new w1 (.cells #[.int .i64 s.2] 2))
          have GG := Lib.hid (row_at64 w1 s.2 _ rfl)
          generalize w1.alloc (.cells #[.int .i64 s.2] 2) = VG at *
          refine wpAnyH_ready (rs := [11]) (by kernel_rfl) (by simp) ?_
          refine AllReadyH.cons rfl (fun K hK => ?_) AllReadyH.nil
          refine step_append_own64 (by rfl) (.tmp 35) (.tmp 41) (by rfl) (w.heap.size + 2) (.slice A1 ((n1 - 1)) q1) ((n1 - 1)) ms (by rfl) (O1.out.step BG.out) _ 1 1 [s.2] (by rfl) GG.out (by omega) (by have := XG.out.size; omega) ?_
          intro v2 w2 ho2 hg2
          obtain ⟨A2, q2, rfl, hr2, hf2⟩ := Own64.row ho2
          have X2 := XG.out.grown hg2 (own_from hf1)
          refine hK.out _ _ ⟨X2.p, keepcell X2.below HC.out⟩ (fun hHeld => ?_)
          clear hK K
          try dsimp only
          have b4 := X2.r.c0
          have b5 := X2.r.c1
          have b6 := X2.r.c2
          have b7 := X2.r.c3
          have b8 := X2.r.f0
          have b9 := X2.r.f1
          have b10 := X2.r.f2
          have b11 := X2.r.f3
          clear r0 r1 r2 r3 r4 r5 r6 r7 p0 p1 p2 p3
          refine wpAnyH_takes (i := 12) (v := (.slice A2 (n1 - 1 + 1) q2)) (some 9) rfl rfl (by kernel_rfl) (by kernel_rfl) (by kernel_rfl) (fun _ _ _ h => h) (Or.inl ⟨by rfl, (by intro W9 hSw; have s0 := hSw.1.c0; have s1 := hSw.1.c1; have s2 := hSw.1.c2; have s3 := hSw.1.c3; have s4 := hSw.2; clear hSw; go_simp; first | done | with_reducible rfl)⟩) (by assumption) ?_
          simp only [Act.put, List.setIfInBounds_toArray]
          refine wpAnyH_done (by kernel_rfl) ?_ _
          have HX := Lib.hid X2
          have HR := Lib.hid hr2
          have HFR := Lib.hid hf2
          clear b4 b5 b6 b7 b8 b9 b10 b11 hr2 hf2 hg2 ho2 X2 hHeld
          go_wp2_with fail
          go_meet
          exact ⟨A2, _, q2, rfl, HR, HFR, HX⟩
        · skip
          have XG := Lib.hid (XE.out.step (below_new VE (.cells #[.int .i64 s.2] 2)))
          go_simp
          refine hK.out _ _ ⟨XG.out.p, keepcell XG.out.below HC.out⟩ (fun hHeld => ?_)
          clear hK K
          try dsimp only
          have ZG := Lib.hid (hsz (W := VE) (.cells #[.int .i64 s.2] 2))
          have BG := Lib.hid (below_new VE (.cells #[.int .i64 s.2] 2))
          have GG := Lib.hid (row_at64 VE s.2 _ rfl)
          generalize VE.alloc (.cells #[.int .i64 s.2] 2) = VG at *
          refine wpAnyH_ready (rs := [4]) (by kernel_rfl) (by simp) ?_
          refine AllReadyH.cons rfl (fun K hK => ?_) AllReadyH.nil
          refine step_append_own64 (by rfl) (.tmp 31) (.tmp 34) (by rfl) (w.heap.size + 2) _ 0 [] (by rfl) (.inr ⟨_, rfl, rfl, rfl, (by simp only; exact Y1.out)⟩) (some ⟨b, off + 1, none⟩) (n1 - 1) (c1 - 1) ms (by rfl) (HT.out.below XG.out.below) (by omega) (by have := XG.out.size; omega) ?_
          intro v1 w1 ho1 hg1
          rw [Nat.zero_add, List.nil_append] at ho1
          obtain ⟨A1, q1, rfl, hr1, hf1⟩ := Own64.row ho1
          have O1 := Lib.hid ho1
          have X1 := Lib.hid (XG.out.grown hg1 (fun k hk => by simp [Value.ownBlock] at hk; have := Y1.out; omega))
          refine hK.out _ _ ⟨X1.out.p, keepcell X1.out.below HC.out⟩ (fun hHeld => ?_)
          clear hK K ho1 hr1
          try dsimp only
          have G1 := Lib.hid (GG.out.grown hg1 (by intro ad e; injection e with e; subst e; simp [Value.ownBlock]; have := ZE.out; omega))
          refine wpAnyH_ready (rs := [11]) (by kernel_rfl) (by simp) ?_
          refine AllReadyH.cons rfl (fun K hK => ?_) AllReadyH.nil
          refine step_append_own64 (by rfl) (.tmp 35) (.tmp 41) (by rfl) (w.heap.size + 2) (.slice A1 ((n1 - 1)) q1) ((n1 - 1)) ms (by rfl) O1.out _ 1 1 [s.2] (by rfl) G1.out (by omega) (by have := X1.out.size; omega) ?_
          intro v2 w2 ho2 hg2
          obtain ⟨A2, q2, rfl, hr2, hf2⟩ := Own64.row ho2
          have X2 := X1.out.grown hg2 (own_from hf1)
          refine hK.out _ _ ⟨X2.p, keepcell X2.below HC.out⟩ (fun hHeld => ?_)
          clear hK K
          try dsimp only
          have b4 := X2.r.c0
          have b5 := X2.r.c1
          have b6 := X2.r.c2
          have b7 := X2.r.c3
          have b8 := X2.r.f0
          have b9 := X2.r.f1
          have b10 := X2.r.f2
          have b11 := X2.r.f3
          clear r0 r1 r2 r3 r4 r5 r6 r7 p0 p1 p2 p3
          refine wpAnyH_takes (i := 12) (v := (.slice A2 (n1 - 1 + 1) q2)) (some 9) rfl rfl (by kernel_rfl) (by kernel_rfl) (by kernel_rfl) (fun _ _ _ h => h) (Or.inl ⟨by rfl, (by intro W9 hSw; have s0 := hSw.1.c0; have s1 := hSw.1.c1; have s2 := hSw.1.c2; have s3 := hSw.1.c3; have s4 := hSw.2; clear hSw; go_simp; first | done | with_reducible rfl)⟩) (by assumption) ?_
          simp only [Act.put, List.setIfInBounds_toArray]
          refine wpAnyH_done (by kernel_rfl) ?_ _
          have HX := Lib.hid X2
          have HR := Lib.hid hr2
          have HFR := Lib.hid hf2
          clear b4 b5 b6 b7 b8 b9 b10 b11 hr2 hf2 hg2 ho2 X2 hHeld
          go_wp2_with fail
          go_meet
          exact ⟨A2, _, q2, rfl, HR, HFR, HX⟩
      · skip
        have XG := Lib.hid (XV.out.step (below_new V (.cells #[.int .i64 s.2] 2)))
        go_simp
        refine hK.out _ _ ⟨XG.out.p, keepcell XG.out.below HC.out⟩ (fun hHeld => ?_)
        clear hK K
        try dsimp only
        have ZG := Lib.hid (hsz (W := V) (.cells #[.int .i64 s.2] 2))
        have BG := Lib.hid (below_new V (.cells #[.int .i64 s.2] 2))
        have GG := Lib.hid (row_at64 V s.2 _ rfl)
        generalize V.alloc (.cells #[.int .i64 s.2] 2) = VG at *
        refine wpAnyH_ready (rs := [0]) (by kernel_rfl) (by simp) ?_
        refine AllReadyH.cons rfl (fun K hK => ?_) AllReadyH.nil
        have XE := Lib.hid (XG.out.step (below_new VG (.cells #[] 2)))
        go_simp
        refine hK.out _ _ ⟨XE.out.p, keepcell XE.out.below HC.out⟩ (fun hHeld => ?_)
        clear hK K
        try dsimp only
        have Y1 := Lib.hid (show w.heap.size + 2 ≤ VG.heap.size from XG.out.size)
        have ZE := Lib.hid (hsz (W := VG) (.cells #[] 2))
        have BE := Lib.hid (below_new VG (.cells #[] 2))
        generalize VG.alloc (.cells #[] 2) = VE at *
        refine wpAnyH_ready (rs := [4]) (by kernel_rfl) (by simp) ?_
        refine AllReadyH.cons rfl (fun K hK => ?_) AllReadyH.nil
        refine step_append_own64 (by rfl) (.tmp 31) (.tmp 34) (by rfl) (w.heap.size + 2) _ 0 [] (by rfl) (.inr ⟨_, rfl, rfl, rfl, (by simp only; exact Y1.out)⟩) (some ⟨b, off + 1, none⟩) (n1 - 1) (c1 - 1) ms (by rfl) (HT.out.below XE.out.below) (by omega) (by have := XE.out.size; omega) ?_
        intro v1 w1 ho1 hg1
        rw [Nat.zero_add, List.nil_append] at ho1
        obtain ⟨A1, q1, rfl, hr1, hf1⟩ := Own64.row ho1
        have O1 := Lib.hid ho1
        have X1 := Lib.hid (XE.out.grown hg1 (fun k hk => by simp [Value.ownBlock] at hk; have := Y1.out; omega))
        refine hK.out _ _ ⟨X1.out.p, keepcell X1.out.below HC.out⟩ (fun hHeld => ?_)
        clear hK K ho1 hr1
        try dsimp only
        have G1 := Lib.hid ((GG.out.below BE.out).grown hg1 (by intro ad e; injection e with e; subst e; simp [Value.ownBlock]; have := ZG.out; omega))
        refine wpAnyH_ready (rs := [11]) (by kernel_rfl) (by simp) ?_
        refine AllReadyH.cons rfl (fun K hK => ?_) AllReadyH.nil
        refine step_append_own64 (by rfl) (.tmp 35) (.tmp 41) (by rfl) (w.heap.size + 2) (.slice A1 ((n1 - 1)) q1) ((n1 - 1)) ms (by rfl) O1.out _ 1 1 [s.2] (by rfl) G1.out (by omega) (by have := X1.out.size; omega) ?_
        intro v2 w2 ho2 hg2
        obtain ⟨A2, q2, rfl, hr2, hf2⟩ := Own64.row ho2
        have X2 := X1.out.grown hg2 (own_from hf1)
        refine hK.out _ _ ⟨X2.p, keepcell X2.below HC.out⟩ (fun hHeld => ?_)
        clear hK K
        try dsimp only
        have b4 := X2.r.c0
        have b5 := X2.r.c1
        have b6 := X2.r.c2
        have b7 := X2.r.c3
        have b8 := X2.r.f0
        have b9 := X2.r.f1
        have b10 := X2.r.f2
        have b11 := X2.r.f3
        clear r0 r1 r2 r3 r4 r5 r6 r7 p0 p1 p2 p3
        refine wpAnyH_takes (i := 12) (v := (.slice A2 (n1 - 1 + 1) q2)) (some 9) rfl rfl (by kernel_rfl) (by kernel_rfl) (by kernel_rfl) (fun _ _ _ h => h) (Or.inl ⟨by rfl, (by intro W9 hSw; have s0 := hSw.1.c0; have s1 := hSw.1.c1; have s2 := hSw.1.c2; have s3 := hSw.1.c3; have s4 := hSw.2; clear hSw; go_simp; first | done | with_reducible rfl)⟩) (by assumption) ?_
        simp only [Act.put, List.setIfInBounds_toArray]
        refine wpAnyH_done (by kernel_rfl) ?_ _
        have HX := Lib.hid X2
        have HR := Lib.hid hr2
        have HFR := Lib.hid hf2
        clear b4 b5 b6 b7 b8 b9 b10 b11 hr2 hf2 hg2 ho2 X2 hHeld
        go_wp2_with fail
        go_meet
        exact ⟨A2, _, q2, rfl, HR, HFR, HX⟩
  case rest =>
    obtain ⟨A5, n5, d5, rfl, HR5, HF5, HX5⟩ := hcut
    clear X0 HT0 p0 p1 p2 p3 r0 r1 r2 r3 r4 r5 r6 r7
    by_cases hc : c2 = 1
    · subst hc
      obtain rfl : n2 = 1 := by omega
      have HUx : Hid (PR w (some ⟨b2, off2, none⟩) (1 - 1) (1 - 1) ss) := Lib.hid (by have := HU.out; rw [if_pos rfl] at this; exact this)
      clear HU
      go_wp2_with fail
      have XV := Lib.hid HX5.out.drew
      refine wp_region_held_drew (S := fun W => Q4 W w.heap.size (.int .i64 room) (.slice (some ⟨b, off, none⟩) n1 c1) (.slice (some ⟨b2, off2, none⟩) 1 1) (.slice C n3 c3) ∧ W.cell? ⟨b2, off2, none⟩ = some (.int .i64 s.1)) (by kernel_rfl) ⟨HX5.out.p.drew, keepcell HX5.out.drew.below HCC.out⟩ (fun hHeld => ?_)
      have HR5 := Lib.hid HR5.out.drew
      clear HX5
      generalize wc.drew = V at *
      refine wpAnyH_takes (i := 0) (v := (.pointer (some ⟨w.heap.size, 0, none⟩))) (some 43) rfl rfl (by kernel_rfl) (by kernel_rfl) (by kernel_rfl) (fun _ _ _ h => h) (Or.inl ⟨by rfl, (by intro W9 hSw; have s0 := hSw.1.c0; have s1 := hSw.1.c1; have s2 := hSw.1.c2; have s3 := hSw.1.c3; have s4 := hSw.2; clear hSw; go_simp; first | done | with_reducible rfl)⟩) (by assumption) ?_
      simp only [Act.put, List.setIfInBounds_toArray, List.set_cons_zero, List.set_cons_succ]
      refine wpAnyH_takes (i := 1) (v := (.int .i64 room)) (some 44) rfl rfl (by kernel_rfl) (by kernel_rfl) (by kernel_rfl) (fun _ _ _ h => h) (Or.inl ⟨by rfl, (by intro W9 hSw; have s0 := hSw.1.c0; have s1 := hSw.1.c1; have s2 := hSw.1.c2; have s3 := hSw.1.c3; have s4 := hSw.2; clear hSw; go_simp; first | done | with_reducible rfl)⟩) (by assumption) ?_
      simp only [Act.put, List.setIfInBounds_toArray, List.set_cons_zero, List.set_cons_succ]
      refine wpAnyH_takes (i := 2) (v := (.slice A5 n5 d5)) (some 45) rfl rfl (by kernel_rfl) (by kernel_rfl) (by kernel_rfl) (fun _ _ _ h => h) (Or.inl ⟨by rfl, (by intro W9 hSw; have s0 := hSw.1.c0; have s1 := hSw.1.c1; have s2 := hSw.1.c2; have s3 := hSw.1.c3; have s4 := hSw.2; clear hSw; go_simp; first | done | with_reducible rfl)⟩) (by assumption) ?_
      simp only [Act.put, List.setIfInBounds_toArray, List.set_cons_zero, List.set_cons_succ]
      refine wpAnyH_takes (i := 3) (v := (.pointer (some ⟨w.heap.size, 2, none⟩))) (some 46) rfl rfl (by kernel_rfl) (by kernel_rfl) (by kernel_rfl) (fun _ _ _ h => h) (Or.inl ⟨by rfl, (by intro W9 hSw; have s0 := hSw.1.c0; have s1 := hSw.1.c1; have s2 := hSw.1.c2; have s3 := hSw.1.c3; have s4 := hSw.2; clear hSw; go_simp; first | done | with_reducible rfl)⟩) (by assumption) ?_
      simp only [Act.put, List.setIfInBounds_toArray, List.set_cons_zero, List.set_cons_succ]
      refine wpAnyH_takes (i := 4) (v := (.slice (some ⟨b2, off2, none⟩) 1 1)) (some 47) rfl rfl (by kernel_rfl) (by kernel_rfl) (by kernel_rfl) (fun _ _ _ h => h) (Or.inl ⟨by rfl, (by intro W9 hSw; have s0 := hSw.1.c0; have s1 := hSw.1.c1; have s2 := hSw.1.c2; have s3 := hSw.1.c3; have s4 := hSw.2; clear hSw; go_simp; first | done | with_reducible rfl)⟩) (by assumption) ?_
      simp only [Act.put, List.setIfInBounds_toArray, List.set_cons_zero, List.set_cons_succ]
      refine wpAnyH_takes (i := 5) (v := (.slice (some ⟨b2, off2, none⟩) (1 - 1) (1 - 1))) (some 48) rfl rfl (by kernel_rfl) (by kernel_rfl) (by kernel_rfl) (fun _ _ _ h => h) (Or.inl ⟨by rfl, (by intro W9 hSw; have s0 := hSw.1.c0; have s1 := hSw.1.c1; have s2 := hSw.1.c2; have s3 := hSw.1.c3; have s4 := hSw.2; clear hSw; go_simp; first | done | with_reducible rfl)⟩) (by assumption) ?_
      simp only [Act.put, List.setIfInBounds_toArray, List.set_cons_zero, List.set_cons_succ]
      refine wpAnyH_takes (i := 6) (v := (.pointer (some ⟨w.heap.size, 3, none⟩))) (some 49) rfl rfl (by kernel_rfl) (by kernel_rfl) (by kernel_rfl) (fun _ _ _ h => h) (Or.inl ⟨by rfl, (by intro W9 hSw; have s0 := hSw.1.c0; have s1 := hSw.1.c1; have s2 := hSw.1.c2; have s3 := hSw.1.c3; have s4 := hSw.2; clear hSw; go_simp; first | done | with_reducible rfl)⟩) (by assumption) ?_
      simp only [Act.put, List.setIfInBounds_toArray, List.set_cons_zero, List.set_cons_succ]
      refine wpAnyH_takes (i := 7) (v := (.slice C n3 c3)) (some 50) rfl rfl (by kernel_rfl) (by kernel_rfl) (by kernel_rfl) (fun _ _ _ h => h) (Or.inl ⟨by rfl, (by intro W9 hSw; have s0 := hSw.1.c0; have s1 := hSw.1.c1; have s2 := hSw.1.c2; have s3 := hSw.1.c3; have s4 := hSw.2; clear hSw; go_simp; first | done | with_reducible rfl)⟩) (by assumption) ?_
      simp only [Act.put, List.setIfInBounds_toArray, List.set_cons_zero, List.set_cons_succ]
      refine wpAnyH_takes (i := 8) (v := (.agg #[.int .i64 room, .slice A5 n5 d5, .slice (some ⟨b2, off2, none⟩) (1 - 1) (1 - 1), .slice C n3 c3])) (some 51) rfl rfl (by kernel_rfl) (by kernel_rfl) (by kernel_rfl) (fun _ _ _ h => h) (Or.inl ⟨by rfl, (by intro W9 hSw; have s0 := hSw.1.c0; have s1 := hSw.1.c1; have s2 := hSw.1.c2; have s3 := hSw.1.c3; have s4 := hSw.2; clear hSw; go_simp; first | done | with_reducible rfl)⟩) (by assumption) ?_
      simp only [Act.put, List.setIfInBounds_toArray, List.set_cons_zero, List.set_cons_succ]
      refine wpAnyH_takes (i := 9) (v := (.int .i64 m)) (some 52) rfl rfl (by kernel_rfl) (by kernel_rfl) (by kernel_rfl) (fun _ _ _ h => h) (Or.inl ⟨by rfl, (by intro W9 hSw; have s0 := hSw.1.c0; have s1 := hSw.1.c1; have s2 := hSw.1.c2; have s3 := hSw.1.c3; have s4 := hSw.2; clear hSw; go_simp; first | done | with_reducible rfl)⟩) (by assumption) ?_
      simp only [Act.put, List.setIfInBounds_toArray, List.set_cons_zero, List.set_cons_succ]
      refine wpAnyH_takes (i := 10) (v := (.pointer (some ⟨w.heap.size, 2, none⟩))) (some 53) rfl rfl (by kernel_rfl) (by kernel_rfl) (by kernel_rfl) (fun _ _ _ h => h) (Or.inl ⟨by rfl, (by intro W9 hSw; have s0 := hSw.1.c0; have s1 := hSw.1.c1; have s2 := hSw.1.c2; have s3 := hSw.1.c3; have s4 := hSw.2; clear hSw; go_simp; first | done | with_reducible rfl)⟩) (by assumption) ?_
      simp only [Act.put, List.setIfInBounds_toArray, List.set_cons_zero, List.set_cons_succ]
      refine wpAnyH_takes (i := 11) (v := (.slice (some ⟨b2, off2, none⟩) 1 1)) (some 54) rfl rfl (by kernel_rfl) (by kernel_rfl) (by kernel_rfl) (fun _ _ _ h => h) (Or.inl ⟨by rfl, (by intro W9 hSw; have s0 := hSw.1.c0; have s1 := hSw.1.c1; have s2 := hSw.1.c2; have s3 := hSw.1.c3; have s4 := hSw.2; clear hSw; go_simp; first | done | with_reducible rfl)⟩) (by assumption) ?_
      simp only [Act.put, List.setIfInBounds_toArray, List.set_cons_zero, List.set_cons_succ]
      refine wpAnyH_takes (i := 12) (v := (.pointer (some ⟨b2, off2, none⟩))) (some 55) rfl rfl (by kernel_rfl) (by kernel_rfl) (by kernel_rfl) (fun _ _ _ h => h) (Or.inl ⟨by rfl, (by intro W9 hSw; have s0 := hSw.1.c0; have s1 := hSw.1.c1; have s2 := hSw.1.c2; have s3 := hSw.1.c3; have s4 := hSw.2; clear hSw; go_simp; first | done | with_reducible rfl)⟩) (by assumption) ?_
      simp only [Act.put, List.setIfInBounds_toArray, List.set_cons_zero, List.set_cons_succ]
      refine wpAnyH_takes (i := 13) (v := (.pointer (some ⟨b2, off2, none⟩))) (some 56) rfl rfl (by kernel_rfl) (by kernel_rfl) (by kernel_rfl) (fun _ _ _ h => h) (Or.inl ⟨by rfl, (by intro W9 hSw; have s0 := hSw.1.c0; have s1 := hSw.1.c1; have s2 := hSw.1.c2; have s3 := hSw.1.c3; have s4 := hSw.2; clear hSw; go_simp; first | done | with_reducible rfl)⟩) (by assumption) ?_
      simp only [Act.put, List.setIfInBounds_toArray, List.set_cons_zero, List.set_cons_succ]
      refine wpAnyH_takes (i := 14) (v := (.int .i64 s.1)) (some 57) rfl rfl (by kernel_rfl) (by kernel_rfl) (by kernel_rfl) (fun _ _ _ h => h) (Or.inl ⟨by rfl, (by intro W9 hSw; have s0 := hSw.1.c0; have s1 := hSw.1.c1; have s2 := hSw.1.c2; have s3 := hSw.1.c3; have s4 := hSw.2; clear hSw; go_simp; first | done | with_reducible rfl)⟩) (by assumption) ?_
      simp only [Act.put, List.setIfInBounds_toArray, List.set_cons_zero, List.set_cons_succ]
      have r0 := XV.out.r.c0
      have r1 := XV.out.r.c1
      have r2 := XV.out.r.c2
      have r3 := XV.out.r.c3
      have r4 := XV.out.r.f0
      have r5 := XV.out.r.f1
      have r6 := XV.out.r.f2
      have r7 := XV.out.r.f3
      have k0 : (V.setCell ⟨w.heap.size + 1, 0, none⟩ (.int .i64 room)).cell? ⟨w.heap.size + 1, 0, none⟩ = some (.int .i64 room) := (XV.out.r.set0 _).c0
      have k1 : ((V.setCell ⟨w.heap.size + 1, 0, none⟩ (.int .i64 room)).setCell ⟨w.heap.size + 1, 1, none⟩ (.slice A5 n5 d5)).cell? ⟨w.heap.size + 1, 1, none⟩ = some (.slice A5 n5 d5) := ((XV.out.r.set0 _).set1 _).c1
      have k2 : (((V.setCell ⟨w.heap.size + 1, 0, none⟩ (.int .i64 room)).setCell ⟨w.heap.size + 1, 1, none⟩ (.slice A5 n5 d5)).setCell ⟨w.heap.size + 1, 2, none⟩ (.slice (some ⟨b2, off2, none⟩) (1 - 1) (1 - 1))).cell? ⟨w.heap.size + 1, 2, none⟩ = some (.slice (some ⟨b2, off2, none⟩) (1 - 1) (1 - 1)) := (((XV.out.r.set0 _).set1 _).set2 _).c2
      have k3 := (XV.out.r.put (.int .i64 room) (.slice A5 n5 d5) (.slice (some ⟨b2, off2, none⟩) (1 - 1) (1 - 1)) (.slice C n3 c3)).c3
      have hbe := put4_below (x := .int .i64 room) (y := .slice A5 n5 d5) (z := .slice (some ⟨b2, off2, none⟩) (1 - 1) (1 - 1)) (u := .slice C n3 c3) XV.out.below (show w.heap.size ≤ w.heap.size + 1 by omega)
      have HM := Lib.hid (tellR (b := ⟨room, ms ++ [s.2], ss, recv⟩) (HR5.out.put4 (x := .int .i64 room) (y := .slice A5 n5 d5) (z := .slice (some ⟨b2, off2, none⟩) (1 - 1) (1 - 1)) (u := .slice C n3 c3) (HF5.out.mono (by omega : w.heap.size + 1 + 1 ≤ w.heap.size + 2))) (HUx.out.below hbe) (H.out.r.below hbe) hbe)
      refine wpAnyH_ready (rs := [15]) (by kernel_rfl) (by simp) ?_
      refine AllReadyH.cons rfl (fun K hK => ?_) AllReadyH.nil
      go_simp
      refine hK.out _ _ ⟨XV.out.p.off (by omega) _ _ _ _, keepcell hbe HCC.out⟩ (fun hHeld => ?_)
      clear hK K r0 r1 r2 r3 r4 r5 r6 r7 hbe
      try dsimp only
      refine wpAnyH_takes (i := 16) (v := (.int .i64 m)) (some 5) rfl rfl (by kernel_rfl) (by kernel_rfl) (by kernel_rfl) (fun _ _ _ h => h) (Or.inl ⟨by rfl, (by intro W9 hSw; have s0 := hSw.1.c0; have s1 := hSw.1.c1; have s2 := hSw.1.c2; have s3 := hSw.1.c3; have s4 := hSw.2; clear hSw; go_simp; first | done | with_reducible rfl)⟩) (by assumption) ?_
      simp only [Act.put, List.setIfInBounds_toArray, List.set_cons_zero, List.set_cons_succ]
      refine wpAnyH_takes (i := 17) (v := (.int .i64 s.1)) (some 6) rfl rfl (by kernel_rfl) (by kernel_rfl) (by kernel_rfl) (fun _ _ _ h => h) (Or.inl ⟨by rfl, (by intro W9 hSw; have s0 := hSw.1.c0; have s1 := hSw.1.c1; have s2 := hSw.1.c2; have s3 := hSw.1.c3; have s4 := hSw.2; clear hSw; go_simp; first | done | with_reducible rfl)⟩) (by assumption) ?_
      simp only [Act.put, List.setIfInBounds_toArray, List.set_cons_zero, List.set_cons_succ]
      refine wpAnyH_takes (i := 18) (v := (.bool true)) (some 7) rfl rfl (by kernel_rfl) (by kernel_rfl) (by kernel_rfl) (fun _ _ _ h => h) (Or.inl ⟨by rfl, (by intro W9 hSw; have s0 := hSw.1.c0; have s1 := hSw.1.c1; have s2 := hSw.1.c2; have s3 := hSw.1.c3; have s4 := hSw.2; clear hSw; go_simp; first | done | with_reducible rfl)⟩) (by assumption) ?_
      simp only [Act.put, List.setIfInBounds_toArray, List.set_cons_zero, List.set_cons_succ]
      refine wpAnyH_done (by kernel_rfl) ?_ _
      clear hHeld XV HR5 HF5
      go_wp2_with fail
      refine bodyPost_ret (v := .tuple #[.agg #[.int .i64 room, .slice A5 n5 d5, .slice (some ⟨b2, off2, none⟩) (1 - 1) (1 - 1), .slice C n3 c3], .int .i64 m, .int .i64 s.1, .bool true]) ?_ rfl ?_
      · simp [results, Try.results16, go_sem, k0, k1, k2, k3]
      exact ⟨_, rfl, HM.out⟩
    · have HUx : Hid (PR w (some ⟨b2, off2 + 2, none⟩) (n2 - 1) (c2 - 1) ss) := Lib.hid (by have := HU.out; rw [if_neg hc] at this; exact this)
      clear HU
      go_wp2_with fail
      have XV := Lib.hid HX5.out.drew
      refine wp_region_held_drew (S := fun W => Q4 W w.heap.size (.int .i64 room) (.slice (some ⟨b, off, none⟩) n1 c1) (.slice (some ⟨b2, off2, none⟩) n2 c2) (.slice C n3 c3) ∧ W.cell? ⟨b2, off2, none⟩ = some (.int .i64 s.1)) (by kernel_rfl) ⟨HX5.out.p.drew, keepcell HX5.out.drew.below HCC.out⟩ (fun hHeld => ?_)
      have HR5 := Lib.hid HR5.out.drew
      clear HX5
      generalize wc.drew = V at *
      refine wpAnyH_takes (i := 0) (v := (.pointer (some ⟨w.heap.size, 0, none⟩))) (some 43) rfl rfl (by kernel_rfl) (by kernel_rfl) (by kernel_rfl) (fun _ _ _ h => h) (Or.inl ⟨by rfl, (by intro W9 hSw; have s0 := hSw.1.c0; have s1 := hSw.1.c1; have s2 := hSw.1.c2; have s3 := hSw.1.c3; have s4 := hSw.2; clear hSw; go_simp; first | done | with_reducible rfl)⟩) (by assumption) ?_
      simp only [Act.put, List.setIfInBounds_toArray, List.set_cons_zero, List.set_cons_succ]
      refine wpAnyH_takes (i := 1) (v := (.int .i64 room)) (some 44) rfl rfl (by kernel_rfl) (by kernel_rfl) (by kernel_rfl) (fun _ _ _ h => h) (Or.inl ⟨by rfl, (by intro W9 hSw; have s0 := hSw.1.c0; have s1 := hSw.1.c1; have s2 := hSw.1.c2; have s3 := hSw.1.c3; have s4 := hSw.2; clear hSw; go_simp; first | done | with_reducible rfl)⟩) (by assumption) ?_
      simp only [Act.put, List.setIfInBounds_toArray, List.set_cons_zero, List.set_cons_succ]
      refine wpAnyH_takes (i := 2) (v := (.slice A5 n5 d5)) (some 45) rfl rfl (by kernel_rfl) (by kernel_rfl) (by kernel_rfl) (fun _ _ _ h => h) (Or.inl ⟨by rfl, (by intro W9 hSw; have s0 := hSw.1.c0; have s1 := hSw.1.c1; have s2 := hSw.1.c2; have s3 := hSw.1.c3; have s4 := hSw.2; clear hSw; go_simp; first | done | with_reducible rfl)⟩) (by assumption) ?_
      simp only [Act.put, List.setIfInBounds_toArray, List.set_cons_zero, List.set_cons_succ]
      refine wpAnyH_takes (i := 3) (v := (.pointer (some ⟨w.heap.size, 2, none⟩))) (some 46) rfl rfl (by kernel_rfl) (by kernel_rfl) (by kernel_rfl) (fun _ _ _ h => h) (Or.inl ⟨by rfl, (by intro W9 hSw; have s0 := hSw.1.c0; have s1 := hSw.1.c1; have s2 := hSw.1.c2; have s3 := hSw.1.c3; have s4 := hSw.2; clear hSw; go_simp; first | done | with_reducible rfl)⟩) (by assumption) ?_
      simp only [Act.put, List.setIfInBounds_toArray, List.set_cons_zero, List.set_cons_succ]
      refine wpAnyH_takes (i := 4) (v := (.slice (some ⟨b2, off2, none⟩) n2 c2)) (some 47) rfl rfl (by kernel_rfl) (by kernel_rfl) (by kernel_rfl) (fun _ _ _ h => h) (Or.inl ⟨by rfl, (by intro W9 hSw; have s0 := hSw.1.c0; have s1 := hSw.1.c1; have s2 := hSw.1.c2; have s3 := hSw.1.c3; have s4 := hSw.2; clear hSw; go_simp; first | done | with_reducible rfl)⟩) (by assumption) ?_
      simp only [Act.put, List.setIfInBounds_toArray, List.set_cons_zero, List.set_cons_succ]
      refine wpAnyH_takes (i := 5) (v := (.slice (some ⟨b2, off2 + 2, none⟩) (n2 - 1) (c2 - 1))) (some 48) rfl rfl (by kernel_rfl) (by kernel_rfl) (by kernel_rfl) (fun _ _ _ h => h) (Or.inl ⟨by rfl, (by intro W9 hSw; have s0 := hSw.1.c0; have s1 := hSw.1.c1; have s2 := hSw.1.c2; have s3 := hSw.1.c3; have s4 := hSw.2; clear hSw; go_simp; first | done | with_reducible rfl)⟩) (by assumption) ?_
      simp only [Act.put, List.setIfInBounds_toArray, List.set_cons_zero, List.set_cons_succ]
      refine wpAnyH_takes (i := 6) (v := (.pointer (some ⟨w.heap.size, 3, none⟩))) (some 49) rfl rfl (by kernel_rfl) (by kernel_rfl) (by kernel_rfl) (fun _ _ _ h => h) (Or.inl ⟨by rfl, (by intro W9 hSw; have s0 := hSw.1.c0; have s1 := hSw.1.c1; have s2 := hSw.1.c2; have s3 := hSw.1.c3; have s4 := hSw.2; clear hSw; go_simp; first | done | with_reducible rfl)⟩) (by assumption) ?_
      simp only [Act.put, List.setIfInBounds_toArray, List.set_cons_zero, List.set_cons_succ]
      refine wpAnyH_takes (i := 7) (v := (.slice C n3 c3)) (some 50) rfl rfl (by kernel_rfl) (by kernel_rfl) (by kernel_rfl) (fun _ _ _ h => h) (Or.inl ⟨by rfl, (by intro W9 hSw; have s0 := hSw.1.c0; have s1 := hSw.1.c1; have s2 := hSw.1.c2; have s3 := hSw.1.c3; have s4 := hSw.2; clear hSw; go_simp; first | done | with_reducible rfl)⟩) (by assumption) ?_
      simp only [Act.put, List.setIfInBounds_toArray, List.set_cons_zero, List.set_cons_succ]
      refine wpAnyH_takes (i := 8) (v := (.agg #[.int .i64 room, .slice A5 n5 d5, .slice (some ⟨b2, off2 + 2, none⟩) (n2 - 1) (c2 - 1), .slice C n3 c3])) (some 51) rfl rfl (by kernel_rfl) (by kernel_rfl) (by kernel_rfl) (fun _ _ _ h => h) (Or.inl ⟨by rfl, (by intro W9 hSw; have s0 := hSw.1.c0; have s1 := hSw.1.c1; have s2 := hSw.1.c2; have s3 := hSw.1.c3; have s4 := hSw.2; clear hSw; go_simp; first | done | with_reducible rfl)⟩) (by assumption) ?_
      simp only [Act.put, List.setIfInBounds_toArray, List.set_cons_zero, List.set_cons_succ]
      refine wpAnyH_takes (i := 9) (v := (.int .i64 m)) (some 52) rfl rfl (by kernel_rfl) (by kernel_rfl) (by kernel_rfl) (fun _ _ _ h => h) (Or.inl ⟨by rfl, (by intro W9 hSw; have s0 := hSw.1.c0; have s1 := hSw.1.c1; have s2 := hSw.1.c2; have s3 := hSw.1.c3; have s4 := hSw.2; clear hSw; go_simp; first | done | with_reducible rfl)⟩) (by assumption) ?_
      simp only [Act.put, List.setIfInBounds_toArray, List.set_cons_zero, List.set_cons_succ]
      refine wpAnyH_takes (i := 10) (v := (.pointer (some ⟨w.heap.size, 2, none⟩))) (some 53) rfl rfl (by kernel_rfl) (by kernel_rfl) (by kernel_rfl) (fun _ _ _ h => h) (Or.inl ⟨by rfl, (by intro W9 hSw; have s0 := hSw.1.c0; have s1 := hSw.1.c1; have s2 := hSw.1.c2; have s3 := hSw.1.c3; have s4 := hSw.2; clear hSw; go_simp; first | done | with_reducible rfl)⟩) (by assumption) ?_
      simp only [Act.put, List.setIfInBounds_toArray, List.set_cons_zero, List.set_cons_succ]
      refine wpAnyH_takes (i := 11) (v := (.slice (some ⟨b2, off2, none⟩) n2 c2)) (some 54) rfl rfl (by kernel_rfl) (by kernel_rfl) (by kernel_rfl) (fun _ _ _ h => h) (Or.inl ⟨by rfl, (by intro W9 hSw; have s0 := hSw.1.c0; have s1 := hSw.1.c1; have s2 := hSw.1.c2; have s3 := hSw.1.c3; have s4 := hSw.2; clear hSw; go_simp; first | done | with_reducible rfl)⟩) (by assumption) ?_
      simp only [Act.put, List.setIfInBounds_toArray, List.set_cons_zero, List.set_cons_succ]
      refine wpAnyH_takes (i := 12) (v := (.pointer (some ⟨b2, off2, none⟩))) (some 55) rfl rfl (by kernel_rfl) (by kernel_rfl) (by kernel_rfl) (fun _ _ _ h => h) (Or.inl ⟨by rfl, (by intro W9 hSw; have s0 := hSw.1.c0; have s1 := hSw.1.c1; have s2 := hSw.1.c2; have s3 := hSw.1.c3; have s4 := hSw.2; clear hSw; go_simp; first | done | with_reducible rfl)⟩) (by assumption) ?_
      simp only [Act.put, List.setIfInBounds_toArray, List.set_cons_zero, List.set_cons_succ]
      refine wpAnyH_takes (i := 13) (v := (.pointer (some ⟨b2, off2, none⟩))) (some 56) rfl rfl (by kernel_rfl) (by kernel_rfl) (by kernel_rfl) (fun _ _ _ h => h) (Or.inl ⟨by rfl, (by intro W9 hSw; have s0 := hSw.1.c0; have s1 := hSw.1.c1; have s2 := hSw.1.c2; have s3 := hSw.1.c3; have s4 := hSw.2; clear hSw; go_simp; first | done | with_reducible rfl)⟩) (by assumption) ?_
      simp only [Act.put, List.setIfInBounds_toArray, List.set_cons_zero, List.set_cons_succ]
      refine wpAnyH_takes (i := 14) (v := (.int .i64 s.1)) (some 57) rfl rfl (by kernel_rfl) (by kernel_rfl) (by kernel_rfl) (fun _ _ _ h => h) (Or.inl ⟨by rfl, (by intro W9 hSw; have s0 := hSw.1.c0; have s1 := hSw.1.c1; have s2 := hSw.1.c2; have s3 := hSw.1.c3; have s4 := hSw.2; clear hSw; go_simp; first | done | with_reducible rfl)⟩) (by assumption) ?_
      simp only [Act.put, List.setIfInBounds_toArray, List.set_cons_zero, List.set_cons_succ]
      have r0 := XV.out.r.c0
      have r1 := XV.out.r.c1
      have r2 := XV.out.r.c2
      have r3 := XV.out.r.c3
      have r4 := XV.out.r.f0
      have r5 := XV.out.r.f1
      have r6 := XV.out.r.f2
      have r7 := XV.out.r.f3
      have k0 : (V.setCell ⟨w.heap.size + 1, 0, none⟩ (.int .i64 room)).cell? ⟨w.heap.size + 1, 0, none⟩ = some (.int .i64 room) := (XV.out.r.set0 _).c0
      have k1 : ((V.setCell ⟨w.heap.size + 1, 0, none⟩ (.int .i64 room)).setCell ⟨w.heap.size + 1, 1, none⟩ (.slice A5 n5 d5)).cell? ⟨w.heap.size + 1, 1, none⟩ = some (.slice A5 n5 d5) := ((XV.out.r.set0 _).set1 _).c1
      have k2 : (((V.setCell ⟨w.heap.size + 1, 0, none⟩ (.int .i64 room)).setCell ⟨w.heap.size + 1, 1, none⟩ (.slice A5 n5 d5)).setCell ⟨w.heap.size + 1, 2, none⟩ (.slice (some ⟨b2, off2 + 2, none⟩) (n2 - 1) (c2 - 1))).cell? ⟨w.heap.size + 1, 2, none⟩ = some (.slice (some ⟨b2, off2 + 2, none⟩) (n2 - 1) (c2 - 1)) := (((XV.out.r.set0 _).set1 _).set2 _).c2
      have k3 := (XV.out.r.put (.int .i64 room) (.slice A5 n5 d5) (.slice (some ⟨b2, off2 + 2, none⟩) (n2 - 1) (c2 - 1)) (.slice C n3 c3)).c3
      have hbe := put4_below (x := .int .i64 room) (y := .slice A5 n5 d5) (z := .slice (some ⟨b2, off2 + 2, none⟩) (n2 - 1) (c2 - 1)) (u := .slice C n3 c3) XV.out.below (show w.heap.size ≤ w.heap.size + 1 by omega)
      have HM := Lib.hid (tellR (b := ⟨room, ms ++ [s.2], ss, recv⟩) (HR5.out.put4 (x := .int .i64 room) (y := .slice A5 n5 d5) (z := .slice (some ⟨b2, off2 + 2, none⟩) (n2 - 1) (c2 - 1)) (u := .slice C n3 c3) (HF5.out.mono (by omega : w.heap.size + 1 + 1 ≤ w.heap.size + 2))) (HUx.out.below hbe) (H.out.r.below hbe) hbe)
      refine wpAnyH_ready (rs := [15]) (by kernel_rfl) (by simp) ?_
      refine AllReadyH.cons rfl (fun K hK => ?_) AllReadyH.nil
      go_simp
      refine hK.out _ _ ⟨XV.out.p.off (by omega) _ _ _ _, keepcell hbe HCC.out⟩ (fun hHeld => ?_)
      clear hK K r0 r1 r2 r3 r4 r5 r6 r7 hbe
      try dsimp only
      refine wpAnyH_takes (i := 16) (v := (.int .i64 m)) (some 5) rfl rfl (by kernel_rfl) (by kernel_rfl) (by kernel_rfl) (fun _ _ _ h => h) (Or.inl ⟨by rfl, (by intro W9 hSw; have s0 := hSw.1.c0; have s1 := hSw.1.c1; have s2 := hSw.1.c2; have s3 := hSw.1.c3; have s4 := hSw.2; clear hSw; go_simp; first | done | with_reducible rfl)⟩) (by assumption) ?_
      simp only [Act.put, List.setIfInBounds_toArray, List.set_cons_zero, List.set_cons_succ]
      refine wpAnyH_takes (i := 17) (v := (.int .i64 s.1)) (some 6) rfl rfl (by kernel_rfl) (by kernel_rfl) (by kernel_rfl) (fun _ _ _ h => h) (Or.inl ⟨by rfl, (by intro W9 hSw; have s0 := hSw.1.c0; have s1 := hSw.1.c1; have s2 := hSw.1.c2; have s3 := hSw.1.c3; have s4 := hSw.2; clear hSw; go_simp; first | done | with_reducible rfl)⟩) (by assumption) ?_
      simp only [Act.put, List.setIfInBounds_toArray, List.set_cons_zero, List.set_cons_succ]
      refine wpAnyH_takes (i := 18) (v := (.bool true)) (some 7) rfl rfl (by kernel_rfl) (by kernel_rfl) (by kernel_rfl) (fun _ _ _ h => h) (Or.inl ⟨by rfl, (by intro W9 hSw; have s0 := hSw.1.c0; have s1 := hSw.1.c1; have s2 := hSw.1.c2; have s3 := hSw.1.c3; have s4 := hSw.2; clear hSw; go_simp; first | done | with_reducible rfl)⟩) (by assumption) ?_
      simp only [Act.put, List.setIfInBounds_toArray, List.set_cons_zero, List.set_cons_succ]
      refine wpAnyH_done (by kernel_rfl) ?_ _
      clear hHeld XV HR5 HF5
      go_wp2_with fail
      refine bodyPost_ret (v := .tuple #[.agg #[.int .i64 room, .slice A5 n5 d5, .slice (some ⟨b2, off2 + 2, none⟩) (n2 - 1) (c2 - 1), .slice C n3 c3], .int .i64 m, .int .i64 s.1, .bool true]) ?_ rfl ?_
      · simp [results, Try.results16, go_sem, k0, k1, k2, k3]
      exact ⟨_, rfl, HM.out⟩
/-- Whatever is received. -/
theorem refRecv_any (b : Bo) (A B C : Option Addr) (n1 n2 n3 c1 c2 c3 : Nat) (g : Int) (w : World) (h : Tri w A n1 c1 B n2 c2 C n3 c3 b) (h1 : n1 ≤ 200) (h3 : n3 ≤ 200) :
    Calls Try.prog 16 #[.agg #[.int .i64 b.room, .slice A n1 c1, .slice B n2 c2, .slice C n3 c3], .int .i64 g] w (RRecvE w (Mp.rcv b g)) := by
  obtain ⟨room, msgs, send, recv⟩ := b
  cases msgs with
  | nil => cases send with
    | nil => exact refRecv_none room recv A B C n1 n2 n3 c1 c2 c3 g w h (by omega)
    | cons s ss => exact refRecv_send room s ss recv A B C n1 n2 n3 c1 c2 c3 g w h
  | cons m ms => cases send with
    | nil => exact refRecv_msgs room m ms recv A B C n1 n2 n3 c1 c2 c3 g w h
    | cons s ss => exact refRecv_both room m ms s ss recv A B C n1 n2 n3 c1 c2 c3 g w h h1
end Go.Proofs.Ytjpnfjiccckaiaa

