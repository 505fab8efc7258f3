/- The document's Recv, by its contract: appends in whatever order. -/
import Derived.Test.YtjpnfjiccckaiaaORefRecv
namespace Go.Proofs.Ytjpnfjiccckaiaa
open Go.RowKit
open Mp (Bo)
set_option linter.unusedVariables false

set_option maxHeartbeats 3200000 in
theorem refRecv_none (room : Int) (recv : List Int) (A B C : Option Addr) (n1 n2 n3 c1 c2 c3 : Nat) (g : Int) (w : World) (h : Tri w A n1 c1 B n2 c2 C n3 c3 ⟨room, [], [], recv⟩) (h3 : n3 ≤ 100000) :
    Calls Try.prog 16 #[.agg #[.int .i64 room, .slice A n1 c1, .slice B n2 c2, .slice C n3 c3], .int .i64 g] w (RRecvE w (⟨room, [], [], recv ++ [g]⟩, 0, 0, false)) := by
  obtain ⟨W0, hW0, hX0⟩ := A4.start w (.int .i64 room) (.slice A n1 c1) (.slice B n2 c2) (.slice C n3 c3) (.int .i64 0) (.slice none 0 0) (.slice none 0 0) (.slice none 0 0) 26 26
  have p0 := hX0.p.c0
  have p1 := hX0.p.c1
  have p2 := hX0.p.c2
  have p3 := hX0.p.c3
  have r0 := hX0.r.c0
  have r1 := hX0.r.c1
  have r2 := hX0.r.c2
  have r3 := hX0.r.c3
  have r4 := hX0.r.f0
  have r5 := hX0.r.f1
  have r6 := hX0.r.f2
  have r7 := hX0.r.f3
  have hl1 := h.m.len
  have hl2 := h.s.len
  have hl3 := h.r.len
  have X0 := Lib.hid hX0
  have H := Lib.hid h
  have E0 := Lib.hid hW0
  clear hX0 hW0 h
  have n0 : ¬ (0 : Int) < (n1 : Int) := by simp at hl1; omega
  have n0' : decide ((0 : Int) < (n1 : Int)) = false := by simpa using n0
  have n5 : ¬ (0 : Int) < (n2 : Int) := by simp at hl2; omega
  have n5' : decide ((0 : Int) < (n2 : Int)) = false := by simpa using n5
  clear hl1 hl2 hl3
  go_enter Try.func16, Try.ntmps16
  go_wp2_with fail
  rw [← E0.out]
  clear E0
  have XV := Lib.hid X0.out.drew
  refine wp_region_held_drew (S := fun W => Q4 W w.heap.size (.int .i64 room) (.slice A n1 c1) (.slice B n2 c2) (.slice C n3 c3)) (by kernel_rfl) X0.out.p.drew (fun hHeld => ?_)
  clear X0
  generalize W0.drew = V at *
  refine wpAnyH_takes (i := 0) (v := (.pointer (some ⟨w.heap.size, 0, none⟩))) (some 80) rfl rfl (by kernel_rfl) (by kernel_rfl) (by kernel_rfl) (fun _ _ _ h => h) (Or.inl ⟨by rfl, (by intro W9 hSw; have s0 := hSw.c0; have s1 := hSw.c1; have s2 := hSw.c2; have s3 := hSw.c3; clear hSw; go_simp; first | done | with_reducible rfl)⟩) (by assumption) ?_
  simp only [Act.put, List.setIfInBounds_toArray, List.set_cons_zero, List.set_cons_succ]
  refine wpAnyH_takes (i := 1) (v := (.int .i64 room)) (some 81) rfl rfl (by kernel_rfl) (by kernel_rfl) (by kernel_rfl) (fun _ _ _ h => h) (Or.inl ⟨by rfl, (by intro W9 hSw; have s0 := hSw.c0; have s1 := hSw.c1; have s2 := hSw.c2; have s3 := hSw.c3; clear hSw; go_simp; first | done | with_reducible rfl)⟩) (by assumption) ?_
  simp only [Act.put, List.setIfInBounds_toArray, List.set_cons_zero, List.set_cons_succ]
  refine wpAnyH_takes (i := 3) (v := (.pointer (some ⟨w.heap.size, 3, none⟩))) (some 83) rfl rfl (by kernel_rfl) (by kernel_rfl) (by kernel_rfl) (fun _ _ _ h => h) (Or.inl ⟨by rfl, (by intro W9 hSw; have s0 := hSw.c0; have s1 := hSw.c1; have s2 := hSw.c2; have s3 := hSw.c3; clear hSw; go_simp; first | done | with_reducible rfl)⟩) (by assumption) ?_
  simp only [Act.put, List.setIfInBounds_toArray, List.set_cons_zero, List.set_cons_succ]
  refine wpAnyH_takes (i := 4) (v := (.slice C n3 c3)) (some 84) rfl rfl (by kernel_rfl) (by kernel_rfl) (by kernel_rfl) (fun _ _ _ h => h) (Or.inl ⟨by rfl, (by intro W9 hSw; have s0 := hSw.c0; have s1 := hSw.c1; have s2 := hSw.c2; have s3 := hSw.c3; clear hSw; go_simp; first | done | with_reducible rfl)⟩) (by assumption) ?_
  simp only [Act.put, List.setIfInBounds_toArray, List.set_cons_zero, List.set_cons_succ]
  refine wpAnyH_takes (i := 6) (v := (.int .i64 g)) (some 86) rfl rfl (by kernel_rfl) (by kernel_rfl) (by kernel_rfl) (fun _ _ _ h => h) (Or.inl ⟨by rfl, (by intro W9 hSw; have s0 := hSw.c0; have s1 := hSw.c1; have s2 := hSw.c2; have s3 := hSw.c3; clear hSw; go_simp; first | done | with_reducible rfl)⟩) (by assumption) ?_
  simp only [Act.put, List.setIfInBounds_toArray, List.set_cons_zero, List.set_cons_succ]
  refine wpAnyH_ready (rs := [2, 7]) (by kernel_rfl) (by simp) ?_
  refine AllReadyH.cons rfl (fun K hK => ?_) (AllReadyH.cons rfl (fun K hK => ?_) AllReadyH.nil)
  · skip
    have XE := Lib.hid (XV.out.step (below_new V (.cells #[] 3)))
    go_simp
    refine hK.out _ _ XE.out.p (fun hHeld => ?_)
    clear hK K
    try dsimp only
    have Y1 := Lib.hid (show w.heap.size + 2 ≤ V.heap.size from XV.out.size)
    have ZE := Lib.hid (hsz (W := V) (.cells #[] 3))
    have BE := Lib.hid (below_new V (.cells #[] 3))
    generalize V.alloc (.cells #[] 3) = VE at *
    refine wpAnyH_ready (rs := [5, 7]) (by kernel_rfl) (by simp) ?_
    refine AllReadyH.cons rfl (fun K hK => ?_) (AllReadyH.cons rfl (fun K hK => ?_) AllReadyH.nil)
    · skip
      refine step_append_own2 (by rfl) (.tmp 82) (.tmp 84) (by rfl) (w.heap.size + 2) _ 0 [] (by rfl) (.inr ⟨_, rfl, rfl, rfl, (by simp only; exact Y1.out)⟩) C n3 c3 recv (by rfl) (H.out.r.below XE.out.below) (by omega) (by have := XE.out.size; omega) ?_
      intro v1 w1 ho1 hg1
      rw [Nat.zero_add, List.nil_append] at ho1
      obtain ⟨A1, q1, rfl, hr1, hf1⟩ := Own2.row ho1
      have O1 := Lib.hid ho1
      have X1 := Lib.hid (XE.out.grown hg1 (fun k hk => by simp [Value.ownBlock] at hk; have := Y1.out; omega))
      refine hK.out _ _ X1.out.p (fun hHeld => ?_)
      clear hK K ho1 hr1
      try dsimp only
      refine wpAnyH_ready (rs := [7]) (by kernel_rfl) (by simp) ?_
      refine AllReadyH.cons rfl (fun K hK => ?_) AllReadyH.nil
      have XG := Lib.hid (X1.out.step (below_new w1 (.cells #[.int .i64 g] 3)))
      go_simp
      refine hK.out _ _ XG.out.p (fun hHeld => ?_)
      clear hK K
      try dsimp only
      have ZG := Lib.hid (hsz (W := w1) (.cells #[.int .i64 g] 3))
      have BG := Lib.hid (below_new w1 (.cells #[.int .i64 g] 3))
      have GG := Lib.hid (row_at w1 g _ rfl)
      generalize w1.alloc (.cells #[.int .i64 g] 3) = VG at *
      refine wpAnyH_ready (rs := [8]) (by kernel_rfl) (by simp) ?_
      refine AllReadyH.cons rfl (fun K hK => ?_) AllReadyH.nil
      refine step_append_own2 (by rfl) (.tmp 85) (.tmp 87) (by rfl) (w.heap.size + 2) (.slice A1 (n3) q1) (n3) recv (by rfl) (O1.out.step BG.out) _ 1 1 [g] (by rfl) GG.out (by omega) (by have := XG.out.size; omega) ?_
      intro v2 w2 ho2 hg2
      obtain ⟨A2, q2, rfl, hr2, hf2⟩ := Own2.row ho2
      have X2 := XG.out.grown hg2 (own_from hf1)
      refine hK.out _ _ X2.p (fun hHeld => ?_)
      clear hK K
      try dsimp only
      have b4 := X2.r.c0
      have b5 := X2.r.c1
      have b6 := X2.r.c2
      have b7 := X2.r.c3
      have b8 := X2.r.f0
      have b9 := X2.r.f1
      have b10 := X2.r.f2
      have b11 := X2.r.f3
      clear r0 r1 r2 r3 r4 r5 r6 r7 p0 p1 p2 p3
      have k0 : (w2.setCell ⟨w.heap.size + 1, 0, none⟩ (.int .i64 room)).cell? ⟨w.heap.size + 1, 0, none⟩ = some (.int .i64 room) := (X2.r.set0 _).c0
      have k1 : ((w2.setCell ⟨w.heap.size + 1, 0, none⟩ (.int .i64 room)).setCell ⟨w.heap.size + 1, 1, none⟩ (.slice none 0 0)).cell? ⟨w.heap.size + 1, 1, none⟩ = some (.slice none 0 0) := ((X2.r.set0 _).set1 _).c1
      have k2 : (((w2.setCell ⟨w.heap.size + 1, 0, none⟩ (.int .i64 room)).setCell ⟨w.heap.size + 1, 1, none⟩ (.slice none 0 0)).setCell ⟨w.heap.size + 1, 2, none⟩ (.slice none 0 0)).cell? ⟨w.heap.size + 1, 2, none⟩ = some (.slice none 0 0) := (((X2.r.set0 _).set1 _).set2 _).c2
      have k3 := (X2.r.put (.int .i64 room) (.slice none 0 0) (.slice none 0 0) (.slice A2 (n3 + 1) q2)).c3
      have hbe := put4_below (x := .int .i64 room) (y := (.slice none 0 0)) (z := (.slice none 0 0)) (u := (.slice A2 (n3 + 1) q2)) X2.below (show w.heap.size ≤ w.heap.size + 1 by omega)
      have HM := Lib.hid (tellR (b := ⟨room, [], [], recv ++ [g]⟩) (Row.nothing _) (PR.nothing _) (hr2.put4 (x := .int .i64 room) (y := .slice none 0 0) (z := .slice none 0 0) (u := .slice A2 (n3 + 1) q2) (hf2.mono (by omega : w.heap.size + 1 + 1 ≤ w.heap.size + 2))) hbe)
      refine wpAnyH_takes (i := 9) (v := (.agg #[.int .i64 room, .slice none 0 0, .slice none 0 0, .slice A2 (n3 + 1) q2])) (some 89) rfl rfl (by kernel_rfl) (by kernel_rfl) (by kernel_rfl) (fun _ _ _ h => h) (Or.inl ⟨by rfl, (by intro W9 hSw; have s0 := hSw.c0; have s1 := hSw.c1; have s2 := hSw.c2; have s3 := hSw.c3; clear hSw; go_simp; first | done | with_reducible rfl)⟩) (by assumption) ?_
      simp only [Act.put, List.setIfInBounds_toArray]
      refine wpAnyH_ready (rs := [10]) (by kernel_rfl) (by simp) ?_
      refine AllReadyH.cons rfl (fun K hK => ?_) AllReadyH.nil
      go_simp
      refine hK.out _ _ (X2.p.off (by omega) _ _ _ _) (fun hHeld => ?_)
      clear hK K
      try dsimp only
      refine wpAnyH_takes (i := 11) (v := (.int .i64 0)) (some 5) rfl rfl (by kernel_rfl) (by kernel_rfl) (by kernel_rfl) (fun _ _ _ h => h) (Or.inl ⟨by rfl, (by intro W9 hSw; have s0 := hSw.c0; have s1 := hSw.c1; have s2 := hSw.c2; have s3 := hSw.c3; clear hSw; go_simp; first | done | with_reducible rfl)⟩) (by assumption) ?_
      simp only [Act.put, List.setIfInBounds_toArray, List.set_cons_zero, List.set_cons_succ]
      refine wpAnyH_takes (i := 12) (v := (.int .i64 0)) (some 6) rfl rfl (by kernel_rfl) (by kernel_rfl) (by kernel_rfl) (fun _ _ _ h => h) (Or.inl ⟨by rfl, (by intro W9 hSw; have s0 := hSw.c0; have s1 := hSw.c1; have s2 := hSw.c2; have s3 := hSw.c3; clear hSw; go_simp; first | done | with_reducible rfl)⟩) (by assumption) ?_
      simp only [Act.put, List.setIfInBounds_toArray, List.set_cons_zero, List.set_cons_succ]
      refine wpAnyH_takes (i := 13) (v := (.bool false)) (some 7) rfl rfl (by kernel_rfl) (by kernel_rfl) (by kernel_rfl) (fun _ _ _ h => h) (Or.inl ⟨by rfl, (by intro W9 hSw; have s0 := hSw.c0; have s1 := hSw.c1; have s2 := hSw.c2; have s3 := hSw.c3; clear hSw; go_simp; first | done | with_reducible rfl)⟩) (by assumption) ?_
      simp only [Act.put, List.setIfInBounds_toArray, List.set_cons_zero, List.set_cons_succ]
      refine wpAnyH_done (by kernel_rfl) ?_ _
      clear hbe b4 b5 b6 b7 b8 b9 b10 b11 hr2 hf2 hg2 ho2 X2 hHeld
      go_wp2_with fail
      refine bodyPost_ret (v := (.tuple #[.agg #[.int .i64 room, .slice none 0 0, .slice none 0 0, .slice A2 (n3 + 1) q2], .int .i64 0, .int .i64 0, .bool false])) ?_ rfl ?_
      · simp [results, Try.results16, go_sem, k0, k1, k2, k3]
      exact ⟨_, rfl, HM.out⟩
    · skip
      have XG := Lib.hid (XE.out.step (below_new VE (.cells #[.int .i64 g] 3)))
      go_simp
      refine hK.out _ _ XG.out.p (fun hHeld => ?_)
      clear hK K
      try dsimp only
      have ZG := Lib.hid (hsz (W := VE) (.cells #[.int .i64 g] 3))
      have BG := Lib.hid (below_new VE (.cells #[.int .i64 g] 3))
      have GG := Lib.hid (row_at VE g _ rfl)
      generalize VE.alloc (.cells #[.int .i64 g] 3) = VG at *
      refine wpAnyH_ready (rs := [5]) (by kernel_rfl) (by simp) ?_
      refine AllReadyH.cons rfl (fun K hK => ?_) AllReadyH.nil
      refine step_append_own2 (by rfl) (.tmp 82) (.tmp 84) (by rfl) (w.heap.size + 2) _ 0 [] (by rfl) (.inr ⟨_, rfl, rfl, rfl, (by simp only; exact Y1.out)⟩) C n3 c3 recv (by rfl) (H.out.r.below XG.out.below) (by omega) (by have := XG.out.size; omega) ?_
      intro v1 w1 ho1 hg1
      rw [Nat.zero_add, List.nil_append] at ho1
      obtain ⟨A1, q1, rfl, hr1, hf1⟩ := Own2.row ho1
      have O1 := Lib.hid ho1
      have X1 := Lib.hid (XG.out.grown hg1 (fun k hk => by simp [Value.ownBlock] at hk; have := Y1.out; omega))
      refine hK.out _ _ X1.out.p (fun hHeld => ?_)
      clear hK K ho1 hr1
      try dsimp only
      have G1 := Lib.hid (GG.out.grown hg1 (by intro ad e; injection e with e; subst e; simp [Value.ownBlock]; have := ZE.out; omega))
      refine wpAnyH_ready (rs := [8]) (by kernel_rfl) (by simp) ?_
      refine AllReadyH.cons rfl (fun K hK => ?_) AllReadyH.nil
      refine step_append_own2 (by rfl) (.tmp 85) (.tmp 87) (by rfl) (w.heap.size + 2) (.slice A1 (n3) q1) (n3) recv (by rfl) O1.out _ 1 1 [g] (by rfl) G1.out (by omega) (by have := X1.out.size; omega) ?_
      intro v2 w2 ho2 hg2
      obtain ⟨A2, q2, rfl, hr2, hf2⟩ := Own2.row ho2
      have X2 := X1.out.grown hg2 (own_from hf1)
      refine hK.out _ _ X2.p (fun hHeld => ?_)
      clear hK K
      try dsimp only
      have b4 := X2.r.c0
      have b5 := X2.r.c1
      have b6 := X2.r.c2
      have b7 := X2.r.c3
      have b8 := X2.r.f0
      have b9 := X2.r.f1
      have b10 := X2.r.f2
      have b11 := X2.r.f3
      clear r0 r1 r2 r3 r4 r5 r6 r7 p0 p1 p2 p3
      have k0 : (w2.setCell ⟨w.heap.size + 1, 0, none⟩ (.int .i64 room)).cell? ⟨w.heap.size + 1, 0, none⟩ = some (.int .i64 room) := (X2.r.set0 _).c0
      have k1 : ((w2.setCell ⟨w.heap.size + 1, 0, none⟩ (.int .i64 room)).setCell ⟨w.heap.size + 1, 1, none⟩ (.slice none 0 0)).cell? ⟨w.heap.size + 1, 1, none⟩ = some (.slice none 0 0) := ((X2.r.set0 _).set1 _).c1
      have k2 : (((w2.setCell ⟨w.heap.size + 1, 0, none⟩ (.int .i64 room)).setCell ⟨w.heap.size + 1, 1, none⟩ (.slice none 0 0)).setCell ⟨w.heap.size + 1, 2, none⟩ (.slice none 0 0)).cell? ⟨w.heap.size + 1, 2, none⟩ = some (.slice none 0 0) := (((X2.r.set0 _).set1 _).set2 _).c2
      have k3 := (X2.r.put (.int .i64 room) (.slice none 0 0) (.slice none 0 0) (.slice A2 (n3 + 1) q2)).c3
      have hbe := put4_below (x := .int .i64 room) (y := (.slice none 0 0)) (z := (.slice none 0 0)) (u := (.slice A2 (n3 + 1) q2)) X2.below (show w.heap.size ≤ w.heap.size + 1 by omega)
      have HM := Lib.hid (tellR (b := ⟨room, [], [], recv ++ [g]⟩) (Row.nothing _) (PR.nothing _) (hr2.put4 (x := .int .i64 room) (y := .slice none 0 0) (z := .slice none 0 0) (u := .slice A2 (n3 + 1) q2) (hf2.mono (by omega : w.heap.size + 1 + 1 ≤ w.heap.size + 2))) hbe)
      refine wpAnyH_takes (i := 9) (v := (.agg #[.int .i64 room, .slice none 0 0, .slice none 0 0, .slice A2 (n3 + 1) q2])) (some 89) rfl rfl (by kernel_rfl) (by kernel_rfl) (by kernel_rfl) (fun _ _ _ h => h) (Or.inl ⟨by rfl, (by intro W9 hSw; have s0 := hSw.c0; have s1 := hSw.c1; have s2 := hSw.c2; have s3 := hSw.c3; clear hSw; go_simp; first | done | with_reducible rfl)⟩) (by assumption) ?_
      simp only [Act.put, List.setIfInBounds_toArray]
      refine wpAnyH_ready (rs := [10]) (by kernel_rfl) (by simp) ?_
      refine AllReadyH.cons rfl (fun K hK => ?_) AllReadyH.nil
      go_simp
      refine hK.out _ _ (X2.p.off (by omega) _ _ _ _) (fun hHeld => ?_)
      clear hK K
      try dsimp only
      refine wpAnyH_takes (i := 11) (v := (.int .i64 0)) (some 5) rfl rfl (by kernel_rfl) (by kernel_rfl) (by kernel_rfl) (fun _ _ _ h => h) (Or.inl ⟨by rfl, (by intro W9 hSw; have s0 := hSw.c0; have s1 := hSw.c1; have s2 := hSw.c2; have s3 := hSw.c3; clear hSw; go_simp; first | done | with_reducible rfl)⟩) (by assumption) ?_
      simp only [Act.put, List.setIfInBounds_toArray, List.set_cons_zero, List.set_cons_succ]
      refine wpAnyH_takes (i := 12) (v := (.int .i64 0)) (some 6) rfl rfl (by kernel_rfl) (by kernel_rfl) (by kernel_rfl) (fun _ _ _ h => h) (Or.inl ⟨by rfl, (by intro W9 hSw; have s0 := hSw.c0; have s1 := hSw.c1; have s2 := hSw.c2; have s3 := hSw.c3; clear hSw; go_simp; first | done | with_reducible rfl)⟩) (by assumption) ?_
      simp only [Act.put, List.setIfInBounds_toArray, List.set_cons_zero, List.set_cons_succ]
      refine wpAnyH_takes (i := 13) (v := (.bool false)) (some 7) rfl rfl (by kernel_rfl) (by kernel_rfl) (by kernel_rfl) (fun _ _ _ h => h) (Or.inl ⟨by rfl, (by intro W9 hSw; have s0 := hSw.c0; have s1 := hSw.c1; have s2 := hSw.c2; have s3 := hSw.c3; clear hSw; go_simp; first | done | with_reducible rfl)⟩) (by assumption) ?_
      simp only [Act.put, List.setIfInBounds_toArray, List.set_cons_zero, List.set_cons_succ]
      refine wpAnyH_done (by kernel_rfl) ?_ _
      clear hbe b4 b5 b6 b7 b8 b9 b10 b11 hr2 hf2 hg2 ho2 X2 hHeld
      go_wp2_with fail
      refine bodyPost_ret (v := (.tuple #[.agg #[.int .i64 room, .slice none 0 0, .slice none 0 0, .slice A2 (n3 + 1) q2], .int .i64 0, .int .i64 0, .bool false])) ?_ rfl ?_
      · simp [results, Try.results16, go_sem, k0, k1, k2, k3]
      exact ⟨_, rfl, HM.out⟩
  · skip
    have XG := Lib.hid (XV.out.step (below_new V (.cells #[.int .i64 g] 3)))
    go_simp
    refine hK.out _ _ XG.out.p (fun hHeld => ?_)
    clear hK K
    try dsimp only
    have ZG := Lib.hid (hsz (W := V) (.cells #[.int .i64 g] 3))
    have BG := Lib.hid (below_new V (.cells #[.int .i64 g] 3))
    have GG := Lib.hid (row_at V g _ rfl)
    generalize V.alloc (.cells #[.int .i64 g] 3) = VG at *
    refine wpAnyH_ready (rs := [2]) (by kernel_rfl) (by simp) ?_
    refine AllReadyH.cons rfl (fun K hK => ?_) AllReadyH.nil
    have XE := Lib.hid (XG.out.step (below_new VG (.cells #[] 3)))
    go_simp
    refine hK.out _ _ XE.out.p (fun hHeld => ?_)
    clear hK K
    try dsimp only
    have Y1 := Lib.hid (show w.heap.size + 2 ≤ VG.heap.size from XG.out.size)
    have ZE := Lib.hid (hsz (W := VG) (.cells #[] 3))
    have BE := Lib.hid (below_new VG (.cells #[] 3))
    generalize VG.alloc (.cells #[] 3) = VE at *
    refine wpAnyH_ready (rs := [5]) (by kernel_rfl) (by simp) ?_
    refine AllReadyH.cons rfl (fun K hK => ?_) AllReadyH.nil
    refine step_append_own2 (by rfl) (.tmp 82) (.tmp 84) (by rfl) (w.heap.size + 2) _ 0 [] (by rfl) (.inr ⟨_, rfl, rfl, rfl, (by simp only; exact Y1.out)⟩) C n3 c3 recv (by rfl) (H.out.r.below XE.out.below) (by omega) (by have := XE.out.size; omega) ?_
    intro v1 w1 ho1 hg1
    rw [Nat.zero_add, List.nil_append] at ho1
    obtain ⟨A1, q1, rfl, hr1, hf1⟩ := Own2.row ho1
    have O1 := Lib.hid ho1
    have X1 := Lib.hid (XE.out.grown hg1 (fun k hk => by simp [Value.ownBlock] at hk; have := Y1.out; omega))
    refine hK.out _ _ X1.out.p (fun hHeld => ?_)
    clear hK K ho1 hr1
    try dsimp only
    have G1 := Lib.hid ((GG.out.below BE.out).grown hg1 (by intro ad e; injection e with e; subst e; simp [Value.ownBlock]; have := ZG.out; omega))
    refine wpAnyH_ready (rs := [8]) (by kernel_rfl) (by simp) ?_
    refine AllReadyH.cons rfl (fun K hK => ?_) AllReadyH.nil
    refine step_append_own2 (by rfl) (.tmp 85) (.tmp 87) (by rfl) (w.heap.size + 2) (.slice A1 (n3) q1) (n3) recv (by rfl) O1.out _ 1 1 [g] (by rfl) G1.out (by omega) (by have := X1.out.size; omega) ?_
    intro v2 w2 ho2 hg2
    obtain ⟨A2, q2, rfl, hr2, hf2⟩ := Own2.row ho2
    have X2 := X1.out.grown hg2 (own_from hf1)
    refine hK.out _ _ X2.p (fun hHeld => ?_)
    clear hK K
    try dsimp only
    have b4 := X2.r.c0
    have b5 := X2.r.c1
    have b6 := X2.r.c2
    have b7 := X2.r.c3
    have b8 := X2.r.f0
    have b9 := X2.r.f1
    have b10 := X2.r.f2
    have b11 := X2.r.f3
    clear r0 r1 r2 r3 r4 r5 r6 r7 p0 p1 p2 p3
    have k0 : (w2.setCell ⟨w.heap.size + 1, 0, none⟩ (.int .i64 room)).cell? ⟨w.heap.size + 1, 0, none⟩ = some (.int .i64 room) := (X2.r.set0 _).c0
    have k1 : ((w2.setCell ⟨w.heap.size + 1, 0, none⟩ (.int .i64 room)).setCell ⟨w.heap.size + 1, 1, none⟩ (.slice none 0 0)).cell? ⟨w.heap.size + 1, 1, none⟩ = some (.slice none 0 0) := ((X2.r.set0 _).set1 _).c1
    have k2 : (((w2.setCell ⟨w.heap.size + 1, 0, none⟩ (.int .i64 room)).setCell ⟨w.heap.size + 1, 1, none⟩ (.slice none 0 0)).setCell ⟨w.heap.size + 1, 2, none⟩ (.slice none 0 0)).cell? ⟨w.heap.size + 1, 2, none⟩ = some (.slice none 0 0) := (((X2.r.set0 _).set1 _).set2 _).c2
    have k3 := (X2.r.put (.int .i64 room) (.slice none 0 0) (.slice none 0 0) (.slice A2 (n3 + 1) q2)).c3
    have hbe := put4_below (x := .int .i64 room) (y := (.slice none 0 0)) (z := (.slice none 0 0)) (u := (.slice A2 (n3 + 1) q2)) X2.below (show w.heap.size ≤ w.heap.size + 1 by omega)
    have HM := Lib.hid (tellR (b := ⟨room, [], [], recv ++ [g]⟩) (Row.nothing _) (PR.nothing _) (hr2.put4 (x := .int .i64 room) (y := .slice none 0 0) (z := .slice none 0 0) (u := .slice A2 (n3 + 1) q2) (hf2.mono (by omega : w.heap.size + 1 + 1 ≤ w.heap.size + 2))) hbe)
    refine wpAnyH_takes (i := 9) (v := (.agg #[.int .i64 room, .slice none 0 0, .slice none 0 0, .slice A2 (n3 + 1) q2])) (some 89) rfl rfl (by kernel_rfl) (by kernel_rfl) (by kernel_rfl) (fun _ _ _ h => h) (Or.inl ⟨by rfl, (by intro W9 hSw; have s0 := hSw.c0; have s1 := hSw.c1; have s2 := hSw.c2; have s3 := hSw.c3; clear hSw; go_simp; first | done | with_reducible rfl)⟩) (by assumption) ?_
    simp only [Act.put, List.setIfInBounds_toArray]
    refine wpAnyH_ready (rs := [10]) (by kernel_rfl) (by simp) ?_
    refine AllReadyH.cons rfl (fun K hK => ?_) AllReadyH.nil
    go_simp
    refine hK.out _ _ (X2.p.off (by omega) _ _ _ _) (fun hHeld => ?_)
    clear hK K
    try dsimp only
    refine wpAnyH_takes (i := 11) (v := (.int .i64 0)) (some 5) rfl rfl (by kernel_rfl) (by kernel_rfl) (by kernel_rfl) (fun _ _ _ h => h) (Or.inl ⟨by rfl, (by intro W9 hSw; have s0 := hSw.c0; have s1 := hSw.c1; have s2 := hSw.c2; have s3 := hSw.c3; clear hSw; go_simp; first | done | with_reducible rfl)⟩) (by assumption) ?_
    simp only [Act.put, List.setIfInBounds_toArray, List.set_cons_zero, List.set_cons_succ]
    refine wpAnyH_takes (i := 12) (v := (.int .i64 0)) (some 6) rfl rfl (by kernel_rfl) (by kernel_rfl) (by kernel_rfl) (fun _ _ _ h => h) (Or.inl ⟨by rfl, (by intro W9 hSw; have s0 := hSw.c0; have s1 := hSw.c1; have s2 := hSw.c2; have s3 := hSw.c3; clear hSw; go_simp; first | done | with_reducible rfl)⟩) (by assumption) ?_
    simp only [Act.put, List.setIfInBounds_toArray, List.set_cons_zero, List.set_cons_succ]
    refine wpAnyH_takes (i := 13) (v := (.bool false)) (some 7) rfl rfl (by kernel_rfl) (by kernel_rfl) (by kernel_rfl) (fun _ _ _ h => h) (Or.inl ⟨by rfl, (by intro W9 hSw; have s0 := hSw.c0; have s1 := hSw.c1; have s2 := hSw.c2; have s3 := hSw.c3; clear hSw; go_simp; first | done | with_reducible rfl)⟩) (by assumption) ?_
    simp only [Act.put, List.setIfInBounds_toArray, List.set_cons_zero, List.set_cons_succ]
    refine wpAnyH_done (by kernel_rfl) ?_ _
    clear hbe b4 b5 b6 b7 b8 b9 b10 b11 hr2 hf2 hg2 ho2 X2 hHeld
    go_wp2_with fail
    refine bodyPost_ret (v := (.tuple #[.agg #[.int .i64 room, .slice none 0 0, .slice none 0 0, .slice A2 (n3 + 1) q2], .int .i64 0, .int .i64 0, .bool false])) ?_ rfl ?_
    · simp [results, Try.results16, go_sem, k0, k1, k2, k3]
    exact ⟨_, rfl, HM.out⟩
end Go.Proofs.Ytjpnfjiccckaiaa

