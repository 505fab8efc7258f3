/- The document's Recv where one row has nobody, by its contract. -/
import Derived.Test.YtjpnfjiccckaiaaORefSnd
namespace Go.Proofs.Ytjpnfjiccckaiaa
open Go.RowKit
open Mp (Bo)
set_option linter.unusedVariables false

/-- What the document's Recv leaves. -/
def RRecvE (w : World) (r : Bo × Int × Int × Bool) (e : Ending) (w' : World) : Prop := ∃ bv, e = .returned (.tuple #[bv, .int .i64 r.2.1, .int .i64 r.2.2.1, .bool r.2.2.2]) ∧ TellB w 0 r.1 bv w'
set_option maxRecDepth 100000 in
set_option maxHeartbeats 3200000 in
theorem refRecv_send (room : Int) (s : Int × Int) (ss : List (Int × Int)) (recv : List Int) (A B C : Option Addr) (n1 n2 n3 c1 c2 c3 : Nat) (g : Int) (w : World) (h : Tri w A n1 c1 B n2 c2 C n3 c3 ⟨room, [], s :: ss, recv⟩) :
    Calls Try.prog 16 #[.agg #[.int .i64 room, .slice A n1 c1, .slice B n2 c2, .slice C n3 c3], .int .i64 g] w (RRecvE w (⟨room, [], ss, recv⟩, s.2, s.1, true)) := by
  obtain ⟨W0, hW0, hX0⟩ := A4.start w (.int .i64 room) (.slice A n1 c1) (.slice B n2 c2) (.slice C n3 c3) (.int .i64 0) (.slice none 0 0) (.slice none 0 0) (.slice none 0 0) 26 26
  have p0 := hX0.p.c0
  have p1 := hX0.p.c1
  have p2 := hX0.p.c2
  have p3 := hX0.p.c3
  have r0 := hX0.r.c0
  have r1 := hX0.r.c1
  have r2 := hX0.r.c2
  have r3 := hX0.r.c3
  have r4 := hX0.r.f0
  have r5 := hX0.r.f1
  have r6 := hX0.r.f2
  have r7 := hX0.r.f3
  have hl1 := h.m.len
  have hl2 := h.s.len
  have hl3 := h.r.len
  have X0 := Lib.hid hX0
  have H := Lib.hid h
  have E0 := Lib.hid hW0
  clear hX0 hW0 h
  have n0 : 0 < n2 := by simp at hl2; omega
  have n1' : n1 = 0 := by simp at hl1; omega
  obtain ⟨b, off, rfl, hbk, hcs⟩ := H.out.s.cells n0
  obtain ⟨hc0, hd0⟩ := hcs 0 s rfl
  have hT := H.out.s.slice 1 n0
  have hcap := H.out.s.cap
  have hcm := H.out.s.most
  rw [Nat.zero_mul, Nat.add_zero] at hc0 hd0
  rw [Nat.one_mul] at hT
  have HC0 := Lib.hid hc0
  have HD0 := Lib.hid hd0
  have z2 : ¬ (0 : Int) < (n1 : Int) := by omega
  have z3 : decide ((0 : Int) < (n1 : Int)) = false := by simpa using z2
  clear hcs hc0 hd0 hl1 hl2 hl3 n1'
  have hn1 : (0 : Int) < (n2 : Int) := by omega
  have hn2 : ((n2 : Int) == 0) = false := by rw [beq_eq_false_iff_ne]; omega
  have hn3 : (n2 : Int) ≤ (c2 : Int) := by omega
  have hn4 : (1 : Int) ≤ (c2 : Int) := by omega
  have hn5 : (1 : Int) ≤ (n2 : Int) := by omega
  have hn6 : 1 ≤ c2 := by omega
  by_cases hc : c2 = 1
  · subst hc
    obtain rfl : n2 = 1 := by omega
    rw [if_pos rfl] at hT
    have HT : Hid (PR w (some ⟨b, off, none⟩) (1 - 1) (1 - 1) ss) := Lib.hid hT
    clear hT r0 r1 r2 r3 r4 r5 r6 r7
    go_enter Try.func16, Try.ntmps16
    go_wp2_with fail
    rw [← E0.out]
    clear E0
    have XV := Lib.hid X0.out.drew
    refine wp_region_held_drew (S := fun W => Q4 W w.heap.size (.int .i64 room) (.slice A n1 c1) (.slice (some ⟨b, off, none⟩) 1 1) (.slice C n3 c3) ∧ W.cell? ⟨b, off, none⟩ = some (.int .i64 s.1) ∧ W.cell? ⟨b, off + 1, none⟩ = some (.int .i64 s.2)) (by kernel_rfl) ⟨X0.out.p.drew, keepcell X0.out.drew.below HC0.out, keepcell X0.out.drew.below HD0.out⟩ (fun hHeld => ?_)
    clear X0
    generalize W0.drew = V at *
    refine wpAnyH_takes (i := 0) (v := (.pointer (some ⟨w.heap.size, 0, none⟩))) (some 62) rfl rfl (by kernel_rfl) (by kernel_rfl) (by kernel_rfl) (fun _ _ _ h => h) (Or.inl ⟨by rfl, (by intro W9 hSw; have s0 := hSw.1.c0; have s1 := hSw.1.c1; have s2 := hSw.1.c2; have s3 := hSw.1.c3; have s4 := hSw.2.1; have s5 := hSw.2.2; clear hSw; go_simp; first | done | with_reducible rfl)⟩) (by assumption) ?_
    simp only [Act.put, List.setIfInBounds_toArray, List.set_cons_zero, List.set_cons_succ]
    refine wpAnyH_takes (i := 1) (v := (.int .i64 room)) (some 63) rfl rfl (by kernel_rfl) (by kernel_rfl) (by kernel_rfl) (fun _ _ _ h => h) (Or.inl ⟨by rfl, (by intro W9 hSw; have s0 := hSw.1.c0; have s1 := hSw.1.c1; have s2 := hSw.1.c2; have s3 := hSw.1.c3; have s4 := hSw.2.1; have s5 := hSw.2.2; clear hSw; go_simp; first | done | with_reducible rfl)⟩) (by assumption) ?_
    simp only [Act.put, List.setIfInBounds_toArray, List.set_cons_zero, List.set_cons_succ]
    refine wpAnyH_takes (i := 2) (v := (.pointer (some ⟨w.heap.size, 2, none⟩))) (some 64) rfl rfl (by kernel_rfl) (by kernel_rfl) (by kernel_rfl) (fun _ _ _ h => h) (Or.inl ⟨by rfl, (by intro W9 hSw; have s0 := hSw.1.c0; have s1 := hSw.1.c1; have s2 := hSw.1.c2; have s3 := hSw.1.c3; have s4 := hSw.2.1; have s5 := hSw.2.2; clear hSw; go_simp; first | done | with_reducible rfl)⟩) (by assumption) ?_
    simp only [Act.put, List.setIfInBounds_toArray, List.set_cons_zero, List.set_cons_succ]
    refine wpAnyH_takes (i := 3) (v := (.slice (some ⟨b, off, none⟩) 1 1)) (some 65) rfl rfl (by kernel_rfl) (by kernel_rfl) (by kernel_rfl) (fun _ _ _ h => h) (Or.inl ⟨by rfl, (by intro W9 hSw; have s0 := hSw.1.c0; have s1 := hSw.1.c1; have s2 := hSw.1.c2; have s3 := hSw.1.c3; have s4 := hSw.2.1; have s5 := hSw.2.2; clear hSw; go_simp; first | done | with_reducible rfl)⟩) (by assumption) ?_
    simp only [Act.put, List.setIfInBounds_toArray, List.set_cons_zero, List.set_cons_succ]
    refine wpAnyH_takes (i := 4) (v := (.slice (some ⟨b, off, none⟩) (1 - 1) (1 - 1))) (some 66) rfl rfl (by kernel_rfl) (by kernel_rfl) (by kernel_rfl) (fun _ _ _ h => h) (Or.inl ⟨by rfl, (by intro W9 hSw; have s0 := hSw.1.c0; have s1 := hSw.1.c1; have s2 := hSw.1.c2; have s3 := hSw.1.c3; have s4 := hSw.2.1; have s5 := hSw.2.2; clear hSw; go_simp; first | done | with_reducible rfl)⟩) (by assumption) ?_
    simp only [Act.put, List.setIfInBounds_toArray, List.set_cons_zero, List.set_cons_succ]
    refine wpAnyH_takes (i := 5) (v := (.pointer (some ⟨w.heap.size, 3, none⟩))) (some 67) rfl rfl (by kernel_rfl) (by kernel_rfl) (by kernel_rfl) (fun _ _ _ h => h) (Or.inl ⟨by rfl, (by intro W9 hSw; have s0 := hSw.1.c0; have s1 := hSw.1.c1; have s2 := hSw.1.c2; have s3 := hSw.1.c3; have s4 := hSw.2.1; have s5 := hSw.2.2; clear hSw; go_simp; first | done | with_reducible rfl)⟩) (by assumption) ?_
    simp only [Act.put, List.setIfInBounds_toArray, List.set_cons_zero, List.set_cons_succ]
    refine wpAnyH_takes (i := 6) (v := (.slice C n3 c3)) (some 68) rfl rfl (by kernel_rfl) (by kernel_rfl) (by kernel_rfl) (fun _ _ _ h => h) (Or.inl ⟨by rfl, (by intro W9 hSw; have s0 := hSw.1.c0; have s1 := hSw.1.c1; have s2 := hSw.1.c2; have s3 := hSw.1.c3; have s4 := hSw.2.1; have s5 := hSw.2.2; clear hSw; go_simp; first | done | with_reducible rfl)⟩) (by assumption) ?_
    simp only [Act.put, List.setIfInBounds_toArray, List.set_cons_zero, List.set_cons_succ]
    refine wpAnyH_takes (i := 7) (v := (.agg #[.int .i64 room, .slice none 0 0, .slice (some ⟨b, off, none⟩) (1 - 1) (1 - 1), .slice C n3 c3])) (some 69) rfl rfl (by kernel_rfl) (by kernel_rfl) (by kernel_rfl) (fun _ _ _ h => h) (Or.inl ⟨by rfl, (by intro W9 hSw; have s0 := hSw.1.c0; have s1 := hSw.1.c1; have s2 := hSw.1.c2; have s3 := hSw.1.c3; have s4 := hSw.2.1; have s5 := hSw.2.2; clear hSw; go_simp; first | done | with_reducible rfl)⟩) (by assumption) ?_
    simp only [Act.put, List.setIfInBounds_toArray, List.set_cons_zero, List.set_cons_succ]
    refine wpAnyH_takes (i := 8) (v := (.pointer (some ⟨w.heap.size, 2, none⟩))) (some 70) rfl rfl (by kernel_rfl) (by kernel_rfl) (by kernel_rfl) (fun _ _ _ h => h) (Or.inl ⟨by rfl, (by intro W9 hSw; have s0 := hSw.1.c0; have s1 := hSw.1.c1; have s2 := hSw.1.c2; have s3 := hSw.1.c3; have s4 := hSw.2.1; have s5 := hSw.2.2; clear hSw; go_simp; first | done | with_reducible rfl)⟩) (by assumption) ?_
    simp only [Act.put, List.setIfInBounds_toArray, List.set_cons_zero, List.set_cons_succ]
    refine wpAnyH_takes (i := 9) (v := (.slice (some ⟨b, off, none⟩) 1 1)) (some 71) rfl rfl (by kernel_rfl) (by kernel_rfl) (by kernel_rfl) (fun _ _ _ h => h) (Or.inl ⟨by rfl, (by intro W9 hSw; have s0 := hSw.1.c0; have s1 := hSw.1.c1; have s2 := hSw.1.c2; have s3 := hSw.1.c3; have s4 := hSw.2.1; have s5 := hSw.2.2; clear hSw; go_simp; first | done | with_reducible rfl)⟩) (by assumption) ?_
    simp only [Act.put, List.setIfInBounds_toArray, List.set_cons_zero, List.set_cons_succ]
    refine wpAnyH_takes (i := 10) (v := (.pointer (some ⟨b, off, none⟩))) (some 72) rfl rfl (by kernel_rfl) (by kernel_rfl) (by kernel_rfl) (fun _ _ _ h => h) (Or.inl ⟨by rfl, (by intro W9 hSw; have s0 := hSw.1.c0; have s1 := hSw.1.c1; have s2 := hSw.1.c2; have s3 := hSw.1.c3; have s4 := hSw.2.1; have s5 := hSw.2.2; clear hSw; go_simp; first | done | with_reducible rfl)⟩) (by assumption) ?_
    simp only [Act.put, List.setIfInBounds_toArray, List.set_cons_zero, List.set_cons_succ]
    refine wpAnyH_takes (i := 11) (v := (.pointer (some ⟨b, off + 1, none⟩))) (some 73) rfl rfl (by kernel_rfl) (by kernel_rfl) (by kernel_rfl) (fun _ _ _ h => h) (Or.inl ⟨by rfl, (by intro W9 hSw; have s0 := hSw.1.c0; have s1 := hSw.1.c1; have s2 := hSw.1.c2; have s3 := hSw.1.c3; have s4 := hSw.2.1; have s5 := hSw.2.2; clear hSw; go_simp; first | done | with_reducible rfl)⟩) (by assumption) ?_
    simp only [Act.put, List.setIfInBounds_toArray, List.set_cons_zero, List.set_cons_succ]
    refine wpAnyH_takes (i := 12) (v := (.int .i64 s.2)) (some 74) rfl rfl (by kernel_rfl) (by kernel_rfl) (by kernel_rfl) (fun _ _ _ h => h) (Or.inl ⟨by rfl, (by intro W9 hSw; have s0 := hSw.1.c0; have s1 := hSw.1.c1; have s2 := hSw.1.c2; have s3 := hSw.1.c3; have s4 := hSw.2.1; have s5 := hSw.2.2; clear hSw; go_simp; first | done | with_reducible rfl)⟩) (by assumption) ?_
    simp only [Act.put, List.setIfInBounds_toArray, List.set_cons_zero, List.set_cons_succ]
    refine wpAnyH_takes (i := 13) (v := (.pointer (some ⟨w.heap.size, 2, none⟩))) (some 75) rfl rfl (by kernel_rfl) (by kernel_rfl) (by kernel_rfl) (fun _ _ _ h => h) (Or.inl ⟨by rfl, (by intro W9 hSw; have s0 := hSw.1.c0; have s1 := hSw.1.c1; have s2 := hSw.1.c2; have s3 := hSw.1.c3; have s4 := hSw.2.1; have s5 := hSw.2.2; clear hSw; go_simp; first | done | with_reducible rfl)⟩) (by assumption) ?_
    simp only [Act.put, List.setIfInBounds_toArray, List.set_cons_zero, List.set_cons_succ]
    refine wpAnyH_takes (i := 14) (v := (.slice (some ⟨b, off, none⟩) 1 1)) (some 76) rfl rfl (by kernel_rfl) (by kernel_rfl) (by kernel_rfl) (fun _ _ _ h => h) (Or.inl ⟨by rfl, (by intro W9 hSw; have s0 := hSw.1.c0; have s1 := hSw.1.c1; have s2 := hSw.1.c2; have s3 := hSw.1.c3; have s4 := hSw.2.1; have s5 := hSw.2.2; clear hSw; go_simp; first | done | with_reducible rfl)⟩) (by assumption) ?_
    simp only [Act.put, List.setIfInBounds_toArray, List.set_cons_zero, List.set_cons_succ]
    refine wpAnyH_takes (i := 15) (v := (.pointer (some ⟨b, off, none⟩))) (some 77) rfl rfl (by kernel_rfl) (by kernel_rfl) (by kernel_rfl) (fun _ _ _ h => h) (Or.inl ⟨by rfl, (by intro W9 hSw; have s0 := hSw.1.c0; have s1 := hSw.1.c1; have s2 := hSw.1.c2; have s3 := hSw.1.c3; have s4 := hSw.2.1; have s5 := hSw.2.2; clear hSw; go_simp; first | done | with_reducible rfl)⟩) (by assumption) ?_
    simp only [Act.put, List.setIfInBounds_toArray, List.set_cons_zero, List.set_cons_succ]
    refine wpAnyH_takes (i := 16) (v := (.pointer (some ⟨b, off, none⟩))) (some 78) rfl rfl (by kernel_rfl) (by kernel_rfl) (by kernel_rfl) (fun _ _ _ h => h) (Or.inl ⟨by rfl, (by intro W9 hSw; have s0 := hSw.1.c0; have s1 := hSw.1.c1; have s2 := hSw.1.c2; have s3 := hSw.1.c3; have s4 := hSw.2.1; have s5 := hSw.2.2; clear hSw; go_simp; first | done | with_reducible rfl)⟩) (by assumption) ?_
    simp only [Act.put, List.setIfInBounds_toArray, List.set_cons_zero, List.set_cons_succ]
    refine wpAnyH_takes (i := 17) (v := (.int .i64 s.1)) (some 79) rfl rfl (by kernel_rfl) (by kernel_rfl) (by kernel_rfl) (fun _ _ _ h => h) (Or.inl ⟨by rfl, (by intro W9 hSw; have s0 := hSw.1.c0; have s1 := hSw.1.c1; have s2 := hSw.1.c2; have s3 := hSw.1.c3; have s4 := hSw.2.1; have s5 := hSw.2.2; clear hSw; go_simp; first | done | with_reducible rfl)⟩) (by assumption) ?_
    simp only [Act.put, List.setIfInBounds_toArray, List.set_cons_zero, List.set_cons_succ]
    have r0 := XV.out.r.c0
    have r1 := XV.out.r.c1
    have r2 := XV.out.r.c2
    have r3 := XV.out.r.c3
    have r4 := XV.out.r.f0
    have r5 := XV.out.r.f1
    have r6 := XV.out.r.f2
    have r7 := XV.out.r.f3
    have k0 : (V.setCell ⟨w.heap.size + 1, 0, none⟩ (.int .i64 room)).cell? ⟨w.heap.size + 1, 0, none⟩ = some (.int .i64 room) := (XV.out.r.set0 _).c0
    have k1 : ((V.setCell ⟨w.heap.size + 1, 0, none⟩ (.int .i64 room)).setCell ⟨w.heap.size + 1, 1, none⟩ (.slice none 0 0)).cell? ⟨w.heap.size + 1, 1, none⟩ = some (.slice none 0 0) := ((XV.out.r.set0 _).set1 _).c1
    have k2 : (((V.setCell ⟨w.heap.size + 1, 0, none⟩ (.int .i64 room)).setCell ⟨w.heap.size + 1, 1, none⟩ (.slice none 0 0)).setCell ⟨w.heap.size + 1, 2, none⟩ (.slice (some ⟨b, off, none⟩) (1 - 1) (1 - 1))).cell? ⟨w.heap.size + 1, 2, none⟩ = some (.slice (some ⟨b, off, none⟩) (1 - 1) (1 - 1)) := (((XV.out.r.set0 _).set1 _).set2 _).c2
    have k3 := (XV.out.r.put (.int .i64 room) (.slice none 0 0) (.slice (some ⟨b, off, none⟩) (1 - 1) (1 - 1)) (.slice C n3 c3)).c3
    have hbe := put4_below (x := .int .i64 room) (y := .slice none 0 0) (z := .slice (some ⟨b, off, none⟩) (1 - 1) (1 - 1)) (u := .slice C n3 c3) XV.out.below (show w.heap.size ≤ w.heap.size + 1 by omega)
    have HM := Lib.hid (tellR (b := ⟨room, [], ss, recv⟩) (Row.nothing _) (HT.out.below hbe) (H.out.r.below hbe) hbe)
    refine wpAnyH_ready (rs := [18]) (by kernel_rfl) (by simp) ?_
    refine AllReadyH.cons rfl (fun K hK => ?_) AllReadyH.nil
    go_simp
    refine hK.out _ _ ⟨XV.out.p.off (by omega) _ _ _ _, keepcell hbe HC0.out, keepcell hbe HD0.out⟩ (fun hHeld => ?_)
    clear hK K r0 r1 r2 r3 r4 r5 r6 r7 hbe
    try dsimp only
    refine wpAnyH_takes (i := 19) (v := (.int .i64 s.2)) (some 5) rfl rfl (by kernel_rfl) (by kernel_rfl) (by kernel_rfl) (fun _ _ _ h => h) (Or.inl ⟨by rfl, (by intro W9 hSw; have s0 := hSw.1.c0; have s1 := hSw.1.c1; have s2 := hSw.1.c2; have s3 := hSw.1.c3; have s4 := hSw.2.1; have s5 := hSw.2.2; clear hSw; go_simp; first | done | with_reducible rfl)⟩) (by assumption) ?_
    simp only [Act.put, List.setIfInBounds_toArray, List.set_cons_zero, List.set_cons_succ]
    refine wpAnyH_takes (i := 20) (v := (.int .i64 s.1)) (some 6) rfl rfl (by kernel_rfl) (by kernel_rfl) (by kernel_rfl) (fun _ _ _ h => h) (Or.inl ⟨by rfl, (by intro W9 hSw; have s0 := hSw.1.c0; have s1 := hSw.1.c1; have s2 := hSw.1.c2; have s3 := hSw.1.c3; have s4 := hSw.2.1; have s5 := hSw.2.2; clear hSw; go_simp; first | done | with_reducible rfl)⟩) (by assumption) ?_
    simp only [Act.put, List.setIfInBounds_toArray, List.set_cons_zero, List.set_cons_succ]
    refine wpAnyH_takes (i := 21) (v := (.bool true)) (some 7) rfl rfl (by kernel_rfl) (by kernel_rfl) (by kernel_rfl) (fun _ _ _ h => h) (Or.inl ⟨by rfl, (by intro W9 hSw; have s0 := hSw.1.c0; have s1 := hSw.1.c1; have s2 := hSw.1.c2; have s3 := hSw.1.c3; have s4 := hSw.2.1; have s5 := hSw.2.2; clear hSw; go_simp; first | done | with_reducible rfl)⟩) (by assumption) ?_
    simp only [Act.put, List.setIfInBounds_toArray, List.set_cons_zero, List.set_cons_succ]
    refine wpAnyH_done (by kernel_rfl) ?_ _
    clear hHeld XV
    go_wp2_with fail
    refine bodyPost_ret (v := .tuple #[.agg #[.int .i64 room, .slice none 0 0, .slice (some ⟨b, off, none⟩) (1 - 1) (1 - 1), .slice C n3 c3], .int .i64 s.2, .int .i64 s.1, .bool true]) ?_ rfl ?_
    · simp [results, Try.results16, go_sem, k0, k1, k2, k3]
    exact ⟨_, rfl, HM.out⟩
  · rw [if_neg hc] at hT
    have HT : Hid (PR w (some ⟨b, off + 2, none⟩) (n2 - 1) (c2 - 1) ss) := Lib.hid hT
    clear hT r0 r1 r2 r3 r4 r5 r6 r7
    go_enter Try.func16, Try.ntmps16
    go_wp2_with fail
    rw [← E0.out]
    clear E0
    have XV := Lib.hid X0.out.drew
    refine wp_region_held_drew (S := fun W => Q4 W w.heap.size (.int .i64 room) (.slice A n1 c1) (.slice (some ⟨b, off, none⟩) n2 c2) (.slice C n3 c3) ∧ W.cell? ⟨b, off, none⟩ = some (.int .i64 s.1) ∧ W.cell? ⟨b, off + 1, none⟩ = some (.int .i64 s.2)) (by kernel_rfl) ⟨X0.out.p.drew, keepcell X0.out.drew.below HC0.out, keepcell X0.out.drew.below HD0.out⟩ (fun hHeld => ?_)
    clear X0
    generalize W0.drew = V at *
    refine wpAnyH_takes (i := 0) (v := (.pointer (some ⟨w.heap.size, 0, none⟩))) (some 62) rfl rfl (by kernel_rfl) (by kernel_rfl) (by kernel_rfl) (fun _ _ _ h => h) (Or.inl ⟨by rfl, (by intro W9 hSw; have s0 := hSw.1.c0; have s1 := hSw.1.c1; have s2 := hSw.1.c2; have s3 := hSw.1.c3; have s4 := hSw.2.1; have s5 := hSw.2.2; clear hSw; go_simp; first | done | with_reducible rfl)⟩) (by assumption) ?_
    simp only [Act.put, List.setIfInBounds_toArray, List.set_cons_zero, List.set_cons_succ]
    refine wpAnyH_takes (i := 1) (v := (.int .i64 room)) (some 63) rfl rfl (by kernel_rfl) (by kernel_rfl) (by kernel_rfl) (fun _ _ _ h => h) (Or.inl ⟨by rfl, (by intro W9 hSw; have s0 := hSw.1.c0; have s1 := hSw.1.c1; have s2 := hSw.1.c2; have s3 := hSw.1.c3; have s4 := hSw.2.1; have s5 := hSw.2.2; clear hSw; go_simp; first | done | with_reducible rfl)⟩) (by assumption) ?_
    simp only [Act.put, List.setIfInBounds_toArray, List.set_cons_zero, List.set_cons_succ]
    refine wpAnyH_takes (i := 2) (v := (.pointer (some ⟨w.heap.size, 2, none⟩))) (some 64) rfl rfl (by kernel_rfl) (by kernel_rfl) (by kernel_rfl) (fun _ _ _ h => h) (Or.inl ⟨by rfl, (by intro W9 hSw; have s0 := hSw.1.c0; have s1 := hSw.1.c1; have s2 := hSw.1.c2; have s3 := hSw.1.c3; have s4 := hSw.2.1; have s5 := hSw.2.2; clear hSw; go_simp; first | done | with_reducible rfl)⟩) (by assumption) ?_
    simp only [Act.put, List.setIfInBounds_toArray, List.set_cons_zero, List.set_cons_succ]
    refine wpAnyH_takes (i := 3) (v := (.slice (some ⟨b, off, none⟩) n2 c2)) (some 65) rfl rfl (by kernel_rfl) (by kernel_rfl) (by kernel_rfl) (fun _ _ _ h => h) (Or.inl ⟨by rfl, (by intro W9 hSw; have s0 := hSw.1.c0; have s1 := hSw.1.c1; have s2 := hSw.1.c2; have s3 := hSw.1.c3; have s4 := hSw.2.1; have s5 := hSw.2.2; clear hSw; go_simp; first | done | with_reducible rfl)⟩) (by assumption) ?_
    simp only [Act.put, List.setIfInBounds_toArray, List.set_cons_zero, List.set_cons_succ]
    refine wpAnyH_takes (i := 4) (v := (.slice (some ⟨b, off + 2, none⟩) (n2 - 1) (c2 - 1))) (some 66) rfl rfl (by kernel_rfl) (by kernel_rfl) (by kernel_rfl) (fun _ _ _ h => h) (Or.inl ⟨by rfl, (by intro W9 hSw; have s0 := hSw.1.c0; have s1 := hSw.1.c1; have s2 := hSw.1.c2; have s3 := hSw.1.c3; have s4 := hSw.2.1; have s5 := hSw.2.2; clear hSw; go_simp; first | done | with_reducible rfl)⟩) (by assumption) ?_
    simp only [Act.put, List.setIfInBounds_toArray, List.set_cons_zero, List.set_cons_succ]
    refine wpAnyH_takes (i := 5) (v := (.pointer (some ⟨w.heap.size, 3, none⟩))) (some 67) rfl rfl (by kernel_rfl) (by kernel_rfl) (by kernel_rfl) (fun _ _ _ h => h) (Or.inl ⟨by rfl, (by intro W9 hSw; have s0 := hSw.1.c0; have s1 := hSw.1.c1; have s2 := hSw.1.c2; have s3 := hSw.1.c3; have s4 := hSw.2.1; have s5 := hSw.2.2; clear hSw; go_simp; first | done | with_reducible rfl)⟩) (by assumption) ?_
    simp only [Act.put, List.setIfInBounds_toArray, List.set_cons_zero, List.set_cons_succ]
    refine wpAnyH_takes (i := 6) (v := (.slice C n3 c3)) (some 68) rfl rfl (by kernel_rfl) (by kernel_rfl) (by kernel_rfl) (fun _ _ _ h => h) (Or.inl ⟨by rfl, (by intro W9 hSw; have s0 := hSw.1.c0; have s1 := hSw.1.c1; have s2 := hSw.1.c2; have s3 := hSw.1.c3; have s4 := hSw.2.1; have s5 := hSw.2.2; clear hSw; go_simp; first | done | with_reducible rfl)⟩) (by assumption) ?_
    simp only [Act.put, List.setIfInBounds_toArray, List.set_cons_zero, List.set_cons_succ]
    refine wpAnyH_takes (i := 7) (v := (.agg #[.int .i64 room, .slice none 0 0, .slice (some ⟨b, off + 2, none⟩) (n2 - 1) (c2 - 1), .slice C n3 c3])) (some 69) rfl rfl (by kernel_rfl) (by kernel_rfl) (by kernel_rfl) (fun _ _ _ h => h) (Or.inl ⟨by rfl, (by intro W9 hSw; have s0 := hSw.1.c0; have s1 := hSw.1.c1; have s2 := hSw.1.c2; have s3 := hSw.1.c3; have s4 := hSw.2.1; have s5 := hSw.2.2; clear hSw; go_simp; first | done | with_reducible rfl)⟩) (by assumption) ?_
    simp only [Act.put, List.setIfInBounds_toArray, List.set_cons_zero, List.set_cons_succ]
    refine wpAnyH_takes (i := 8) (v := (.pointer (some ⟨w.heap.size, 2, none⟩))) (some 70) rfl rfl (by kernel_rfl) (by kernel_rfl) (by kernel_rfl) (fun _ _ _ h => h) (Or.inl ⟨by rfl, (by intro W9 hSw; have s0 := hSw.1.c0; have s1 := hSw.1.c1; have s2 := hSw.1.c2; have s3 := hSw.1.c3; have s4 := hSw.2.1; have s5 := hSw.2.2; clear hSw; go_simp; first | done | with_reducible rfl)⟩) (by assumption) ?_
    simp only [Act.put, List.setIfInBounds_toArray, List.set_cons_zero, List.set_cons_succ]
    refine wpAnyH_takes (i := 9) (v := (.slice (some ⟨b, off, none⟩) n2 c2)) (some 71) rfl rfl (by kernel_rfl) (by kernel_rfl) (by kernel_rfl) (fun _ _ _ h => h) (Or.inl ⟨by rfl, (by intro W9 hSw; have s0 := hSw.1.c0; have s1 := hSw.1.c1; have s2 := hSw.1.c2; have s3 := hSw.1.c3; have s4 := hSw.2.1; have s5 := hSw.2.2; clear hSw; go_simp; first | done | with_reducible rfl)⟩) (by assumption) ?_
    simp only [Act.put, List.setIfInBounds_toArray, List.set_cons_zero, List.set_cons_succ]
    refine wpAnyH_takes (i := 10) (v := (.pointer (some ⟨b, off, none⟩))) (some 72) rfl rfl (by kernel_rfl) (by kernel_rfl) (by kernel_rfl) (fun _ _ _ h => h) (Or.inl ⟨by rfl, (by intro W9 hSw; have s0 := hSw.1.c0; have s1 := hSw.1.c1; have s2 := hSw.1.c2; have s3 := hSw.1.c3; have s4 := hSw.2.1; have s5 := hSw.2.2; clear hSw; go_simp; first | done | with_reducible rfl)⟩) (by assumption) ?_
    simp only [Act.put, List.setIfInBounds_toArray, List.set_cons_zero, List.set_cons_succ]
    refine wpAnyH_takes (i := 11) (v := (.pointer (some ⟨b, off + 1, none⟩))) (some 73) rfl rfl (by kernel_rfl) (by kernel_rfl) (by kernel_rfl) (fun _ _ _ h => h) (Or.inl ⟨by rfl, (by intro W9 hSw; have s0 := hSw.1.c0; have s1 := hSw.1.c1; have s2 := hSw.1.c2; have s3 := hSw.1.c3; have s4 := hSw.2.1; have s5 := hSw.2.2; clear hSw; go_simp; first | done | with_reducible rfl)⟩) (by assumption) ?_
    simp only [Act.put, List.setIfInBounds_toArray, List.set_cons_zero, List.set_cons_succ]
    refine wpAnyH_takes (i := 12) (v := (.int .i64 s.2)) (some 74) rfl rfl (by kernel_rfl) (by kernel_rfl) (by kernel_rfl) (fun _ _ _ h => h) (Or.inl ⟨by rfl, (by intro W9 hSw; have s0 := hSw.1.c0; have s1 := hSw.1.c1; have s2 := hSw.1.c2; have s3 := hSw.1.c3; have s4 := hSw.2.1; have s5 := hSw.2.2; clear hSw; go_simp; first | done | with_reducible rfl)⟩) (by assumption) ?_
    simp only [Act.put, List.setIfInBounds_toArray, List.set_cons_zero, List.set_cons_succ]
    refine wpAnyH_takes (i := 13) (v := (.pointer (some ⟨w.heap.size, 2, none⟩))) (some 75) rfl rfl (by kernel_rfl) (by kernel_rfl) (by kernel_rfl) (fun _ _ _ h => h) (Or.inl ⟨by rfl, (by intro W9 hSw; have s0 := hSw.1.c0; have s1 := hSw.1.c1; have s2 := hSw.1.c2; have s3 := hSw.1.c3; have s4 := hSw.2.1; have s5 := hSw.2.2; clear hSw; go_simp; first | done | with_reducible rfl)⟩) (by assumption) ?_
    simp only [Act.put, List.setIfInBounds_toArray, List.set_cons_zero, List.set_cons_succ]
    refine wpAnyH_takes (i := 14) (v := (.slice (some ⟨b, off, none⟩) n2 c2)) (some 76) rfl rfl (by kernel_rfl) (by kernel_rfl) (by kernel_rfl) (fun _ _ _ h => h) (Or.inl ⟨by rfl, (by intro W9 hSw; have s0 := hSw.1.c0; have s1 := hSw.1.c1; have s2 := hSw.1.c2; have s3 := hSw.1.c3; have s4 := hSw.2.1; have s5 := hSw.2.2; clear hSw; go_simp; first | done | with_reducible rfl)⟩) (by assumption) ?_
    simp only [Act.put, List.setIfInBounds_toArray, List.set_cons_zero, List.set_cons_succ]
    refine wpAnyH_takes (i := 15) (v := (.pointer (some ⟨b, off, none⟩))) (some 77) rfl rfl (by kernel_rfl) (by kernel_rfl) (by kernel_rfl) (fun _ _ _ h => h) (Or.inl ⟨by rfl, (by intro W9 hSw; have s0 := hSw.1.c0; have s1 := hSw.1.c1; have s2 := hSw.1.c2; have s3 := hSw.1.c3; have s4 := hSw.2.1; have s5 := hSw.2.2; clear hSw; go_simp; first | done | with_reducible rfl)⟩) (by assumption) ?_
    simp only [Act.put, List.setIfInBounds_toArray, List.set_cons_zero, List.set_cons_succ]
    refine wpAnyH_takes (i := 16) (v := (.pointer (some ⟨b, off, none⟩))) (some 78) rfl rfl (by kernel_rfl) (by kernel_rfl) (by kernel_rfl) (fun _ _ _ h => h) (Or.inl ⟨by rfl, (by intro W9 hSw; have s0 := hSw.1.c0; have s1 := hSw.1.c1; have s2 := hSw.1.c2; have s3 := hSw.1.c3; have s4 := hSw.2.1; have s5 := hSw.2.2; clear hSw; go_simp; first | done | with_reducible rfl)⟩) (by assumption) ?_
    simp only [Act.put, List.setIfInBounds_toArray, List.set_cons_zero, List.set_cons_succ]
    refine wpAnyH_takes (i := 17) (v := (.int .i64 s.1)) (some 79) rfl rfl (by kernel_rfl) (by kernel_rfl) (by kernel_rfl) (fun _ _ _ h => h) (Or.inl ⟨by rfl, (by intro W9 hSw; have s0 := hSw.1.c0; have s1 := hSw.1.c1; have s2 := hSw.1.c2; have s3 := hSw.1.c3; have s4 := hSw.2.1; have s5 := hSw.2.2; clear hSw; go_simp; first | done | with_reducible rfl)⟩) (by assumption) ?_
    simp only [Act.put, List.setIfInBounds_toArray, List.set_cons_zero, List.set_cons_succ]
    have r0 := XV.out.r.c0
    have r1 := XV.out.r.c1
    have r2 := XV.out.r.c2
    have r3 := XV.out.r.c3
    have r4 := XV.out.r.f0
    have r5 := XV.out.r.f1
    have r6 := XV.out.r.f2
    have r7 := XV.out.r.f3
    have k0 : (V.setCell ⟨w.heap.size + 1, 0, none⟩ (.int .i64 room)).cell? ⟨w.heap.size + 1, 0, none⟩ = some (.int .i64 room) := (XV.out.r.set0 _).c0
    have k1 : ((V.setCell ⟨w.heap.size + 1, 0, none⟩ (.int .i64 room)).setCell ⟨w.heap.size + 1, 1, none⟩ (.slice none 0 0)).cell? ⟨w.heap.size + 1, 1, none⟩ = some (.slice none 0 0) := ((XV.out.r.set0 _).set1 _).c1
    have k2 : (((V.setCell ⟨w.heap.size + 1, 0, none⟩ (.int .i64 room)).setCell ⟨w.heap.size + 1, 1, none⟩ (.slice none 0 0)).setCell ⟨w.heap.size + 1, 2, none⟩ (.slice (some ⟨b, off + 2, none⟩) (n2 - 1) (c2 - 1))).cell? ⟨w.heap.size + 1, 2, none⟩ = some (.slice (some ⟨b, off + 2, none⟩) (n2 - 1) (c2 - 1)) := (((XV.out.r.set0 _).set1 _).set2 _).c2
    have k3 := (XV.out.r.put (.int .i64 room) (.slice none 0 0) (.slice (some ⟨b, off + 2, none⟩) (n2 - 1) (c2 - 1)) (.slice C n3 c3)).c3
    have hbe := put4_below (x := .int .i64 room) (y := .slice none 0 0) (z := .slice (some ⟨b, off + 2, none⟩) (n2 - 1) (c2 - 1)) (u := .slice C n3 c3) XV.out.below (show w.heap.size ≤ w.heap.size + 1 by omega)
    have HM := Lib.hid (tellR (b := ⟨room, [], ss, recv⟩) (Row.nothing _) (HT.out.below hbe) (H.out.r.below hbe) hbe)
    refine wpAnyH_ready (rs := [18]) (by kernel_rfl) (by simp) ?_
    refine AllReadyH.cons rfl (fun K hK => ?_) AllReadyH.nil
    go_simp
    refine hK.out _ _ ⟨XV.out.p.off (by omega) _ _ _ _, keepcell hbe HC0.out, keepcell hbe HD0.out⟩ (fun hHeld => ?_)
    clear hK K r0 r1 r2 r3 r4 r5 r6 r7 hbe
    try dsimp only
    refine wpAnyH_takes (i := 19) (v := (.int .i64 s.2)) (some 5) rfl rfl (by kernel_rfl) (by kernel_rfl) (by kernel_rfl) (fun _ _ _ h => h) (Or.inl ⟨by rfl, (by intro W9 hSw; have s0 := hSw.1.c0; have s1 := hSw.1.c1; have s2 := hSw.1.c2; have s3 := hSw.1.c3; have s4 := hSw.2.1; have s5 := hSw.2.2; clear hSw; go_simp; first | done | with_reducible rfl)⟩) (by assumption) ?_
    simp only [Act.put, List.setIfInBounds_toArray, List.set_cons_zero, List.set_cons_succ]
    refine wpAnyH_takes (i := 20) (v := (.int .i64 s.1)) (some 6) rfl rfl (by kernel_rfl) (by kernel_rfl) (by kernel_rfl) (fun _ _ _ h => h) (Or.inl ⟨by rfl, (by intro W9 hSw; have s0 := hSw.1.c0; have s1 := hSw.1.c1; have s2 := hSw.1.c2; have s3 := hSw.1.c3; have s4 := hSw.2.1; have s5 := hSw.2.2; clear hSw; go_simp; first | done | with_reducible rfl)⟩) (by assumption) ?_
    simp only [Act.put, List.setIfInBounds_toArray, List.set_cons_zero, List.set_cons_succ]
    refine wpAnyH_takes (i := 21) (v := (.bool true)) (some 7) rfl rfl (by kernel_rfl) (by kernel_rfl) (by kernel_rfl) (fun _ _ _ h => h) (Or.inl ⟨by rfl, (by intro W9 hSw; have s0 := hSw.1.c0; have s1 := hSw.1.c1; have s2 := hSw.1.c2; have s3 := hSw.1.c3; have s4 := hSw.2.1; have s5 := hSw.2.2; clear hSw; go_simp; first | done | with_reducible rfl)⟩) (by assumption) ?_
    simp only [Act.put, List.setIfInBounds_toArray, List.set_cons_zero, List.set_cons_succ]
    refine wpAnyH_done (by kernel_rfl) ?_ _
    clear hHeld XV
    go_wp2_with fail
    refine bodyPost_ret (v := .tuple #[.agg #[.int .i64 room, .slice none 0 0, .slice (some ⟨b, off + 2, none⟩) (n2 - 1) (c2 - 1), .slice C n3 c3], .int .i64 s.2, .int .i64 s.1, .bool true]) ?_ rfl ?_
    · simp [results, Try.results16, go_sem, k0, k1, k2, k3]
    exact ⟨_, rfl, HM.out⟩
end Go.Proofs.Ytjpnfjiccckaiaa

