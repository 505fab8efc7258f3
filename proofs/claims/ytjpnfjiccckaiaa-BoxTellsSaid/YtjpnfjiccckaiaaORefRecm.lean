/- The document's Recv where nobody waits to send, by its contract. -/
import Derived.Test.YtjpnfjiccckaiaaORefRecv
namespace Go.Proofs.Ytjpnfjiccckaiaa
open Go.RowKit
open Mp (Bo)
set_option linter.unusedVariables false

set_option maxHeartbeats 1600000 in
theorem refRecv_msgs (room m : Int) (ms recv : List Int) (A B C : Option Addr) (n1 n2 n3 c1 c2 c3 : Nat) (g : Int) (w : World) (h : Tri w A n1 c1 B n2 c2 C n3 c3 ⟨room, m :: ms, [], recv⟩) :
    Calls Try.prog 16 #[.agg #[.int .i64 room, .slice A n1 c1, .slice B n2 c2, .slice C n3 c3], .int .i64 g] w (RRecvE w (⟨room, ms, [], recv⟩, m, 0, true)) := by
  obtain ⟨W0, hW0, hX0⟩ := A4.start w (.int .i64 room) (.slice A n1 c1) (.slice B n2 c2) (.slice C n3 c3) (.int .i64 0) (.slice none 0 0) (.slice none 0 0) (.slice none 0 0) 26 26
  have p0 := hX0.p.c0
  have p1 := hX0.p.c1
  have p2 := hX0.p.c2
  have p3 := hX0.p.c3
  have r0 := hX0.r.c0
  have r1 := hX0.r.c1
  have r2 := hX0.r.c2
  have r3 := hX0.r.c3
  have r4 := hX0.r.f0
  have r5 := hX0.r.f1
  have r6 := hX0.r.f2
  have r7 := hX0.r.f3
  have hl1 := h.m.len
  have hl2 := h.s.len
  have hl3 := h.r.len
  have X0 := Lib.hid hX0
  have H := Lib.hid h
  have E0 := Lib.hid hW0
  clear hX0 hW0 h
  have n0 : 0 < n1 := by simp at hl1; omega
  have n2' : n2 = 0 := by simp at hl2; omega
  obtain ⟨b, off, rfl, hbk, hcs⟩ := H.out.m.cells n0
  have hc0 := hcs 0 m rfl
  have hT := H.out.m.slice 1 n0
  have hcap := H.out.m.cap
  have hcm := H.out.m.most
  rw [Nat.add_zero] at hc0
  have hc1 := keepcell X0.out.below hc0
  have hcl := hc1
  rw [E0.out] at hcl
  have z2 : ((n2 : Int) == 0) = true := by rw [beq_iff_eq]; omega
  clear hcs hc0 hl1 hl2 hl3 n2'
  have hn1 : (0 : Int) < (n1 : Int) := by omega
  have hn2 : ((n1 : Int) == 0) = false := by rw [beq_eq_false_iff_ne]; omega
  have hn3 : (n1 : Int) ≤ (c1 : Int) := by omega
  have hn4 : (1 : Int) ≤ (c1 : Int) := by omega
  have hn5 : (1 : Int) ≤ (n1 : Int) := by omega
  have hn6 : 1 ≤ c1 := by omega
  by_cases hc : c1 = 1
  · subst hc
    obtain rfl : n1 = 1 := by omega
    rw [if_pos rfl] at hT
    have HT : Hid (Row w (some ⟨b, off, none⟩) (1 - 1) (1 - 1) ms) := Lib.hid hT
    clear hT
    go_enter Try.func16, Try.ntmps16
    go_wp2_with fail
    rw [← E0.out]
    clear E0
    clear hcl
    go_region
    have XV := X0
    obtain ⟨V, hV⟩ : ∃ V, V = W0 := ⟨_, rfl⟩
    rw [← hV] at XV
    have k0 : (V.setCell ⟨w.heap.size + 1, 0, none⟩ (.int .i64 room)).cell? ⟨w.heap.size + 1, 0, none⟩ = some (.int .i64 room) := (XV.out.r.set0 _).c0
    have k1 : ((V.setCell ⟨w.heap.size + 1, 0, none⟩ (.int .i64 room)).setCell ⟨w.heap.size + 1, 1, none⟩ (.slice (some ⟨b, off, none⟩) (1 - 1) (1 - 1))).cell? ⟨w.heap.size + 1, 1, none⟩ = some (.slice (some ⟨b, off, none⟩) (1 - 1) (1 - 1)) := ((XV.out.r.set0 _).set1 _).c1
    have k2 : (((V.setCell ⟨w.heap.size + 1, 0, none⟩ (.int .i64 room)).setCell ⟨w.heap.size + 1, 1, none⟩ (.slice (some ⟨b, off, none⟩) (1 - 1) (1 - 1))).setCell ⟨w.heap.size + 1, 2, none⟩ (.slice none 0 0)).cell? ⟨w.heap.size + 1, 2, none⟩ = some (.slice none 0 0) := (((XV.out.r.set0 _).set1 _).set2 _).c2
    have k3 := (XV.out.r.put (.int .i64 room) (.slice (some ⟨b, off, none⟩) (1 - 1) (1 - 1)) (.slice none 0 0) (.slice C n3 c3)).c3
    rw [hV] at k0 k1 k2 k3
    clear XV
    have hbe := put4_below (x := .int .i64 room) (y := (.slice (some ⟨b, off, none⟩) (1 - 1) (1 - 1))) (z := (.slice none 0 0)) (u := (.slice C n3 c3)) X0.out.below (show w.heap.size ≤ w.heap.size + 1 by omega)
    have HM := Lib.hid (tellR (b := ⟨room, ms, [], recv⟩) (HT.out.below hbe) (PR.nothing _) (H.out.r.below hbe) hbe)
    clear hbe r0 r1 r2 r3 r4 r5 r6 r7 p0 p1 p2 p3 hV
    go_wp2_with fail
    refine bodyPost_ret (v := (.tuple #[.agg #[.int .i64 room, .slice (some ⟨b, off, none⟩) (1 - 1) (1 - 1), .slice none 0 0, .slice C n3 c3], .int .i64 m, .int .i64 0, .bool true])) ?_ rfl ?_
    · simp [results, Try.results16, go_sem, k0, k1, k2, k3]
    exact ⟨_, rfl, HM.out.drew⟩
  · rw [if_neg hc] at hT
    have HT : Hid (Row w (some ⟨b, off + 1, none⟩) (n1 - 1) (c1 - 1) ms) := Lib.hid hT
    clear hT
    go_enter Try.func16, Try.ntmps16
    go_wp2_with fail
    rw [← E0.out]
    clear E0
    clear hcl
    go_region
    have XV := X0
    obtain ⟨V, hV⟩ : ∃ V, V = W0 := ⟨_, rfl⟩
    rw [← hV] at XV
    have k0 : (V.setCell ⟨w.heap.size + 1, 0, none⟩ (.int .i64 room)).cell? ⟨w.heap.size + 1, 0, none⟩ = some (.int .i64 room) := (XV.out.r.set0 _).c0
    have k1 : ((V.setCell ⟨w.heap.size + 1, 0, none⟩ (.int .i64 room)).setCell ⟨w.heap.size + 1, 1, none⟩ (.slice (some ⟨b, off + 1, none⟩) (n1 - 1) (c1 - 1))).cell? ⟨w.heap.size + 1, 1, none⟩ = some (.slice (some ⟨b, off + 1, none⟩) (n1 - 1) (c1 - 1)) := ((XV.out.r.set0 _).set1 _).c1
    have k2 : (((V.setCell ⟨w.heap.size + 1, 0, none⟩ (.int .i64 room)).setCell ⟨w.heap.size + 1, 1, none⟩ (.slice (some ⟨b, off + 1, none⟩) (n1 - 1) (c1 - 1))).setCell ⟨w.heap.size + 1, 2, none⟩ (.slice none 0 0)).cell? ⟨w.heap.size + 1, 2, none⟩ = some (.slice none 0 0) := (((XV.out.r.set0 _).set1 _).set2 _).c2
    have k3 := (XV.out.r.put (.int .i64 room) (.slice (some ⟨b, off + 1, none⟩) (n1 - 1) (c1 - 1)) (.slice none 0 0) (.slice C n3 c3)).c3
    rw [hV] at k0 k1 k2 k3
    clear XV
    have hbe := put4_below (x := .int .i64 room) (y := (.slice (some ⟨b, off + 1, none⟩) (n1 - 1) (c1 - 1))) (z := (.slice none 0 0)) (u := (.slice C n3 c3)) X0.out.below (show w.heap.size ≤ w.heap.size + 1 by omega)
    have HM := Lib.hid (tellR (b := ⟨room, ms, [], recv⟩) (HT.out.below hbe) (PR.nothing _) (H.out.r.below hbe) hbe)
    clear hbe r0 r1 r2 r3 r4 r5 r6 r7 p0 p1 p2 p3 hV
    go_wp2_with fail
    refine bodyPost_ret (v := (.tuple #[.agg #[.int .i64 room, .slice (some ⟨b, off + 1, none⟩) (n1 - 1) (c1 - 1), .slice none 0 0, .slice C n3 c3], .int .i64 m, .int .i64 0, .bool true])) ?_ rfl ?_
    · simp [results, Try.results16, go_sem, k0, k1, k2, k3]
    exact ⟨_, rfl, HM.out.drew⟩
end Go.Proofs.Ytjpnfjiccckaiaa

