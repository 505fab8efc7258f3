/- The document's Send, by its contract. -/
import Derived.Test.YtjpnfjiccckaiaaOEmp
import Derived.BigRegion
namespace Go.Proofs.Ytjpnfjiccckaiaa
open Go.RowKit
open Mp (Bo)
set_option linter.unusedVariables false

theorem from_zero (A : Option Addr) : From 0 A := fun _ _ => Nat.zero_le _
theorem Row.put4 {W : World} {A : Option Addr} {n c X : Nat} {zs : List Int} {x y z u : Value} (h : Row W A n c zs) (f : From (X + 1) A) : Row ((((W.setCell ⟨X, 0, none⟩ x).setCell ⟨X, 1, none⟩ y).setCell ⟨X, 2, none⟩ z).setCell ⟨X, 3, none⟩ u) A n c zs := by
  have hne : ∀ ad, A = some ad → ad.block ≠ X := fun ad e => by have := f ad e; omega
  exact (((h.farj hne).farj hne).farj hne).farj hne
theorem PR.put4 {W : World} {A : Option Addr} {n c X : Nat} {zs : List (Int × Int)} {x y z u : Value} (h : PR W A n c zs) (f : From (X + 1) A) : PR ((((W.setCell ⟨X, 0, none⟩ x).setCell ⟨X, 1, none⟩ y).setCell ⟨X, 2, none⟩ z).setCell ⟨X, 3, none⟩ u) A n c zs := by
  have hne : ∀ ad, A = some ad → ad.block ≠ X := fun ad e => by have := f ad e; omega
  exact (((h.far hne).far hne).far hne).far hne
/-- What the document's Send leaves. -/
def RSendE (w : World) (r : Bo × Int × Bool) (e : Ending) (w' : World) : Prop := ∃ bv, e = .returned (.tuple #[bv, .int .i64 r.2.1, .bool r.2.2]) ∧ TellB w 0 r.1 bv w'
theorem tellR {w W : World} {b : Bo} {A1 A2 A3 : Option Addr} {n1 c1 n2 c2 n3 c3 : Nat} (h1 : Row W A1 n1 c1 b.msgs) (h2 : PR W A2 n2 c2 b.send) (h3 : Row W A3 n3 c3 b.recv) (hb : Below w.heap.size w W) : TellB w 0 b (.agg #[.int .i64 b.room, .slice A1 n1 c1, .slice A2 n2 c2, .slice A3 n3 c3]) W :=
  ⟨A1, n1, c1, A2, n2, c2, A3, n3, c3, rfl, ⟨h1, h2, h3⟩, from_zero _, from_zero _, from_zero _, hb⟩
theorem TellB.drew {w W : World} {base : Nat} {b : Bo} {v : Value} (h : TellB w base b v W) : TellB w base b v W.drew := by
  obtain ⟨A1, n1, c1, A2, n2, c2, A3, n3, c3, rfl, ht, f1, f2, f3, hb⟩ := h
  exact ⟨A1, n1, c1, A2, n2, c2, A3, n3, c3, rfl, ht.drew, f1, f2, f3, hb.drew⟩
set_option maxHeartbeats 1600000 in
theorem refSend_wait (room : Int) (msgs : List Int) (send : List (Int × Int)) (z : Int) (t : List Int) (A B C : Option Addr) (n1 n2 n3 c1 c2 c3 : Nat) (g n : Int) (w : World) (h : Tri w A n1 c1 B n2 c2 C n3 c3 ⟨room, msgs, send, z :: t⟩) :
    Calls Try.prog 14 #[.agg #[.int .i64 room, .slice A n1 c1, .slice B n2 c2, .slice C n3 c3], .int .i64 g, .int .i64 n] w (RSendE w (⟨room, msgs, send, t⟩, z, true)) := by
  obtain ⟨W0, hW0, hX0⟩ := A4.start w (.int .i64 room) (.slice A n1 c1) (.slice B n2 c2) (.slice C n3 c3) (.int .i64 0) (.slice none 0 0) (.slice none 0 0) (.slice none 0 0) 26 26
  have p0 := hX0.p.c0
  have p1 := hX0.p.c1
  have p2 := hX0.p.c2
  have p3 := hX0.p.c3
  have r0 := hX0.r.c0
  have r1 := hX0.r.c1
  have r2 := hX0.r.c2
  have r3 := hX0.r.c3
  have r4 := hX0.r.f0
  have r5 := hX0.r.f1
  have r6 := hX0.r.f2
  have r7 := hX0.r.f3
  have hl1 := h.m.len
  have hl2 := h.s.len
  have hl3 := h.r.len
  have X0 := Lib.hid hX0
  have H := Lib.hid h
  have E0 := Lib.hid hW0
  clear hX0 hW0 h
  have n0 : 0 < n3 := by simp at hl3; omega
  obtain ⟨b, off, rfl, hbk, hcs⟩ := H.out.r.cells n0
  have hc0 := hcs 0 z rfl
  have hT := H.out.r.slice 1 n0
  have hcap := H.out.r.cap
  have hcm := H.out.r.most
  rw [Nat.add_zero] at hc0
  have hc1 := keepcell X0.out.below hc0
  have hc2 := keepcell (put4_below (x := .int .i64 room) (y := .slice A n1 c1) (z := .slice B n2 c2) (u := .slice (if c3 = 1 then some ⟨b, off, none⟩ else some ⟨b, off + 1, none⟩) (n3 - 1) (c3 - 1)) X0.out.below (show w.heap.size ≤ w.heap.size + 1 by omega)) hc0
  clear hcs hc0 hl1 hl2 hl3
  have hn1 : (0 : Int) < (n3 : Int) := by omega
  have hn3 : (n3 : Int) ≤ (c3 : Int) := by omega
  have hn4 : (1 : Int) ≤ (c3 : Int) := by omega
  have hn5 : (1 : Int) ≤ (n3 : Int) := by omega
  have hn6 : 1 ≤ c3 := by omega
  by_cases hc : c3 = 1
  · subst hc
    obtain rfl : n3 = 1 := by omega
    rw [if_pos rfl] at hT hc2
    have HT : Hid (Row w (some ⟨b, off, none⟩) (1 - 1) (1 - 1) t) := Lib.hid hT
    clear hT
    go_enter Try.func14, Try.ntmps14
    go_wp2_with fail
    rw [← E0.out]
    clear E0
    go_region
    have XV := X0
    obtain ⟨V, hV⟩ : ∃ V, V = W0 := ⟨_, rfl⟩
    rw [← hV] at XV
    have k0 : (V.setCell ⟨w.heap.size + 1, 0, none⟩ (.int .i64 room)).cell? ⟨w.heap.size + 1, 0, none⟩ = some (.int .i64 room) := (XV.out.r.set0 _).c0
    have k1 : ((V.setCell ⟨w.heap.size + 1, 0, none⟩ (.int .i64 room)).setCell ⟨w.heap.size + 1, 1, none⟩ (.slice A n1 c1)).cell? ⟨w.heap.size + 1, 1, none⟩ = some (.slice A n1 c1) := ((XV.out.r.set0 _).set1 _).c1
    have k2 : (((V.setCell ⟨w.heap.size + 1, 0, none⟩ (.int .i64 room)).setCell ⟨w.heap.size + 1, 1, none⟩ (.slice A n1 c1)).setCell ⟨w.heap.size + 1, 2, none⟩ (.slice B n2 c2)).cell? ⟨w.heap.size + 1, 2, none⟩ = some (.slice B n2 c2) := (((XV.out.r.set0 _).set1 _).set2 _).c2
    have k3 := (XV.out.r.put (.int .i64 room) (.slice A n1 c1) (.slice B n2 c2) (.slice (some ⟨b, off, none⟩) (1 - 1) (1 - 1))).c3
    rw [hV] at k0 k1 k2 k3
    clear XV
    have hbe := put4_below (x := .int .i64 room) (y := .slice A n1 c1) (z := .slice B n2 c2) (u := .slice (some ⟨b, off, none⟩) (1 - 1) (1 - 1)) X0.out.below (show w.heap.size ≤ w.heap.size + 1 by omega)
    have HM := Lib.hid (tellR (b := ⟨room, msgs, send, t⟩) (H.out.m.below hbe) (H.out.s.below hbe) (HT.out.below hbe) hbe)
    clear hbe r0 r1 r2 r3 r4 r5 r6 r7 p0 p1 p2 p3 hV
    go_wp2_with fail
    refine bodyPost_ret (v := .tuple #[.agg #[.int .i64 room, .slice A n1 c1, .slice B n2 c2, .slice (some ⟨b, off, none⟩) (1 - 1) (1 - 1)], .int .i64 z, .bool true]) ?_ rfl ?_
    · simp [results, Try.results14, go_sem, k0, k1, k2, k3]
    exact ⟨_, rfl, HM.out.drew⟩
  · rw [if_neg hc] at hT hc2
    have HT : Hid (Row w (some ⟨b, off + 1, none⟩) (n3 - 1) (c3 - 1) t) := Lib.hid hT
    clear hT
    go_enter Try.func14, Try.ntmps14
    go_wp2_with fail
    rw [← E0.out]
    clear E0
    go_region
    have XV := X0
    obtain ⟨V, hV⟩ : ∃ V, V = W0 := ⟨_, rfl⟩
    rw [← hV] at XV
    have k0 : (V.setCell ⟨w.heap.size + 1, 0, none⟩ (.int .i64 room)).cell? ⟨w.heap.size + 1, 0, none⟩ = some (.int .i64 room) := (XV.out.r.set0 _).c0
    have k1 : ((V.setCell ⟨w.heap.size + 1, 0, none⟩ (.int .i64 room)).setCell ⟨w.heap.size + 1, 1, none⟩ (.slice A n1 c1)).cell? ⟨w.heap.size + 1, 1, none⟩ = some (.slice A n1 c1) := ((XV.out.r.set0 _).set1 _).c1
    have k2 : (((V.setCell ⟨w.heap.size + 1, 0, none⟩ (.int .i64 room)).setCell ⟨w.heap.size + 1, 1, none⟩ (.slice A n1 c1)).setCell ⟨w.heap.size + 1, 2, none⟩ (.slice B n2 c2)).cell? ⟨w.heap.size + 1, 2, none⟩ = some (.slice B n2 c2) := (((XV.out.r.set0 _).set1 _).set2 _).c2
    have k3 := (XV.out.r.put (.int .i64 room) (.slice A n1 c1) (.slice B n2 c2) (.slice (some ⟨b, off + 1, none⟩) (n3 - 1) (c3 - 1))).c3
    rw [hV] at k0 k1 k2 k3
    clear XV
    have hbe := put4_below (x := .int .i64 room) (y := .slice A n1 c1) (z := .slice B n2 c2) (u := .slice (some ⟨b, off + 1, none⟩) (n3 - 1) (c3 - 1)) X0.out.below (show w.heap.size ≤ w.heap.size + 1 by omega)
    have HM := Lib.hid (tellR (b := ⟨room, msgs, send, t⟩) (H.out.m.below hbe) (H.out.s.below hbe) (HT.out.below hbe) hbe)
    clear hbe r0 r1 r2 r3 r4 r5 r6 r7 p0 p1 p2 p3 hV
    go_wp2_with fail
    refine bodyPost_ret (v := .tuple #[.agg #[.int .i64 room, .slice A n1 c1, .slice B n2 c2, .slice (some ⟨b, off + 1, none⟩) (n3 - 1) (c3 - 1)], .int .i64 z, .bool true]) ?_ rfl ?_
    · simp [results, Try.results14, go_sem, k0, k1, k2, k3]
    exact ⟨_, rfl, HM.out.drew⟩
end Go.Proofs.Ytjpnfjiccckaiaa

