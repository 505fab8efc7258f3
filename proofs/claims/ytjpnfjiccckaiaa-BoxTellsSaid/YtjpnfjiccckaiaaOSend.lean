/- box.Send, by its contract. -/
import Derived.Test.YtjpnfjiccckaiaaOBox
namespace Go.Proofs.Ytjpnfjiccckaiaa
open Go.RowKit
open Mp (Bo)
set_option linter.unusedVariables false

/-- What box.Send leaves. -/
def SendE (w : World) (r : Bo × Int × Bool) (e : Ending) (w' : World) : Prop := ∃ bv, e = .returned (.tuple #[bv, .int .i64 r.2.1, .bool r.2.2]) ∧ TellB w w.heap.size r.1 bv w'
theorem from_cut {B b off k c : Nat} (h : From B (some ⟨b, off, none⟩)) : From B (if c = 1 then some ⟨b, off, none⟩ else some ⟨b, off + k, none⟩) := by
  intro ad e
  have := h _ rfl
  split at e <;> (injection e with e; subst e; exact this)
theorem Tri.setp {W : World} {A1 A2 A3 : Option Addr} {n1 c1 n2 c2 n3 c3 X j : Nat} {b : Bo} {u : Value} (h : Tri W A1 n1 c1 A2 n2 c2 A3 n3 c3 b) {B : Nat} (hX : X < B) (f1 : From B A1) (f2 : From B A2) (f3 : From B A3) : Tri (W.setCell ⟨X, j, none⟩ u) A1 n1 c1 A2 n2 c2 A3 n3 c3 b := h.set (f1.mono (by omega)) (f2.mono (by omega)) (f3.mono (by omega))
set_option maxHeartbeats 1600000 in
theorem send_wait (room : Int) (msgs : List Int) (send : List (Int × Int)) (z : Int) (t : List Int) (A B C : Option Addr) (n1 n2 n3 c1 c2 c3 : Nat) (g n : Int) (w : World) (h : Tri w A n1 c1 B n2 c2 C n3 c3 ⟨room, msgs, send, z :: t⟩) (h1 : n1 ≤ 100000) (h2 : n2 ≤ 100000) (h3 : n3 ≤ 100000) :
    Calls Try.prog 13 #[.agg #[.int .i64 room, .slice A n1 c1, .slice B n2 c2, .slice C n3 c3], .int .i64 g, .int .i64 n] w (SendE w (⟨room, msgs, send, t⟩, z, true)) := by
  obtain ⟨recv, hrecv⟩ : ∃ recv, recv = z :: t := ⟨_, rfl⟩
  rw [← hrecv] at h
  obtain ⟨W0, hW0, hX0⟩ := A4.start w (.int .i64 room) (.slice A n1 c1) (.slice B n2 c2) (.slice C n3 c3) (.int .i64 0) (.slice none 0 0) (.slice none 0 0) (.slice none 0 0) 31 31
  have p0 := hX0.p.c0
  have p1 := hX0.p.c1
  have p2 := hX0.p.c2
  have p3 := hX0.p.c3
  have hl1 := h.m.len
  have hl2 := h.s.len
  have hl3 := h.r.len
  have X0 := Lib.hid hX0
  have H := Lib.hid (h.step hX0.below)
  have E0 := Lib.hid hW0
  clear hX0 hW0 h
  go_enter Try.func13, Try.ntmps13
  go_wp2_with fail
  rw [← E0.out]
  clear E0
  refine (apart_any ⟨room, msgs, send, recv⟩ A B C n1 n2 n3 c1 c2 c3 _ H.out h1 h2 h3).mono ?_
  rintro e w1 ⟨v1, v2, v3, m1, m2, m3, rfl, ho, hb⟩
  obtain ⟨a1, d1, a2, d2, a3, d3, rfl, rfl, rfl, ht, f1', f2', f3'⟩ := ho.tri
  obtain ⟨l1, l2, l3⟩ := ho.lens
  simp only at l1 l2 l3 hl1 hl2 hl3
  obtain rfl : m1 = n1 := by omega
  obtain rfl : m2 = n2 := by omega
  obtain rfl : m3 = n3 := by omega
  have hs := X0.out.size
  have hX1 := X0.out.step hb
  have e0 := hX1.p.c0
  have e1 := hX1.p.c1
  have e2 := hX1.p.c2
  have e3 := hX1.p.c3
  have e4 := hX1.p.f0
  have e5 := hX1.p.f1
  have e6 := hX1.p.f2
  have e7 := hX1.p.f3
  have X1 := Lib.hid (hX1.putp (.int .i64 room) (.slice a1 m1 d1) (.slice a2 m2 d2) (.slice a3 m3 d3))
  have O1 := Lib.hid ((ho.mono (by omega : w.heap.size + 2 ≤ W0.heap.size)).put (X := w.heap.size) (x := .int .i64 room) (y := .slice a1 m1 d1) (z := .slice a2 m2 d2) (u := .slice a3 m3 d3) (by omega))
  have f1 := f1'.mono (by omega : w.heap.size + 2 ≤ W0.heap.size)
  have f2 := f2'.mono (by omega : w.heap.size + 2 ≤ W0.heap.size)
  have f3 := f3'.mono (by omega : w.heap.size + 2 ≤ W0.heap.size)
  have T1 := Lib.hid (ht.put (X := w.heap.size) (x := .int .i64 room) (y := .slice a1 m1 d1) (z := .slice a2 m2 d2) (u := .slice a3 m3 d3) (f1.mono (by omega)) (f2.mono (by omega)) (f3.mono (by omega)))
  have F1 := Lib.hid f1
  have F2 := Lib.hid f2
  have F3 := Lib.hid f3
  clear ho hb ht f1 f2 f3 f1' f2' f3' hX1 H p0 p1 p2 p3
  go_wp2_with fail
  generalize (World.setCell (World.setCell (World.setCell (World.setCell w1 ⟨w.heap.size, 0, none⟩ (.int .i64 room)) ⟨w.heap.size, 1, none⟩ (.slice a1 m1 d1)) ⟨w.heap.size, 2, none⟩ (.slice a2 m2 d2)) ⟨w.heap.size, 3, none⟩ (.slice a3 m3 d3)) = V at *
  clear e0 e1 e2 e3 e4 e5 e6 e7
  have p0 := X1.out.p.c0
  have p1 := X1.out.p.c1
  have p2 := X1.out.p.c2
  have p3 := X1.out.p.c3
  subst hrecv
  have n0 : 0 < m3 := by simp at l3; omega
  obtain ⟨b, off, rfl, hbk, hcs⟩ := T1.out.r.cells n0
  have hc0 := hcs 0 z rfl
  rw [Nat.add_zero] at hc0
  have hT := T1.out.r.slice 1 n0
  have hF := from_cut (k := 1) (c := d3) F3.out
  refine (cut_int1 z b off m3 d3 V n0 T1.out.r.cap T1.out.r.most hc0).mono ?_
  rintro e w2 ⟨rfl, hb2⟩
  generalize (if d3 = 1 then some (⟨b, off, none⟩ : Addr) else some ⟨b, off + 1, none⟩) = a4 at *
  have T2 := Lib.hid (Tri.step (b := ⟨room, msgs, send, t⟩) ⟨T1.out.m, T1.out.s, hT⟩ hb2)
  have X2 := Lib.hid (X1.out.step hb2)
  have F4 := Lib.hid hF
  have q0 := X2.out.p.c0
  have q1 := X2.out.p.c1
  have q2 := X2.out.p.c2
  have q3 := X2.out.p.c3
  have q4 := X2.out.p.f3
  have r0 := X2.out.r.c0
  have r1 := X2.out.r.c1
  have r2 := X2.out.r.c2
  have r3 := X2.out.r.c3
  have r4 := X2.out.r.f0
  have r5 := X2.out.r.f1
  have r6 := X2.out.r.f2
  have r7 := X2.out.r.f3
  clear p0 p1 p2 p3 hcs hc0 hT hF hb2 O1 X1
  have X3 := X2.out.setp3 (.slice a4 (m3 - 1) (d3 - 1))
  have T3 := T2.out.setp (X := w.heap.size) (j := 3) (u := .slice a4 (m3 - 1) (d3 - 1)) (by omega : w.heap.size < w.heap.size + 2) F1.out F2.out F4.out
  have HM := Lib.hid (X3.told T3 F1.out F2.out F4.out rfl)
  have K := X3.r.put (.int .i64 room) (.slice a1 m1 d1) (.slice a2 m2 d2) (.slice a4 (m3 - 1) (d3 - 1))
  have k0 := K.c0
  have k1 := K.c1
  have k2 := K.c2
  have k3 := K.c3
  clear K X3 T3
  go_wp2_with fail
  refine bodyPost_ret (v := (.tuple #[.agg #[.int .i64 room, .slice a1 m1 d1, .slice a2 m2 d2, .slice a4 (m3 - 1) (d3 - 1)], .int .i64 z, .bool true])) ?_ rfl ?_
  · simp [results, Try.results13, go_sem, k0, k1, k2, k3]
  exact ⟨_, rfl, HM.out⟩
set_option maxHeartbeats 1600000 in
theorem send_room (room : Int) (msgs : List Int) (send : List (Int × Int)) (A B C : Option Addr) (n1 n2 n3 c1 c2 c3 : Nat) (g n : Int) (w : World) (h : Tri w A n1 c1 B n2 c2 C n3 c3 ⟨room, msgs, send, []⟩) (h1 : n1 ≤ 100000) (h2 : n2 ≤ 100000) (h3 : n3 ≤ 100000) (hroom : (n1 : Int) < room) :
    Calls Try.prog 13 #[.agg #[.int .i64 room, .slice A n1 c1, .slice B n2 c2, .slice C n3 c3], .int .i64 g, .int .i64 n] w (SendE w (⟨room, msgs ++ [n], send, []⟩, 0, true)) := by
  obtain ⟨recv, hrecv⟩ : ∃ recv, recv = ([] : List Int) := ⟨_, rfl⟩
  rw [← hrecv] at h
  obtain ⟨W0, hW0, hX0⟩ := A4.start w (.int .i64 room) (.slice A n1 c1) (.slice B n2 c2) (.slice C n3 c3) (.int .i64 0) (.slice none 0 0) (.slice none 0 0) (.slice none 0 0) 31 31
  have p0 := hX0.p.c0
  have p1 := hX0.p.c1
  have p2 := hX0.p.c2
  have p3 := hX0.p.c3
  have hl1 := h.m.len
  have hl2 := h.s.len
  have hl3 := h.r.len
  have X0 := Lib.hid hX0
  have H := Lib.hid (h.step hX0.below)
  have E0 := Lib.hid hW0
  clear hX0 hW0 h
  go_enter Try.func13, Try.ntmps13
  go_wp2_with fail
  rw [← E0.out]
  clear E0
  refine (apart_any ⟨room, msgs, send, recv⟩ A B C n1 n2 n3 c1 c2 c3 _ H.out h1 h2 h3).mono ?_
  rintro e w1 ⟨v1, v2, v3, m1, m2, m3, rfl, ho, hb⟩
  obtain ⟨a1, d1, a2, d2, a3, d3, rfl, rfl, rfl, ht, f1', f2', f3'⟩ := ho.tri
  obtain ⟨l1, l2, l3⟩ := ho.lens
  simp only at l1 l2 l3 hl1 hl2 hl3
  obtain rfl : m1 = n1 := by omega
  obtain rfl : m2 = n2 := by omega
  obtain rfl : m3 = n3 := by omega
  have hs := X0.out.size
  have hX1 := X0.out.step hb
  have e0 := hX1.p.c0
  have e1 := hX1.p.c1
  have e2 := hX1.p.c2
  have e3 := hX1.p.c3
  have e4 := hX1.p.f0
  have e5 := hX1.p.f1
  have e6 := hX1.p.f2
  have e7 := hX1.p.f3
  have X1 := Lib.hid (hX1.putp (.int .i64 room) (.slice a1 m1 d1) (.slice a2 m2 d2) (.slice a3 m3 d3))
  have O1 := Lib.hid ((ho.mono (by omega : w.heap.size + 2 ≤ W0.heap.size)).put (X := w.heap.size) (x := .int .i64 room) (y := .slice a1 m1 d1) (z := .slice a2 m2 d2) (u := .slice a3 m3 d3) (by omega))
  have f1 := f1'.mono (by omega : w.heap.size + 2 ≤ W0.heap.size)
  have f2 := f2'.mono (by omega : w.heap.size + 2 ≤ W0.heap.size)
  have f3 := f3'.mono (by omega : w.heap.size + 2 ≤ W0.heap.size)
  have T1 := Lib.hid (ht.put (X := w.heap.size) (x := .int .i64 room) (y := .slice a1 m1 d1) (z := .slice a2 m2 d2) (u := .slice a3 m3 d3) (f1.mono (by omega)) (f2.mono (by omega)) (f3.mono (by omega)))
  have F1 := Lib.hid f1
  have F2 := Lib.hid f2
  have F3 := Lib.hid f3
  clear ho hb ht f1 f2 f3 f1' f2' f3' hX1 H p0 p1 p2 p3
  go_wp2_with fail
  generalize (World.setCell (World.setCell (World.setCell (World.setCell w1 ⟨w.heap.size, 0, none⟩ (.int .i64 room)) ⟨w.heap.size, 1, none⟩ (.slice a1 m1 d1)) ⟨w.heap.size, 2, none⟩ (.slice a2 m2 d2)) ⟨w.heap.size, 3, none⟩ (.slice a3 m3 d3)) = V at *
  clear e0 e1 e2 e3 e4 e5 e6 e7
  have p0 := X1.out.p.c0
  have p1 := X1.out.p.c1
  have p2 := X1.out.p.c2
  have p3 := X1.out.p.c3
  subst hrecv
  have t1 : decide ((m1 : Int) < room) = true := by simpa using hroom
  have n0 : m3 = 0 := by simp at l3; omega
  subst n0
  refine (cut_int0 a3 d3 V).mono ?_
  rintro e w2 ⟨rfl, hb2⟩
  have X2 := Lib.hid (X1.out.step hb2)
  have O2 := Lib.hid (O1.out.step hb2)
  have q0 := X2.out.p.c0
  have q1 := X2.out.p.c1
  have q2 := X2.out.p.c2
  have q3 := X2.out.p.c3
  clear p0 p1 p2 p3 hb2 O1 X1 T1 F2 F3
  have X3 := Lib.hid (X2.out.step (below_new w2 (.cells #[.int .i64 n] 2)))
  have O3 := Lib.hid (O2.out.alloc (.cells #[.int .i64 n] 2))
  have R3 := Lib.hid (row_at64 w2 n _ rfl)
  go_wp2_with (at_builtin; refine wpList_append_row64 rfl _ _ rfl (w.heap.size + 2) (.slice a1 m1 d1) m1 msgs rfl O3.out.m _ 1 1 [n] rfl R3.out (by omega) (by have := X3.out.size; omega) ?_)
  intro v4 w4 ho4 hg4
  obtain ⟨a4, d4, rfl⟩ := own_form ho4
  have X4 := Lib.hid (X3.out.grown hg4 (own_from F1.out))
  have O4 := Lib.hid (O3.out.msg (l := msgs ++ [n]) (by rw [List.map_append]; exact ho4) hg4)
  clear ho4 hg4 X3 O3 R3 O2 q0 q1 q2 q3 X2
  have q0 := X4.out.p.c0
  have q1 := X4.out.p.c1
  have q2 := X4.out.p.c2
  have q3 := X4.out.p.c3
  have q4 := X4.out.p.f1
  have r0 := X4.out.r.c0
  have r1 := X4.out.r.c1
  have r2 := X4.out.r.c2
  have r3 := X4.out.r.c3
  have r4 := X4.out.r.f0
  have r5 := X4.out.r.f1
  have r6 := X4.out.r.f2
  have r7 := X4.out.r.f3
  obtain ⟨t4, g1, g2, g3⟩ := O4.out.read
  have X3 := X4.out.setp1 (.slice a4 (m1 + 1) d4)
  have T3 := t4.setp (X := w.heap.size) (j := 1) (u := .slice a4 (m1 + 1) d4) (by omega : w.heap.size < w.heap.size + 2) g1 g2 g3
  have HM := Lib.hid (X3.told T3 g1 g2 g3 rfl)
  have K := X3.r.put (.int .i64 room) (.slice a4 (m1 + 1) d4) (.slice a2 m2 d2) (.slice a3 0 d3)
  clear t4 g1 g2 g3 O4
  have k0 := K.c0
  have k1 := K.c1
  have k2 := K.c2
  have k3 := K.c3
  clear K X3 T3
  go_wp2_with fail
  refine bodyPost_ret (v := (.tuple #[.agg #[.int .i64 room, .slice a4 (m1 + 1) d4, .slice a2 m2 d2, .slice a3 0 d3], .int .i64 0, .bool true])) ?_ rfl ?_
  · simp [results, Try.results13, go_sem, k0, k1, k2, k3]
  exact ⟨_, rfl, HM.out⟩
set_option maxHeartbeats 1600000 in
theorem send_full (room : Int) (msgs : List Int) (send : List (Int × Int)) (A B C : Option Addr) (n1 n2 n3 c1 c2 c3 : Nat) (g n : Int) (w : World) (h : Tri w A n1 c1 B n2 c2 C n3 c3 ⟨room, msgs, send, []⟩) (h1 : n1 ≤ 100000) (h2 : n2 ≤ 100000) (h3 : n3 ≤ 100000) (hroom : ¬ (n1 : Int) < room) :
    Calls Try.prog 13 #[.agg #[.int .i64 room, .slice A n1 c1, .slice B n2 c2, .slice C n3 c3], .int .i64 g, .int .i64 n] w (SendE w (⟨room, msgs, send ++ [(g, n)], []⟩, 0, false)) := by
  obtain ⟨recv, hrecv⟩ : ∃ recv, recv = ([] : List Int) := ⟨_, rfl⟩
  rw [← hrecv] at h
  obtain ⟨W0, hW0, hX0⟩ := A4.start w (.int .i64 room) (.slice A n1 c1) (.slice B n2 c2) (.slice C n3 c3) (.int .i64 0) (.slice none 0 0) (.slice none 0 0) (.slice none 0 0) 31 31
  have p0 := hX0.p.c0
  have p1 := hX0.p.c1
  have p2 := hX0.p.c2
  have p3 := hX0.p.c3
  have hl1 := h.m.len
  have hl2 := h.s.len
  have hl3 := h.r.len
  have X0 := Lib.hid hX0
  have H := Lib.hid (h.step hX0.below)
  have E0 := Lib.hid hW0
  clear hX0 hW0 h
  go_enter Try.func13, Try.ntmps13
  go_wp2_with fail
  rw [← E0.out]
  clear E0
  refine (apart_any ⟨room, msgs, send, recv⟩ A B C n1 n2 n3 c1 c2 c3 _ H.out h1 h2 h3).mono ?_
  rintro e w1 ⟨v1, v2, v3, m1, m2, m3, rfl, ho, hb⟩
  obtain ⟨a1, d1, a2, d2, a3, d3, rfl, rfl, rfl, ht, f1', f2', f3'⟩ := ho.tri
  obtain ⟨l1, l2, l3⟩ := ho.lens
  simp only at l1 l2 l3 hl1 hl2 hl3
  obtain rfl : m1 = n1 := by omega
  obtain rfl : m2 = n2 := by omega
  obtain rfl : m3 = n3 := by omega
  have hs := X0.out.size
  have hX1 := X0.out.step hb
  have e0 := hX1.p.c0
  have e1 := hX1.p.c1
  have e2 := hX1.p.c2
  have e3 := hX1.p.c3
  have e4 := hX1.p.f0
  have e5 := hX1.p.f1
  have e6 := hX1.p.f2
  have e7 := hX1.p.f3
  have X1 := Lib.hid (hX1.putp (.int .i64 room) (.slice a1 m1 d1) (.slice a2 m2 d2) (.slice a3 m3 d3))
  have O1 := Lib.hid ((ho.mono (by omega : w.heap.size + 2 ≤ W0.heap.size)).put (X := w.heap.size) (x := .int .i64 room) (y := .slice a1 m1 d1) (z := .slice a2 m2 d2) (u := .slice a3 m3 d3) (by omega))
  have f1 := f1'.mono (by omega : w.heap.size + 2 ≤ W0.heap.size)
  have f2 := f2'.mono (by omega : w.heap.size + 2 ≤ W0.heap.size)
  have f3 := f3'.mono (by omega : w.heap.size + 2 ≤ W0.heap.size)
  have T1 := Lib.hid (ht.put (X := w.heap.size) (x := .int .i64 room) (y := .slice a1 m1 d1) (z := .slice a2 m2 d2) (u := .slice a3 m3 d3) (f1.mono (by omega)) (f2.mono (by omega)) (f3.mono (by omega)))
  have F1 := Lib.hid f1
  have F2 := Lib.hid f2
  have F3 := Lib.hid f3
  clear ho hb ht f1 f2 f3 f1' f2' f3' hX1 H p0 p1 p2 p3
  go_wp2_with fail
  generalize (World.setCell (World.setCell (World.setCell (World.setCell w1 ⟨w.heap.size, 0, none⟩ (.int .i64 room)) ⟨w.heap.size, 1, none⟩ (.slice a1 m1 d1)) ⟨w.heap.size, 2, none⟩ (.slice a2 m2 d2)) ⟨w.heap.size, 3, none⟩ (.slice a3 m3 d3)) = V at *
  clear e0 e1 e2 e3 e4 e5 e6 e7
  have p0 := X1.out.p.c0
  have p1 := X1.out.p.c1
  have p2 := X1.out.p.c2
  have p3 := X1.out.p.c3
  subst hrecv
  have t1 : decide ((m1 : Int) < room) = false := by simpa using hroom
  have n0 : m3 = 0 := by simp at l3; omega
  subst n0
  refine (cut_int0 a3 d3 V).mono ?_
  rintro e w2 ⟨rfl, hb2⟩
  have X2 := Lib.hid (X1.out.step hb2)
  have O2 := Lib.hid (O1.out.step hb2)
  have q0 := X2.out.p.c0
  have q1 := X2.out.p.c1
  have q2 := X2.out.p.c2
  have q3 := X2.out.p.c3
  clear p0 p1 p2 p3 hb2 O1 X1 T1 F2 F3
  have X3 := Lib.hid (X2.out.step (below_new w2 (.cells #[.int .i64 g, .int .i64 n] 52)))
  have O3 := Lib.hid (O2.out.alloc (.cells #[.int .i64 g, .int .i64 n] 52))
  have R3 := Lib.hid (pr_at_mail w2 g n _ rfl)
  go_wp2_with (at_builtin; refine wpList_append_mail rfl _ _ rfl (w.heap.size + 2) (.slice a2 m2 d2) m2 send rfl O3.out.s _ 1 1 [(g, n)] rfl R3.out (by omega) (by have := X3.out.size; omega) ?_)
  intro v4 w4 ho4 hg4
  obtain ⟨a4, d4, rfl⟩ := own_form ho4
  have X4 := Lib.hid (X3.out.grown hg4 (own_from (O3.out.read.2.2.1)))
  have O4 := Lib.hid (O3.out.snd ho4 hg4)
  clear ho4 hg4 X3 O3 R3 O2 q0 q1 q2 q3 X2
  have q0 := X4.out.p.c0
  have q1 := X4.out.p.c1
  have q2 := X4.out.p.c2
  have q3 := X4.out.p.c3
  have q4 := X4.out.p.f2
  have r0 := X4.out.r.c0
  have r1 := X4.out.r.c1
  have r2 := X4.out.r.c2
  have r3 := X4.out.r.c3
  have r4 := X4.out.r.f0
  have r5 := X4.out.r.f1
  have r6 := X4.out.r.f2
  have r7 := X4.out.r.f3
  obtain ⟨t4, g1, g2, g3⟩ := O4.out.read
  have X3 := X4.out.setp2 (.slice a4 (m2 + 1) d4)
  have T3 := t4.setp (X := w.heap.size) (j := 2) (u := .slice a4 (m2 + 1) d4) (by omega : w.heap.size < w.heap.size + 2) g1 g2 g3
  have HM := Lib.hid (X3.told T3 g1 g2 g3 rfl)
  have K := X3.r.put (.int .i64 room) (.slice a1 m1 d1) (.slice a4 (m2 + 1) d4) (.slice a3 0 d3)
  clear t4 g1 g2 g3 O4
  have k0 := K.c0
  have k1 := K.c1
  have k2 := K.c2
  have k3 := K.c3
  clear K X3 T3
  go_wp2_with fail
  refine bodyPost_ret (v := (.tuple #[.agg #[.int .i64 room, .slice a1 m1 d1, .slice a4 (m2 + 1) d4, .slice a3 0 d3], .int .i64 0, .bool false])) ?_ rfl ?_
  · simp [results, Try.results13, go_sem, k0, k1, k2, k3]
  exact ⟨_, rfl, HM.out⟩
/-- Whatever is sent. -/
theorem send_any (b : Bo) (A B C : Option Addr) (n1 n2 n3 c1 c2 c3 : Nat) (g n : Int) (w : World) (h : Tri w A n1 c1 B n2 c2 C n3 c3 b) (h1 : n1 ≤ 100000) (h2 : n2 ≤ 100000) (h3 : n3 ≤ 100000) :
    Calls Try.prog 13 #[.agg #[.int .i64 b.room, .slice A n1 c1, .slice B n2 c2, .slice C n3 c3], .int .i64 g, .int .i64 n] w (SendE w (Mp.snd b g n)) := by
  obtain ⟨room, msgs, send, recv⟩ := b
  have hl : msgs.length = n1 := h.m.len
  cases recv with
  | cons z t => exact send_wait room msgs send z t A B C n1 n2 n3 c1 c2 c3 g n w h h1 h2 h3
  | nil =>
    unfold Mp.snd
    simp only
    rw [hl]
    by_cases hr : (n1 : Int) < room
    · rw [if_pos hr]
      exact send_room room msgs send A B C n1 n2 n3 c1 c2 c3 g n w h h1 h2 h3 hr
    · rw [if_neg hr]
      exact send_full room msgs send A B C n1 n2 n3 c1 c2 c3 g n w h h1 h2 h3 hr
end Go.Proofs.Ytjpnfjiccckaiaa

