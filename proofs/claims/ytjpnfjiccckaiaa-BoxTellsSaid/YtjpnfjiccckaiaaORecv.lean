/- box.Recv, by its contract. -/
import Derived.Test.YtjpnfjiccckaiaaOSend
namespace Go.Proofs.Ytjpnfjiccckaiaa
open Go.RowKit
open Mp (Bo)
set_option linter.unusedVariables false

/-- What box.Recv leaves. -/
def RecvE (w : World) (r : Bo × Int × Int × Bool) (e : Ending) (w' : World) : Prop := ∃ bv, e = .returned (.tuple #[bv, .int .i64 r.2.1, .int .i64 r.2.2.1, .bool r.2.2.2]) ∧ TellB w w.heap.size r.1 bv w'
/-- Two cells of a block that may be written. -/
structure Q2 (W : World) (b : Nat) (x y : Value) : Prop where
  c0 : W.cell? ⟨b, 0, none⟩ = some x
  c1 : W.cell? ⟨b, 1, none⟩ = some y
theorem Q2.step {W W' : World} {b : Nat} {x y : Value} (h : Q2 W b x y) (hb : Below W.heap.size W W') : Q2 W' b x y := ⟨keepcell hb h.c0, keepcell hb h.c1⟩
theorem Q2.grown {W W' : World} {b : Nat} {x y : Value} {row : Option Nat} (h : Q2 W b x y) (hg : W.grownBy W' row) (hr : ∀ k, row = some k → b ≠ k) : Q2 W' b x y := by
  have hlt := World.block_lt_of_cell? W ⟨b, 0, none⟩ h.c0
  have hc : ∀ o, W'.cell? ⟨b, o, none⟩ = W.cell? ⟨b, o, none⟩ := fun o => World.cell?_of_block (hg.block b hlt (fun e => hr b e.symm rfl))
  exact ⟨(hc _).trans h.c0, (hc _).trans h.c1⟩
theorem Q2.far {W : World} {b b' j : Nat} {x y v : Value} (h : Q2 W b x y) (hne : b ≠ b') : Q2 (W.setCell ⟨b', j, none⟩ v) b x y := by
  refine ⟨?_, ?_⟩ <;> rw [World.cell?_setCell_other _ _ _ _ (fun e => by injection e with e; omega)]
  · exact h.c0
  · exact h.c1
theorem Q2.new (w : World) (x y : Value) (T : TypeId) : Q2 (w.alloc (.cells #[x, y] T)) w.heap.size x y := by
  refine ⟨?_, ?_⟩ <;> (rw [World.cell?_alloc_at _ _ _ _ rfl]; rfl)
theorem TellB.drew {w W : World} {base : Nat} {b : Bo} {v : Value} (h : TellB w base b v W) : TellB w base b v W.drew := by
  obtain ⟨A1, n1, c1, A2, n2, c2, A3, n3, c3, rfl, ht, f1, f2, f3, hb⟩ := h
  exact ⟨A1, n1, c1, A2, n2, c2, A3, n3, c3, rfl, ht.drew, f1, f2, f3, hb.drew⟩
set_option maxHeartbeats 1600000 in
theorem recv_wait (room : Int) (msgs : List Int) (s : Int × Int) (ss : List (Int × Int)) (m : Int) (ms recv : List Int) (hm : msgs ++ [s.2] = m :: ms) (A B C : Option Addr) (n1 n2 n3 c1 c2 c3 : Nat) (g : Int) (w : World) (h : Tri w A n1 c1 B n2 c2 C n3 c3 ⟨room, msgs, s :: ss, recv⟩) (h1 : n1 ≤ 100000) (h2 : n2 ≤ 100000) (h3 : n3 ≤ 100000) :
    Calls Try.prog 15 #[.agg #[.int .i64 room, .slice A n1 c1, .slice B n2 c2, .slice C n3 c3], .int .i64 g] w (RecvE w (⟨room, ms, ss, recv⟩, m, s.1, true)) := by
  obtain ⟨send, hsend⟩ : ∃ send, send = s :: ss := ⟨_, rfl⟩
  have HL := Lib.hid hm
  rw [← hsend] at h
  clear hm
  obtain ⟨W0, hW0, hX0⟩ := A4.start w (.int .i64 room) (.slice A n1 c1) (.slice B n2 c2) (.slice C n3 c3) (.int .i64 0) (.slice none 0 0) (.slice none 0 0) (.slice none 0 0) 31 31
  have p0 := hX0.p.c0
  have p1 := hX0.p.c1
  have p2 := hX0.p.c2
  have p3 := hX0.p.c3
  have hl1 := h.m.len
  have hl2 := h.s.len
  have hl3 := h.r.len
  have X0 := Lib.hid hX0
  have H := Lib.hid (h.step hX0.below)
  have E0 := Lib.hid hW0
  clear hX0 hW0 h
  go_enter Try.func15, Try.ntmps15
  go_wp2_with fail
  rw [← E0.out]
  clear E0
  refine (apart_any ⟨room, msgs, send, recv⟩ A B C n1 n2 n3 c1 c2 c3 _ H.out h1 h2 h3).mono ?_
  rintro e w1 ⟨v1, v2, v3, m1, m2, m3, rfl, ho, hb⟩
  obtain ⟨a1, d1, a2, d2, a3, d3, rfl, rfl, rfl, ht, f1', f2', f3'⟩ := ho.tri
  obtain ⟨l1, l2, l3⟩ := ho.lens
  simp only at l1 l2 l3 hl1 hl2 hl3
  obtain rfl : m1 = n1 := by omega
  obtain rfl : m2 = n2 := by omega
  obtain rfl : m3 = n3 := by omega
  have hs := X0.out.size
  have hX1 := X0.out.step hb
  have e0 := hX1.p.c0
  have e1 := hX1.p.c1
  have e2 := hX1.p.c2
  have e3 := hX1.p.c3
  have e4 := hX1.p.f0
  have e5 := hX1.p.f1
  have e6 := hX1.p.f2
  have e7 := hX1.p.f3
  have X1 := Lib.hid (hX1.putp (.int .i64 room) (.slice a1 m1 d1) (.slice a2 m2 d2) (.slice a3 m3 d3))
  have O1 := Lib.hid ((ho.mono (by omega : w.heap.size + 2 ≤ W0.heap.size)).put (X := w.heap.size) (x := .int .i64 room) (y := .slice a1 m1 d1) (z := .slice a2 m2 d2) (u := .slice a3 m3 d3) (by omega))
  have f1 := f1'.mono (by omega : w.heap.size + 2 ≤ W0.heap.size)
  have f2 := f2'.mono (by omega : w.heap.size + 2 ≤ W0.heap.size)
  have f3 := f3'.mono (by omega : w.heap.size + 2 ≤ W0.heap.size)
  have T1 := Lib.hid (ht.put (X := w.heap.size) (x := .int .i64 room) (y := .slice a1 m1 d1) (z := .slice a2 m2 d2) (u := .slice a3 m3 d3) (f1.mono (by omega)) (f2.mono (by omega)) (f3.mono (by omega)))
  have F1 := Lib.hid f1
  have F2 := Lib.hid f2
  have F3 := Lib.hid f3
  clear ho hb ht f1 f2 f3 f1' f2' f3' hX1 H p0 p1 p2 p3
  go_wp2_with fail
  generalize (World.setCell (World.setCell (World.setCell (World.setCell w1 ⟨w.heap.size, 0, none⟩ (.int .i64 room)) ⟨w.heap.size, 1, none⟩ (.slice a1 m1 d1)) ⟨w.heap.size, 2, none⟩ (.slice a2 m2 d2)) ⟨w.heap.size, 3, none⟩ (.slice a3 m3 d3)) = V at *
  clear e0 e1 e2 e3 e4 e5 e6 e7
  have p0 := X1.out.p.c0
  have p1 := X1.out.p.c1
  have p2 := X1.out.p.c2
  have p3 := X1.out.p.c3
  subst hsend
  have n0 : 0 < m2 := by simp at l2; omega
  obtain ⟨b, off, rfl, hbk, hcs⟩ := T1.out.s.cells n0
  obtain ⟨hc0, hc1⟩ := hcs 0 s rfl
  rw [Nat.zero_mul, Nat.add_zero] at hc0 hc1
  have hT := T1.out.s.slice 1 n0
  have hF := from_cut (k := 2) (c := d2) F2.out
  refine (cut_mail1 s b off m2 d2 V n0 T1.out.s.cap T1.out.s.most hc0 hc1).mono ?_
  rintro e w2 ⟨rfl, hb2⟩
  rw [Nat.one_mul] at hT
  generalize ha4 : (if d2 = 1 then some (⟨b, off, none⟩ : Addr) else some ⟨b, off + 2, none⟩) = a4 at *
  have HA := Lib.hid ha4
  have hO2 := O1.out.step hb2
  have hk : ∀ k, (Value.slice a1 m1 d1).ownBlock = some k → k < w2.heap.size := fun k e => (hO2.m.lt k e).2
  have X2 := Lib.hid (X1.out.step hb2)
  have F4 := Lib.hid hF
  obtain ⟨W3, hW3⟩ : ∃ W3, W3 = w2.alloc (.cells #[.int .i64 s.1, .int .i64 s.2] 52) := ⟨_, rfl⟩
  have hb3 : Below w2.heap.size w2 W3 := by rw [hW3]; exact below_new _ _
  have hP3 : Q2 W3 w2.heap.size (.int .i64 s.1) (.int .i64 s.2) := by rw [hW3]; exact Q2.new _ _ _ _
  have X3 := Lib.hid (X2.out.step hb3)
  have O3 := Lib.hid (hO2.step hb3)
  have q0 := X3.out.p.c0
  have q1 := X3.out.p.c1
  have q2 := X3.out.p.c2
  have q3 := X3.out.p.c3
  have q4 := hP3.c0
  have q5 := hP3.c1
  have hn4 := below_new W3 (.cells #[.int .i64 s.2] 2)
  have X4 := Lib.hid (X3.out.step hn4)
  have O4 := Lib.hid (O3.out.step hn4)
  have R4 := Lib.hid (row_at64 W3 s.2 (w2.heap.size + 1) (by rw [hW3]; simp))
  have P4 := Lib.hid (hP3.step hn4)
  have K4 := Lib.hid hk
  have L4 := Lib.hid X2.out.size
  clear X3 O3 hP3 hb3 hn4 hk hO2 p0 p1 p2 p3 hcs hc0 hc1 hT hF hb2 O1 X1 X2 T1 ha4
  subst hW3
  go_wp2_with (at_builtin; refine wpList_append_row64 rfl _ _ rfl (w.heap.size + 2) (.slice a1 m1 d1) m1 msgs rfl O4.out.m _ 1 1 [s.2] rfl R4.out (by omega) (by have := X4.out.size; omega) ?_)
  intro v5 w5 ho5 hg5
  obtain ⟨a5, d5, rfl⟩ := own_form ho5
  have X5 := Lib.hid (X4.out.grown hg5 (own_from F1.out))
  have P5 := Lib.hid (P4.out.grown hg5 (fun k e => by have := K4.out k e; omega))
  have O5 := Lib.hid (O4.out.msg (l := msgs ++ [s.2]) (by rw [List.map_append]; exact ho5) hg5)
  clear q0 q1 q2 q3 q4 q5 X4 P4 O4 R4 hg5 ho5
  obtain ⟨t5, g1, g2, g3⟩ := O5.out.read
  have hs5 := t5.s.slice 1 n0
  rw [Nat.one_mul, HA.out] at hs5
  have t6 : Tri w5 a5 (m1 + 1) d5 a4 (m2 - 1) (d2 - 1) a3 m3 d3 ⟨room, m :: ms, ss, recv⟩ := ⟨by rw [← HL.out]; exact t5.m, hs5, t5.r⟩
  have T6 := Lib.hid ((t6.setp (X := w.heap.size) (j := 1) (u := .slice a5 (m1 + 1) d5) (by omega : w.heap.size < w.heap.size + 2) g1 F4.out g3).setp (X := w.heap.size) (j := 2) (u := .slice a4 (m2 - 1) (d2 - 1)) (by omega : w.heap.size < w.heap.size + 2) g1 F4.out g3)
  have X6 := Lib.hid ((X5.out.setp1 (.slice a5 (m1 + 1) d5)).setp2 (.slice a4 (m2 - 1) (d2 - 1)))
  have P6 := Lib.hid ((P5.out.far (j := 1) (v := .slice a5 (m1 + 1) d5) (b' := w.heap.size) (by have := L4.out; omega)).far (j := 2) (v := .slice a4 (m2 - 1) (d2 - 1)) (b' := w.heap.size) (by have := L4.out; omega))
  have F5 := Lib.hid g1
  have q0 := X5.out.p.c0
  have q1 := X5.out.p.c1
  have q2 := X5.out.p.c2
  have q3 := X5.out.p.c3
  have q4 := X5.out.p.f1
  have q5 := X5.out.p.f2
  have y0 : (w5.setCell ⟨w.heap.size, 1, none⟩ (.slice a5 (m1 + 1) d5)).cell? ⟨w.heap.size, 2, none⟩ = some (.slice (some ⟨b, off, none⟩) m2 d2) := (X5.out.setp1 (.slice a5 (m1 + 1) d5)).p.c2
  clear t5 t6 g1 g2 g3 hs5 O5 K4
  go_wp2_with fail
  generalize (World.setCell (World.setCell w5 ⟨w.heap.size, 1, none⟩ (.slice a5 (m1 + 1) d5)) ⟨w.heap.size, 2, none⟩ (.slice a4 (m2 - 1) (d2 - 1))) = U at *
  clear q0 q1 q2 q3 q4 q5 y0 X5 P5
  obtain ⟨b9, o9, rfl, hbk9, hcs9⟩ := T6.out.m.cells (by omega)
  have hc9 := hcs9 0 m rfl
  rw [Nat.add_zero] at hc9
  have hT9 : Row U (if d5 = 1 then some ⟨b9, o9, none⟩ else some ⟨b9, o9 + 1, none⟩) (m1) (d5 - 1) ms := T6.out.m.slice 1 (by omega)
  have hF9 := from_cut (k := 1) (c := d5) F5.out
  refine (cut_i641 m b9 o9 (m1 + 1) d5 U (by omega) T6.out.m.cap T6.out.m.most hc9).mono ?_
  rintro e w7 ⟨rfl, hb7⟩
  generalize (if d5 = 1 then some (⟨b9, o9, none⟩ : Addr) else some ⟨b9, o9 + 1, none⟩) = a9 at *
  have X7 := Lib.hid (X6.out.step hb7)
  have T8 := Lib.hid ((Tri.step (b := ⟨room, ms, ss, recv⟩) ⟨hT9, T6.out.s, T6.out.r⟩ hb7).setp (X := w.heap.size) (j := 1) (u := .slice a9 (m1) (d5 - 1)) (by omega : w.heap.size < w.heap.size + 2) hF9 F4.out F3.out)
  have X8 := Lib.hid (X7.out.setp1 (.slice a9 (m1) (d5 - 1)))
  have P8 := Lib.hid ((P6.out.step hb7).far (b' := w.heap.size) (j := 1) (v := .slice a9 (m1) (d5 - 1)) (by have := L4.out; omega))
  have F9 := Lib.hid hF9
  have q0 := X7.out.p.c0
  have q1 := X7.out.p.c1
  have q2 := X7.out.p.c2
  have q3 := X7.out.p.c3
  have q4 := X7.out.p.f1
  clear hcs9 hc9 hT9 hF9 hb7 T6 X6 P6
  go_wp2_with fail
  generalize (World.setCell w7 ⟨w.heap.size, 1, none⟩ (.slice a9 (m1) (d5 - 1))) = U8 at *
  clear q0 q1 q2 q3 q4 X7
  have q0 := X8.out.p.c0
  have q1 := X8.out.p.c1
  have q2 := X8.out.p.c2
  have q3 := X8.out.p.c3
  have q5 := P8.out.c0
  have q6 := (P8.out.far (b' := w.heap.size + 1) (j := 0) (v := .int .i64 room) (by have := L4.out; omega)).c0
  have r0 := X8.out.r.c0
  have r1 := X8.out.r.c1
  have r2 := X8.out.r.c2
  have r3 := X8.out.r.c3
  have r4 := X8.out.r.f0
  have r5 := X8.out.r.f1
  have r6 := X8.out.r.f2
  have r7 := X8.out.r.f3
  go_region
  have HM := Lib.hid (X8.out.told T8.out F9.out F4.out F3.out rfl)
  have k0 : (U8.setCell ⟨w.heap.size + 1, 0, none⟩ (.int .i64 room)).cell? ⟨w.heap.size + 1, 0, none⟩ = some (.int .i64 room) := (X8.out.r.set0 _).c0
  have k1 : ((U8.setCell ⟨w.heap.size + 1, 0, none⟩ (.int .i64 room)).setCell ⟨w.heap.size + 1, 1, none⟩ (.slice a9 (m1) (d5 - 1))).cell? ⟨w.heap.size + 1, 1, none⟩ = some (.slice a9 (m1) (d5 - 1)) := ((X8.out.r.set0 _).set1 _).c1
  have k2 : (((U8.setCell ⟨w.heap.size + 1, 0, none⟩ (.int .i64 room)).setCell ⟨w.heap.size + 1, 1, none⟩ (.slice a9 (m1) (d5 - 1))).setCell ⟨w.heap.size + 1, 2, none⟩ (.slice a4 (m2 - 1) (d2 - 1))).cell? ⟨w.heap.size + 1, 2, none⟩ = some (.slice a4 (m2 - 1) (d2 - 1)) := (((X8.out.r.set0 _).set1 _).set2 _).c2
  have k3 := (X8.out.r.put (.int .i64 room) (.slice a9 (m1) (d5 - 1)) (.slice a4 (m2 - 1) (d2 - 1)) (.slice a3 m3 d3)).c3
  clear q0 q1 q2 q3 q5 q6 r0 r1 r2 r3 r4 r5 r6 r7
  go_wp2_with fail
  refine bodyPost_ret (v := .tuple #[.agg #[.int .i64 room, .slice a9 (m1) (d5 - 1), .slice a4 (m2 - 1) (d2 - 1), .slice a3 m3 d3], .int .i64 m, .int .i64 s.1, .bool true]) ?_ rfl ?_
  · simp [results, Try.results15, go_sem, k0, k1, k2, k3]
  exact ⟨_, rfl, HM.out.drew⟩
set_option maxHeartbeats 1600000 in
theorem recv_msgs (room m : Int) (ms recv : List Int) (A B C : Option Addr) (n1 n2 n3 c1 c2 c3 : Nat) (g : Int) (w : World) (h : Tri w A n1 c1 B n2 c2 C n3 c3 ⟨room, m :: ms, [], recv⟩) (h1 : n1 ≤ 100000) (h2 : n2 ≤ 100000) (h3 : n3 ≤ 100000) :
    Calls Try.prog 15 #[.agg #[.int .i64 room, .slice A n1 c1, .slice B n2 c2, .slice C n3 c3], .int .i64 g] w (RecvE w (⟨room, ms, [], recv⟩, m, 0, true)) := by
  obtain ⟨send, hsend⟩ : ∃ send, send = ([] : List (Int × Int)) := ⟨_, rfl⟩
  obtain ⟨msgs, hmsgs⟩ : ∃ msgs, msgs = m :: ms := ⟨_, rfl⟩
  rw [← hsend, ← hmsgs] at h
  obtain ⟨W0, hW0, hX0⟩ := A4.start w (.int .i64 room) (.slice A n1 c1) (.slice B n2 c2) (.slice C n3 c3) (.int .i64 0) (.slice none 0 0) (.slice none 0 0) (.slice none 0 0) 31 31
  have p0 := hX0.p.c0
  have p1 := hX0.p.c1
  have p2 := hX0.p.c2
  have p3 := hX0.p.c3
  have hl1 := h.m.len
  have hl2 := h.s.len
  have hl3 := h.r.len
  have X0 := Lib.hid hX0
  have H := Lib.hid (h.step hX0.below)
  have E0 := Lib.hid hW0
  clear hX0 hW0 h
  go_enter Try.func15, Try.ntmps15
  go_wp2_with fail
  rw [← E0.out]
  clear E0
  refine (apart_any ⟨room, msgs, send, recv⟩ A B C n1 n2 n3 c1 c2 c3 _ H.out h1 h2 h3).mono ?_
  rintro e w1 ⟨v1, v2, v3, m1, m2, m3, rfl, ho, hb⟩
  obtain ⟨a1, d1, a2, d2, a3, d3, rfl, rfl, rfl, ht, f1', f2', f3'⟩ := ho.tri
  obtain ⟨l1, l2, l3⟩ := ho.lens
  simp only at l1 l2 l3 hl1 hl2 hl3
  obtain rfl : m1 = n1 := by omega
  obtain rfl : m2 = n2 := by omega
  obtain rfl : m3 = n3 := by omega
  have hs := X0.out.size
  have hX1 := X0.out.step hb
  have e0 := hX1.p.c0
  have e1 := hX1.p.c1
  have e2 := hX1.p.c2
  have e3 := hX1.p.c3
  have e4 := hX1.p.f0
  have e5 := hX1.p.f1
  have e6 := hX1.p.f2
  have e7 := hX1.p.f3
  have X1 := Lib.hid (hX1.putp (.int .i64 room) (.slice a1 m1 d1) (.slice a2 m2 d2) (.slice a3 m3 d3))
  have O1 := Lib.hid ((ho.mono (by omega : w.heap.size + 2 ≤ W0.heap.size)).put (X := w.heap.size) (x := .int .i64 room) (y := .slice a1 m1 d1) (z := .slice a2 m2 d2) (u := .slice a3 m3 d3) (by omega))
  have f1 := f1'.mono (by omega : w.heap.size + 2 ≤ W0.heap.size)
  have f2 := f2'.mono (by omega : w.heap.size + 2 ≤ W0.heap.size)
  have f3 := f3'.mono (by omega : w.heap.size + 2 ≤ W0.heap.size)
  have T1 := Lib.hid (ht.put (X := w.heap.size) (x := .int .i64 room) (y := .slice a1 m1 d1) (z := .slice a2 m2 d2) (u := .slice a3 m3 d3) (f1.mono (by omega)) (f2.mono (by omega)) (f3.mono (by omega)))
  have F1 := Lib.hid f1
  have F2 := Lib.hid f2
  have F3 := Lib.hid f3
  clear ho hb ht f1 f2 f3 f1' f2' f3' hX1 H p0 p1 p2 p3
  go_wp2_with fail
  generalize (World.setCell (World.setCell (World.setCell (World.setCell w1 ⟨w.heap.size, 0, none⟩ (.int .i64 room)) ⟨w.heap.size, 1, none⟩ (.slice a1 m1 d1)) ⟨w.heap.size, 2, none⟩ (.slice a2 m2 d2)) ⟨w.heap.size, 3, none⟩ (.slice a3 m3 d3)) = V at *
  clear e0 e1 e2 e3 e4 e5 e6 e7
  have p0 := X1.out.p.c0
  have p1 := X1.out.p.c1
  have p2 := X1.out.p.c2
  have p3 := X1.out.p.c3
  subst hsend hmsgs
  have n1' : 0 < m1 := by simp at l1; omega
  have n0 : m2 = 0 := by simp at l2; omega
  subst n0
  refine (cut_mail0 a2 d2 V).mono ?_
  rintro e w2 ⟨rfl, hb2⟩
  have X2 := Lib.hid (X1.out.step hb2)
  have O2 := O1.out.step hb2
  have L4 := Lib.hid X2.out.size
  obtain ⟨U, hU⟩ : ∃ U, U = w2.alloc (.cells #[.int .i64 0, .int .i64 0] 52) := ⟨_, rfl⟩
  have hb3 : Below w2.heap.size w2 U := by rw [hU]; exact below_new _ _
  have hP3 : Q2 U w2.heap.size (.int .i64 0) (.int .i64 0) := by rw [hU]; exact Q2.new _ _ _ _
  have X6 := Lib.hid (X2.out.step hb3)
  have O3 := Lib.hid (O2.step hb3)
  have T6 := Lib.hid (O3.out.read.1)
  have P6 := Lib.hid hP3
  have F5 := F1
  have q0 := X6.out.p.c0
  have q1 := X6.out.p.c1
  have q2 := X6.out.p.c2
  have q3 := X6.out.p.c3
  have hE3 := hU
  rw [hE3] at q0 q1 q2 q3
  have E3 := Lib.hid hU
  clear p0 p1 p2 p3 hb2 hb3 hP3 O1 X1 T1 O2 X2 hE3 hU
  go_wp2_with fail
  rw [← E3.out]
  clear q0 q1 q2 q3 E3
  clear O3
  obtain ⟨b9, o9, rfl, hbk9, hcs9⟩ := T6.out.m.cells (by omega)
  have hc9 := hcs9 0 m rfl
  rw [Nat.add_zero] at hc9
  have hT9 : Row U (if d1 = 1 then some ⟨b9, o9, none⟩ else some ⟨b9, o9 + 1, none⟩) ((m1 - 1)) (d1 - 1) ms := T6.out.m.slice 1 (by omega)
  have hF9 := from_cut (k := 1) (c := d1) F5.out
  refine (cut_i641 m b9 o9 m1 d1 U (by omega) T6.out.m.cap T6.out.m.most hc9).mono ?_
  rintro e w7 ⟨rfl, hb7⟩
  generalize (if d1 = 1 then some (⟨b9, o9, none⟩ : Addr) else some ⟨b9, o9 + 1, none⟩) = a9 at *
  have X7 := Lib.hid (X6.out.step hb7)
  have T8 := Lib.hid ((Tri.step (b := ⟨room, ms, [], recv⟩) ⟨hT9, T6.out.s, T6.out.r⟩ hb7).setp (X := w.heap.size) (j := 1) (u := .slice a9 ((m1 - 1)) (d1 - 1)) (by omega : w.heap.size < w.heap.size + 2) hF9 F2.out F3.out)
  have X8 := Lib.hid (X7.out.setp1 (.slice a9 ((m1 - 1)) (d1 - 1)))
  have P8 := Lib.hid ((P6.out.step hb7).far (b' := w.heap.size) (j := 1) (v := .slice a9 ((m1 - 1)) (d1 - 1)) (by have := L4.out; omega))
  have F9 := Lib.hid hF9
  have q0 := X7.out.p.c0
  have q1 := X7.out.p.c1
  have q2 := X7.out.p.c2
  have q3 := X7.out.p.c3
  have q4 := X7.out.p.f1
  clear hcs9 hc9 hT9 hF9 hb7 T6 X6 P6
  go_wp2_with fail
  generalize (World.setCell w7 ⟨w.heap.size, 1, none⟩ (.slice a9 ((m1 - 1)) (d1 - 1))) = U8 at *
  clear q0 q1 q2 q3 q4 X7
  have q0 := X8.out.p.c0
  have q1 := X8.out.p.c1
  have q2 := X8.out.p.c2
  have q3 := X8.out.p.c3
  have q5 := P8.out.c0
  have q6 := (P8.out.far (b' := w.heap.size + 1) (j := 0) (v := .int .i64 room) (by have := L4.out; omega)).c0
  have r0 := X8.out.r.c0
  have r1 := X8.out.r.c1
  have r2 := X8.out.r.c2
  have r3 := X8.out.r.c3
  have r4 := X8.out.r.f0
  have r5 := X8.out.r.f1
  have r6 := X8.out.r.f2
  have r7 := X8.out.r.f3
  go_region
  have HM := Lib.hid (X8.out.told T8.out F9.out F2.out F3.out rfl)
  have k0 : (U8.setCell ⟨w.heap.size + 1, 0, none⟩ (.int .i64 room)).cell? ⟨w.heap.size + 1, 0, none⟩ = some (.int .i64 room) := (X8.out.r.set0 _).c0
  have k1 : ((U8.setCell ⟨w.heap.size + 1, 0, none⟩ (.int .i64 room)).setCell ⟨w.heap.size + 1, 1, none⟩ (.slice a9 ((m1 - 1)) (d1 - 1))).cell? ⟨w.heap.size + 1, 1, none⟩ = some (.slice a9 ((m1 - 1)) (d1 - 1)) := ((X8.out.r.set0 _).set1 _).c1
  have k2 : (((U8.setCell ⟨w.heap.size + 1, 0, none⟩ (.int .i64 room)).setCell ⟨w.heap.size + 1, 1, none⟩ (.slice a9 ((m1 - 1)) (d1 - 1))).setCell ⟨w.heap.size + 1, 2, none⟩ (.slice a2 0 d2)).cell? ⟨w.heap.size + 1, 2, none⟩ = some (.slice a2 0 d2) := (((X8.out.r.set0 _).set1 _).set2 _).c2
  have k3 := (X8.out.r.put (.int .i64 room) (.slice a9 ((m1 - 1)) (d1 - 1)) (.slice a2 0 d2) (.slice a3 m3 d3)).c3
  clear q0 q1 q2 q3 q5 q6 r0 r1 r2 r3 r4 r5 r6 r7
  go_wp2_with fail
  refine bodyPost_ret (v := .tuple #[.agg #[.int .i64 room, .slice a9 ((m1 - 1)) (d1 - 1), .slice a2 0 d2, .slice a3 m3 d3], .int .i64 m, .int .i64 0, .bool true]) ?_ rfl ?_
  · simp [results, Try.results15, go_sem, k0, k1, k2, k3]
  exact ⟨_, rfl, HM.out.drew⟩
set_option maxHeartbeats 1600000 in
theorem recv_none (room : Int) (recv : List Int) (A B C : Option Addr) (n1 n2 n3 c1 c2 c3 : Nat) (g : Int) (w : World) (h : Tri w A n1 c1 B n2 c2 C n3 c3 ⟨room, [], [], recv⟩) (h1 : n1 ≤ 100000) (h2 : n2 ≤ 100000) (h3 : n3 ≤ 100000) :
    Calls Try.prog 15 #[.agg #[.int .i64 room, .slice A n1 c1, .slice B n2 c2, .slice C n3 c3], .int .i64 g] w (RecvE w (⟨room, [], [], recv ++ [g]⟩, 0, 0, false)) := by
  obtain ⟨send, hsend⟩ : ∃ send, send = ([] : List (Int × Int)) := ⟨_, rfl⟩
  obtain ⟨msgs, hmsgs⟩ : ∃ msgs, msgs = ([] : List Int) := ⟨_, rfl⟩
  rw [← hsend, ← hmsgs] at h
  obtain ⟨W0, hW0, hX0⟩ := A4.start w (.int .i64 room) (.slice A n1 c1) (.slice B n2 c2) (.slice C n3 c3) (.int .i64 0) (.slice none 0 0) (.slice none 0 0) (.slice none 0 0) 31 31
  have p0 := hX0.p.c0
  have p1 := hX0.p.c1
  have p2 := hX0.p.c2
  have p3 := hX0.p.c3
  have hl1 := h.m.len
  have hl2 := h.s.len
  have hl3 := h.r.len
  have X0 := Lib.hid hX0
  have H := Lib.hid (h.step hX0.below)
  have E0 := Lib.hid hW0
  clear hX0 hW0 h
  go_enter Try.func15, Try.ntmps15
  go_wp2_with fail
  rw [← E0.out]
  clear E0
  refine (apart_any ⟨room, msgs, send, recv⟩ A B C n1 n2 n3 c1 c2 c3 _ H.out h1 h2 h3).mono ?_
  rintro e w1 ⟨v1, v2, v3, m1, m2, m3, rfl, ho, hb⟩
  obtain ⟨a1, d1, a2, d2, a3, d3, rfl, rfl, rfl, ht, f1', f2', f3'⟩ := ho.tri
  obtain ⟨l1, l2, l3⟩ := ho.lens
  simp only at l1 l2 l3 hl1 hl2 hl3
  obtain rfl : m1 = n1 := by omega
  obtain rfl : m2 = n2 := by omega
  obtain rfl : m3 = n3 := by omega
  have hs := X0.out.size
  have hX1 := X0.out.step hb
  have e0 := hX1.p.c0
  have e1 := hX1.p.c1
  have e2 := hX1.p.c2
  have e3 := hX1.p.c3
  have e4 := hX1.p.f0
  have e5 := hX1.p.f1
  have e6 := hX1.p.f2
  have e7 := hX1.p.f3
  have X1 := Lib.hid (hX1.putp (.int .i64 room) (.slice a1 m1 d1) (.slice a2 m2 d2) (.slice a3 m3 d3))
  have O1 := Lib.hid ((ho.mono (by omega : w.heap.size + 2 ≤ W0.heap.size)).put (X := w.heap.size) (x := .int .i64 room) (y := .slice a1 m1 d1) (z := .slice a2 m2 d2) (u := .slice a3 m3 d3) (by omega))
  have f1 := f1'.mono (by omega : w.heap.size + 2 ≤ W0.heap.size)
  have f2 := f2'.mono (by omega : w.heap.size + 2 ≤ W0.heap.size)
  have f3 := f3'.mono (by omega : w.heap.size + 2 ≤ W0.heap.size)
  have T1 := Lib.hid (ht.put (X := w.heap.size) (x := .int .i64 room) (y := .slice a1 m1 d1) (z := .slice a2 m2 d2) (u := .slice a3 m3 d3) (f1.mono (by omega)) (f2.mono (by omega)) (f3.mono (by omega)))
  have F1 := Lib.hid f1
  have F2 := Lib.hid f2
  have F3 := Lib.hid f3
  clear ho hb ht f1 f2 f3 f1' f2' f3' hX1 H p0 p1 p2 p3
  go_wp2_with fail
  generalize (World.setCell (World.setCell (World.setCell (World.setCell w1 ⟨w.heap.size, 0, none⟩ (.int .i64 room)) ⟨w.heap.size, 1, none⟩ (.slice a1 m1 d1)) ⟨w.heap.size, 2, none⟩ (.slice a2 m2 d2)) ⟨w.heap.size, 3, none⟩ (.slice a3 m3 d3)) = V at *
  clear e0 e1 e2 e3 e4 e5 e6 e7
  have p0 := X1.out.p.c0
  have p1 := X1.out.p.c1
  have p2 := X1.out.p.c2
  have p3 := X1.out.p.c3
  subst hsend hmsgs
  have n1' : m1 = 0 := by simp at l1; omega
  subst n1'
  have n0 : m2 = 0 := by simp at l2; omega
  subst n0
  refine (cut_mail0 a2 d2 V).mono ?_
  rintro e w2 ⟨rfl, hb2⟩
  have X2 := Lib.hid (X1.out.step hb2)
  have O2 := O1.out.step hb2
  have L4 := Lib.hid X2.out.size
  obtain ⟨U, hU⟩ : ∃ U, U = w2.alloc (.cells #[.int .i64 0, .int .i64 0] 52) := ⟨_, rfl⟩
  have hb3 : Below w2.heap.size w2 U := by rw [hU]; exact below_new _ _
  have hP3 : Q2 U w2.heap.size (.int .i64 0) (.int .i64 0) := by rw [hU]; exact Q2.new _ _ _ _
  have X6 := Lib.hid (X2.out.step hb3)
  have O3 := Lib.hid (O2.step hb3)
  have T6 := Lib.hid (O3.out.read.1)
  have P6 := Lib.hid hP3
  have F5 := F1
  have q0 := X6.out.p.c0
  have q1 := X6.out.p.c1
  have q2 := X6.out.p.c2
  have q3 := X6.out.p.c3
  have hE3 := hU
  rw [hE3] at q0 q1 q2 q3
  have E3 := Lib.hid hU
  clear p0 p1 p2 p3 hb2 hb3 hP3 O1 X1 T1 O2 X2 hE3 hU
  go_wp2_with fail
  rw [← E3.out]
  clear q0 q1 q2 q3 E3
  refine (cut_i640 a1 d1 U).mono ?_
  rintro e w7 ⟨rfl, hb7⟩
  have hn := below_new w7 (.cells #[.int .i64 g] 3)
  have X7 := Lib.hid (X6.out.step hb7)
  have X3 := Lib.hid (X7.out.step hn)
  have O4 := Lib.hid ((O3.out.step hb7).step hn)
  have R3 := Lib.hid (row_at w7 g _ rfl)
  have q0 := X7.out.p.c0
  have q1 := X7.out.p.c1
  have q2 := X7.out.p.c2
  have q3 := X7.out.p.c3
  clear hb7 hn X6 T6 P6 O3
  go_wp2_with (at_builtin; refine wpList_append_row rfl _ _ rfl (w.heap.size + 2) (.slice a3 m3 d3) m3 recv rfl O4.out.r _ 1 1 [g] rfl R3.out (by omega) (by have := X3.out.size; omega) ?_)
  intro v4 w4 ho4 hg4
  obtain ⟨a4, d4, rfl⟩ := own_form ho4
  have X4 := Lib.hid (X3.out.grown hg4 (own_from F3.out))
  have O5 := Lib.hid (O4.out.rcv (l := recv ++ [g]) (by rw [List.map_append]; exact ho4) hg4)
  clear ho4 hg4 X3 O4 R3 q0 q1 q2 q3 X7
  have q0 := X4.out.p.c0
  have q1 := X4.out.p.c1
  have q2 := X4.out.p.c2
  have q3 := X4.out.p.c3
  have q4 := X4.out.p.f3
  have r0 := X4.out.r.c0
  have r1 := X4.out.r.c1
  have r2 := X4.out.r.c2
  have r3 := X4.out.r.c3
  have r4 := X4.out.r.f0
  have r5 := X4.out.r.f1
  have r6 := X4.out.r.f2
  have r7 := X4.out.r.f3
  obtain ⟨t4, g1, g2, g3⟩ := O5.out.read
  have X3 := X4.out.setp3 (.slice a4 (m3 + 1) d4)
  have T3 := t4.setp (X := w.heap.size) (j := 3) (u := .slice a4 (m3 + 1) d4) (by omega : w.heap.size < w.heap.size + 2) g1 g2 g3
  have HM := Lib.hid (X3.told T3 g1 g2 g3 rfl)
  have K := X3.r.put (.int .i64 room) (.slice a1 0 d1) (.slice a2 0 d2) (.slice a4 (m3 + 1) d4)
  clear t4 g1 g2 g3 O5
  have k0 := K.c0
  have k1 := K.c1
  have k2 := K.c2
  have k3 := K.c3
  clear K X3 T3
  go_wp2_with fail
  refine bodyPost_ret (v := (.tuple #[.agg #[.int .i64 room, .slice a1 0 d1, .slice a2 0 d2, .slice a4 (m3 + 1) d4], .int .i64 0, .int .i64 0, .bool false])) ?_ rfl ?_
  · simp [results, Try.results15, go_sem, k0, k1, k2, k3]
  exact ⟨_, rfl, HM.out⟩
/-- Whatever is received. -/
theorem recv_any (b : Bo) (A B C : Option Addr) (n1 n2 n3 c1 c2 c3 : Nat) (g : Int) (w : World) (h : Tri w A n1 c1 B n2 c2 C n3 c3 b) (h1 : n1 ≤ 100000) (h2 : n2 ≤ 100000) (h3 : n3 ≤ 100000) :
    Calls Try.prog 15 #[.agg #[.int .i64 b.room, .slice A n1 c1, .slice B n2 c2, .slice C n3 c3], .int .i64 g] w (RecvE w (Mp.rcv b g)) := by
  obtain ⟨room, msgs, send, recv⟩ := b
  cases msgs with
  | nil => cases send with
    | nil => exact recv_none room recv A B C n1 n2 n3 c1 c2 c3 g w h h1 h2 h3
    | cons s ss => exact recv_wait room [] s ss s.2 [] recv rfl A B C n1 n2 n3 c1 c2 c3 g w h h1 h2 h3
  | cons m ms => cases send with
    | nil => exact recv_msgs room m ms recv A B C n1 n2 n3 c1 c2 c3 g w h h1 h2 h3
    | cons s ss => exact recv_wait room (m :: ms) s ss m (ms ++ [s.2]) recv rfl A B C n1 n2 n3 c1 c2 c3 g w h h1 h2 h3
end Go.Proofs.Ytjpnfjiccckaiaa

