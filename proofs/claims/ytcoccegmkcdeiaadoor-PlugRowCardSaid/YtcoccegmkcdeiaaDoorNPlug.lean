/- plug.Plug, by its contract. -/
import Derived.Test.YtcoccegmkcdeiaaDoorNAsk
import Derived.Test.YtcoccegmkcdeiaaDoorNWay
import Derived.Test.YtcoccegmkcdeiaaDoorM13
import Derived.Test.YtcoccegmkcdeiaaDoorM11
import Derived.Test.YtcoccegmkcdeiaaDoorM12
namespace Go.Proofs.YtcoccegmkcdeiaaDoor
open Go.RowKit
set_option linter.unusedVariables false

theorem nmf (fn : Fn) (first cap : Array Value) (w : World) : (Instr.makeFunc fn first cap).run Tryd.prog w = .ok (.func fn first cap) w := rfl
/-- A box of five, a box of one, a result's place. -/
theorem nboxes3 (w : World) (p0 p1 p2 p3 p4 a z0 z1 z2 z3 z4 : Value) (T T1 U : TypeId) : ∃ V, V = ((w.alloc (.cells #[p0, p1, p2, p3, p4] T)).alloc (.cells #[a] T1)).alloc (.cells #[z0, z1, z2, z3, z4] U) ∧
    B5 V w.heap.size p0 p1 p2 p3 p4 ∧ V.cell? ⟨w.heap.size + 1, 0, none⟩ = some a ∧ C5 V (w.heap.size + 2) z0 z1 z2 z3 z4 ∧ Below w.heap.size w V ∧ V.heap.size = w.heap.size + 3 := by
  obtain ⟨W1, h1⟩ : ∃ W1, W1 = w.alloc (.cells #[p0, p1, p2, p3, p4] T) := ⟨_, rfl⟩
  obtain ⟨W2, h2⟩ : ∃ W2, W2 = W1.alloc (.cells #[a] T1) := ⟨_, rfl⟩
  have a1 : B5 W1 w.heap.size p0 p1 p2 p3 p4 := by rw [h1]; exact B5.new w p0 p1 p2 p3 p4 T
  have s1 : W1.heap.size = w.heap.size + 1 := by rw [h1]; simp
  have s2 : W2.heap.size = w.heap.size + 2 := by rw [h2]; simp [s1]
  have b1 : Below w.heap.size w W1 := by rw [h1]; exact below_new w _
  have b2 : Below W1.heap.size W1 W2 := by rw [h2]; exact below_new W1 _
  have b3 := below_new W2 (.cells #[z0, z1, z2, z3, z4] U)
  have c2 : W2.cell? ⟨w.heap.size + 1, 0, none⟩ = some a := by rw [h2, ← s1, World.cell?_alloc_at _ _ _ _ rfl]; rfl
  have a3 := C5.new W2 z0 z1 z2 z3 z4 U
  rw [s2] at a3
  rw [← h1, ← h2]
  exact ⟨_, rfl, (a1.step b2).step b3, keepcell b3 c2, a3, held_trans (held_trans b1 b2) b3, by simp [s2]⟩
theorem RM.onTo {F : Nat → Prop} {w : World} {d : Ad} {r : Jp.Rn} (h : RM F w d r) {x : Nat} (hx : x < 18446744073709551616) : RM F w d { r with on := x } := ⟨h.tlen, h.tmax, h.fit, h.tree, h.lie, h.rings, h.rows, hx, h.size⟩
/-- Two reasons. -/
theorem asks2 {b : Nat} {w W : World} {e0 e1 : Int} {f0 f1 : FuncId} {c0 c1 : Array Value} {a0 a1 : Bool} {T : TypeId}
    (hb : b = w.heap.size) (hW : W = w.alloc (.cells #[.int .i64 e0, .func (.func f0) #[] c0, .int .i64 e1, .func (.func f1) #[] c1] T))
    (n0 : ∀ (args : Array Value) (W : World), (callFunc f0 args).run Tryd.prog W = .ok (.enter f0 args) W) (n1 : ∀ (args : Array Value) (W : World), (callFunc f1 args).run Tryd.prog W = .ok (.enter f1 args) W)
    (h0 : ∀ V, Below w.heap.size w V → Calls Tryd.prog f0 c0 V fun e W' => e = .returned (.bool a0) ∧ Below V.heap.size V W') (h1 : ∀ V, Below w.heap.size w V → Calls Tryd.prog f1 c1 V fun e W' => e = .returned (.bool a1) ∧ Below V.heap.size V W') :
    Asks b W.heap.size [⟨e0, f0, c0, a0⟩, ⟨e1, f1, c1, a1⟩] W := by
  have hbw : Below w.heap.size w W := by rw [hW]; exact below_new w _
  subst hb
  refine ⟨fun i x hx => ?_, fun i x hx => ?_, fun i x hx V hV => ?_⟩
  · match i, hx with
    | 0, hx =>
      obtain rfl : (⟨e0, f0, c0, a0⟩ : Ask) = x := by simpa using hx
      rw [hW]
      exact ⟨by rw [World.cell?_alloc_at _ _ _ _ rfl]; rfl, by rw [World.cell?_alloc_at _ _ _ _ rfl]; rfl⟩
    | 1, hx =>
      obtain rfl : (⟨e1, f1, c1, a1⟩ : Ask) = x := by simpa using hx
      rw [hW]
      exact ⟨by rw [World.cell?_alloc_at _ _ _ _ rfl]; rfl, by rw [World.cell?_alloc_at _ _ _ _ rfl]; rfl⟩
  · match i, hx with
    | 0, hx =>
      obtain rfl : (⟨e0, f0, c0, a0⟩ : Ask) = x := by simpa using hx
      exact n0
    | 1, hx =>
      obtain rfl : (⟨e1, f1, c1, a1⟩ : Ask) = x := by simpa using hx
      exact n1
  · have hV' : Below w.heap.size w V := hbw.trans (hV.mono hbw.size)
    match i, hx with
    | 0, hx =>
      obtain rfl : (⟨e0, f0, c0, a0⟩ : Ask) = x := by simpa using hx
      exact h0 V hV'
    | 1, hx =>
      obtain rfl : (⟨e1, f1, c1, a1⟩ : Ask) = x := by simpa using hx
      exact h1 V hV'
set_option maxRecDepth 100000 in
set_option maxHeartbeats 2000000 in
theorem plugPlug_any {F : Nat → Prop} (d : Ad) (r : Jp.Rn) (p : Int) (w : World) (h : RM F w d r) (hF : ∀ b, F b → b < w.heap.size) (hlow : Low r) (hp : In64 p) (hT : Tab w) :
    Calls Tryd.prog 10 #[jv d r, .int .i64 p] w (TellJE F w (Jp.plug r p)) := by
  obtain ⟨A0, nt, ct, R, nr, cr, S, ns, cs⟩ := d
  have H := Lib.hid h
  have HL := Lib.hid hlow
  have HTW := Lib.hid hT
  obtain ⟨V, hV, hX, hP, hZ, hB, hsz⟩ := nboxes3 w (.slice A0 nt ct) (.int .i64 r.size) (.slice R nr cr) (.slice S ns cs) (.int .u64 (r.on : Nat)) (.int .i64 p) (.slice none 0 0) (.int .i64 0) (.slice none 0 0) (.slice none 0 0) (.int .u64 0) 33 3 33
  have hap := runsApart_any ⟨A0, nt, ct, R, nr, cr, S, ns, cs⟩ r V (h.below hB) hlow
  unfold jv at hap
  simp only at hap
  have AP := Lib.hid hap
  have E := Lib.hid hV
  have C0 := Lib.hid (show Came F w.heap.size ⟨A0, nt, ct, R, nr, cr, S, ns, cs⟩ r V from ⟨h.below hB, hX, hT.step hB⟩)
  have P0 := Lib.hid hP
  have Z0 := Lib.hid hZ
  have B0 := Lib.hid hB
  have d0 := hX.c0
  have d1 := hX.c1
  have d2 := hX.c2
  have d3 := hX.c3
  have d4 := hX.c4
  clear hV hX hZ hB hap h hlow hF hT hP
  unfold jv
  go_enter Tryd.func10, Tryd.ntmps10
  go_wp2_with (rw [← E.out])
  clear E
  refine AP.out.mono ?_
  rintro e w1 ⟨⟨T1, nt1, ct1, R1, nr1, cr1, S1, ns1, cs1⟩, B1', B2', B3', es, ls, rfl, htold, hb1⟩
  unfold jv
  simp only
  have hb2 := below_new w1 (.cells #[.slice T1 nt1 ct1, .int .i64 r.size, .slice R1 nr1 cr1, .slice S1 ns1 cs1, .int .u64 (r.on : Nat)] 33)
  obtain ⟨w2, hw2⟩ : ∃ w2, w2 = w1.alloc (.cells #[.slice T1 nt1 ct1, .int .i64 r.size, .slice R1 nr1 cr1, .slice S1 ns1 cs1, .int .u64 (r.on : Nat)] 33) := ⟨_, rfl⟩
  have hY := C5.new w1 (.slice T1 nt1 ct1) (.int .i64 r.size) (.slice R1 nr1 cr1) (.slice S1 ns1 cs1) (.int .u64 (r.on : Nat)) 33
  rw [← hw2] at hb2 hY
  have E2 := Lib.hid hw2
  have hb12 := hb1.trans (hb2.mono hb1.size)
  have CC2 := Lib.hid (C0.out.step hb12)
  have P2 := Lib.hid (keepcell hb12 P0.out)
  have Z2 := Lib.hid (Z0.out.step hb12)
  have BB2 := Lib.hid (held_trans B0.out hb12)
  have T2 := Lib.hid (htold.step hb2)
  have Y2 := Lib.hid hY
  have hs1' := hb1.size
  obtain ⟨Tb, hTb⟩ : ∃ Tb : Bool, (Tb = true ↔ Jp.May r) := by
    by_cases h : Jp.May r
    · exact ⟨true, by simp [h]⟩
    · exact ⟨false, by simp [h]⟩
  have HTB := Lib.hid hTb
  obtain ⟨ip, hip⟩ : ∃ ip, ip = (Tb && decide (0 ≤ p ∧ p < r.rings.length)) := ⟨_, rfl⟩
  have HIP := Lib.hid (show ip = true ↔ ¬ (¬ Jp.May r ∨ p < 0 ∨ (r.rings.length : Int) ≤ p) by
    rw [hip, Bool.and_eq_true, decide_eq_true_iff, hTb]
    constructor
    · rintro ⟨h1, h2⟩ (h3 | h3 | h3)
      · exact h3 h1
      · omega
      · omega
    · intro h1
      exact ⟨Classical.byContradiction (fun h => h1 (.inl h)), by omega⟩)
  obtain ⟨on, hon⟩ : ∃ on, on = Jp.onP r p := ⟨_, rfl⟩
  have HON := Lib.hid hon
  obtain ⟨w3, hw3⟩ : ∃ w3, w3 = w2.alloc (.cells #[.int .i64 1, .func (.func 30) #[] #[.pointer (some ⟨w.heap.size, 0, none⟩), .pointer (some ⟨w.heap.size + 1, 0, none⟩)], .int .i64 5, .func (.func 32) #[] #[.pointer (some ⟨w.heap.size, 0, none⟩), .pointer (some ⟨w.heap.size + 1, 0, none⟩)]] 65) := ⟨_, rfl⟩
  have hAK := asks2 (b := w2.heap.size) (a0 := !ip) (a1 := on) rfl hw3 (fun args W => by kernel_rfl) (fun args W => by kernel_rfl)
    (fun U hU => by rw [hip]; exact plug1_any _ r p Tb U HTB (CC2.out.step hU) HL.out (keepcell hU P2.out)) (fun U hU => by rw [hon]; exact plug2_any _ r p U (CC2.out.step hU) (keepcell hU P2.out))
  have hRF := refused_any w2.heap.size 2 _ 2 w3 hAK rfl (by decide)
  have hb3 := below_new w2 (.cells #[.int .i64 1, .func (.func 30) #[] #[.pointer (some ⟨w.heap.size, 0, none⟩), .pointer (some ⟨w.heap.size + 1, 0, none⟩)], .int .i64 5, .func (.func 32) #[] #[.pointer (some ⟨w.heap.size, 0, none⟩), .pointer (some ⟨w.heap.size + 1, 0, none⟩)]] 65)
  rw [← hw3] at hb3
  obtain ⟨er, her⟩ : ∃ er, er = told1 [⟨1, 30, #[.pointer (some ⟨w.heap.size, 0, none⟩), .pointer (some ⟨w.heap.size + 1, 0, none⟩)], !ip⟩, ⟨5, 32, #[.pointer (some ⟨w.heap.size, 0, none⟩), .pointer (some ⟨w.heap.size + 1, 0, none⟩)], on⟩] := ⟨_, rfl⟩
  rw [← her] at hRF
  have RF := Lib.hid hRF
  have HER := Lib.hid (show er = if ip = true then (if on = true then 5 else 0) else 1 by rw [her]; cases ip <;> cases on <;> rfl)
  have E3 := Lib.hid hw3
  have hmf := nmf
  have Z3 := Lib.hid (Z2.out.step hb3)
  have Y3 := Lib.hid (Y2.out.step hb3)
  have P3 := Lib.hid (keepcell hb3 P2.out)
  have BB3 := Lib.hid (held_trans BB2.out hb3)
  have T3 := Lib.hid (T2.out.step hb3)
  have TD := Lib.hid htold
  have BW3 := Lib.hid (held_trans hb2 hb3)
  clear hb1 hb2 hb12 hw2 hY htold C0 P0 Z0 B0 AP d0 d1 d2 d3 d4 hip hon hTb hw3 hAK hRF hb3 her
  go_wp2_with (first | rw [← E3.out] | rw [← E2.out])
  refine RF.out.mono ?_
  rintro e w4 ⟨rfl, hb4⟩
  have Z4 := Lib.hid (Z3.out.step hb4)
  have Y4 := Lib.hid (Y3.out.step hb4)
  have P4 := Lib.hid (keepcell hb4 P3.out)
  have BB4 := Lib.hid (held_trans BB3.out hb4)
  have T4 := Lib.hid (T3.out.step hb4)
  have BW4 := Lib.hid (held_trans BW3.out hb4)
  have SZ2 := Y2.out.lt
  have SZ4 := hb4.size
  have SZ3 := Y3.out.lt
  have HB12 := Lib.hid (show V.heap.size ≤ w1.heap.size from hs1')
  clear RF E2 E3 hmf CC2 P2 Z2 BB2 T2 Y2 P3 Z3 Y3 BB3 T3 hb4
  cases ip
  · have HP := Lib.hid (Jp.plug_arg (r := r) (p := p) (Classical.not_not.1 (fun h => by have := HIP.out.2 h; cases this)))
    obtain rfl : er = 1 := by rw [HER.out]; rfl
    have HF := Lib.hid (tell_no (F := F) (w := w) (Z := w.heap.size + 2) (e := 1) HP.out T4.out (by omega) (by omega) (by omega) BB4.out (.slice T1 nt1 ct1) (.int .i64 r.size) (.slice R1 nr1 cr1) (.slice S1 ns1 cs1) (.int .u64 (r.on : Nat)))
    clear HER HIP HON
    have d0 := ((Y4.out)).b5.c0
    have d1 := ((Y4.out)).b5.c1
    have d2 := ((Y4.out)).b5.c2
    have d3 := ((Y4.out)).b5.c3
    have d4 := ((Y4.out)).b5.c4
    have y0 := ((Z4.out)).b5.c0
    have y1 := ((Z4.out)).b5.c1
    have y2 := ((Z4.out)).b5.c2
    have y3 := ((Z4.out)).b5.c3
    have y4 := ((Z4.out)).b5.c4
    have g0 := ((Z4.out)).f0
    have g1 := ((Z4.out)).f1
    have g2 := ((Z4.out)).f2
    have g3 := ((Z4.out)).f3
    have g4 := ((Z4.out)).f4
    obtain ⟨k0, k1, k2, k3, k4⟩ := put5_told ((Z4.out)) (.slice T1 nt1 ct1) (.int .i64 r.size) (.slice R1 nr1 cr1) (.slice S1 ns1 cs1) (.int .u64 (r.on : Nat))
    unfold put5 at k0 k1 k2 k3 k4
    go_wp2_with fail
    refine bodyPost_ret ?_ rfl HF.out
    simp [results, Tryd.results10, go_sem, k0, k1, k2, k3, k4, jv]
  have HNA := Lib.hid (HIP.out.1 rfl)
  clear HIP
  cases on
  · obtain rfl : er = 0 := by rw [HER.out]; rfl
    clear HER
    have HP := Lib.hid (Jp.plug_done (r := r) (p := p) HNA.out HON.out.symm)
    have WI := Lib.hid (fun W => with_any r.on p W H.out.on)
    obtain ⟨o', ho'⟩ : ∃ o', o' = Zp.wth r.on p := ⟨_, rfl⟩
    have HO := Lib.hid ho'
    rw [← ho'] at WI
    have d4 := Y4.out.b5.c4
    have d5 := P4.out
    clear ho'
    go_wp2_with fail
    refine (WI.out _).mono ?_
    rintro e w5 ⟨rfl, hb5⟩
    have Y5 := Y4.out.step hb5
    have Z5 := Z4.out.step hb5
    have d4 := Y5.b5.c4
    have g4 := Y5.f4
    have Y6 := Lib.hid (Y5.set4 (.int .u64 (o' : Nat)))
    have Z6 := Lib.hid (Z5.far (p := ⟨w1.heap.size, 4, none⟩) (u := .int .u64 (o' : Nat)) (by simp only; omega))
    have BB6 := Lib.hid ((held_trans BB4.out hb5).setCell (p := ⟨w1.heap.size, 4, none⟩) (by simp only; omega) (.int .u64 (o' : Nat)))
    have BW6 := Lib.hid ((held_trans BW4.out hb5).setCell (p := ⟨w1.heap.size, 4, none⟩) (by simp only; omega) (.int .u64 (o' : Nat)))
    have MM := Lib.hid (((TD.out.step BW6.out).rm (F := fun _ => False) (w0 := V) (by omega)).onTo (x := o') (by rw [HO.out]; exact Zp.wth_lt H.out.on _))
    have HPP := Lib.hid (show Jp.plug r p = ({ r with on := o' }, 0) by rw [HP.out, HO.out]; rfl)
    obtain ⟨w6, hw6⟩ : ∃ w6, w6 = w5.setCell ⟨w1.heap.size, 4, none⟩ (.int .u64 (o' : Nat)) := ⟨_, rfl⟩
    rw [← hw6] at Y6 Z6 BB6 MM
    have E6 := Lib.hid hw6
    have HF := Lib.hid (tell_yes (F := F) (w := w) (V := V) (Z := w.heap.size + 2) (e := 0) HPP.out MM.out (by omega) (by omega) (by omega) BB6.out (.slice T1 nt1 ct1) (.int .i64 r.size) (.slice R1 nr1 cr1) (.slice S1 ns1 cs1) (.int .u64 (o' : Nat)))
    clear Y5 Z5 hb5 BW6 hw6 d5 BB6 MM HP HPP HO WI
    have d0 := ((Y6.out)).b5.c0
    have d1 := ((Y6.out)).b5.c1
    have d2 := ((Y6.out)).b5.c2
    have d3 := ((Y6.out)).b5.c3
    have d4 := ((Y6.out)).b5.c4
    have y0 := ((Z6.out)).b5.c0
    have y1 := ((Z6.out)).b5.c1
    have y2 := ((Z6.out)).b5.c2
    have y3 := ((Z6.out)).b5.c3
    have y4 := ((Z6.out)).b5.c4
    have g0 := ((Z6.out)).f0
    have g1 := ((Z6.out)).f1
    have g2 := ((Z6.out)).f2
    have g3 := ((Z6.out)).f3
    have g4 := ((Z6.out)).f4
    obtain ⟨k0, k1, k2, k3, k4⟩ := put5_told ((Z6.out)) (.slice T1 nt1 ct1) (.int .i64 r.size) (.slice R1 nr1 cr1) (.slice S1 ns1 cs1) (.int .u64 (o' : Nat))
    unfold put5 at k0 k1 k2 k3 k4
    go_wp2_with (rw[←E6.out])
    refine bodyPost_ret ?_ rfl HF.out
    simp [results, Tryd.results10, go_sem, k0, k1, k2, k3, k4, jv]
  · obtain rfl : er = 5 := by rw [HER.out]; rfl
    clear HER
    have HP := Lib.hid (Jp.plug_there (r := r) (p := p) HNA.out HON.out.symm)
    have HF := Lib.hid (tell_no (F := F) (w := w) (Z := w.heap.size + 2) (e := 5) HP.out T4.out (by omega) (by omega) (by omega) BB4.out (.slice T1 nt1 ct1) (.int .i64 r.size) (.slice R1 nr1 cr1) (.slice S1 ns1 cs1) (.int .u64 (r.on : Nat)))
    clear HON
    have d0 := ((Y4.out)).b5.c0
    have d1 := ((Y4.out)).b5.c1
    have d2 := ((Y4.out)).b5.c2
    have d3 := ((Y4.out)).b5.c3
    have d4 := ((Y4.out)).b5.c4
    have y0 := ((Z4.out)).b5.c0
    have y1 := ((Z4.out)).b5.c1
    have y2 := ((Z4.out)).b5.c2
    have y3 := ((Z4.out)).b5.c3
    have y4 := ((Z4.out)).b5.c4
    have g0 := ((Z4.out)).f0
    have g1 := ((Z4.out)).f1
    have g2 := ((Z4.out)).f2
    have g3 := ((Z4.out)).f3
    have g4 := ((Z4.out)).f4
    obtain ⟨k0, k1, k2, k3, k4⟩ := put5_told ((Z4.out)) (.slice T1 nt1 ct1) (.int .i64 r.size) (.slice R1 nr1 cr1) (.slice S1 ns1 cs1) (.int .u64 (r.on : Nat))
    unfold put5 at k0 k1 k2 k3 k4
    go_wp2_with fail
    refine bodyPost_ret ?_ rfl HF.out
    simp [results, Tryd.results10, go_sem, k0, k1, k2, k3, k4, jv]
end Go.Proofs.YtcoccegmkcdeiaaDoor

