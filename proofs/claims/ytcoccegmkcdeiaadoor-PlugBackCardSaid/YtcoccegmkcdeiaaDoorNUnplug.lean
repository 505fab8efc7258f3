/- plug.Unplug, by its contract. -/
import Derived.Test.YtcoccegmkcdeiaaDoorNPlug
import Derived.Test.YtcoccegmkcdeiaaDoorNToRow
namespace Go.Proofs.YtcoccegmkcdeiaaDoor
open Go.RowKit
set_option linter.unusedVariables false

/-- A box of five, two boxes of one, a result's place. -/
theorem nboxes4 (w : World) (p0 p1 p2 p3 p4 a b z0 z1 z2 z3 z4 : Value) (T T1 U : TypeId) : ∃ V, V = (((w.alloc (.cells #[p0, p1, p2, p3, p4] T)).alloc (.cells #[a] T1)).alloc (.cells #[b] T1)).alloc (.cells #[z0, z1, z2, z3, z4] U) ∧
    B5 V w.heap.size p0 p1 p2 p3 p4 ∧ V.cell? ⟨w.heap.size + 1, 0, none⟩ = some a ∧ V.cell? ⟨w.heap.size + 2, 0, none⟩ = some b ∧ C5 V (w.heap.size + 3) z0 z1 z2 z3 z4 ∧ Below w.heap.size w V ∧ V.heap.size = w.heap.size + 4 := by
  obtain ⟨W1, h1⟩ : ∃ W1, W1 = w.alloc (.cells #[p0, p1, p2, p3, p4] T) := ⟨_, rfl⟩
  obtain ⟨W2, h2⟩ : ∃ W2, W2 = W1.alloc (.cells #[a] T1) := ⟨_, rfl⟩
  obtain ⟨W3, h3⟩ : ∃ W3, W3 = W2.alloc (.cells #[b] T1) := ⟨_, rfl⟩
  have a1 : B5 W1 w.heap.size p0 p1 p2 p3 p4 := by rw [h1]; exact B5.new w p0 p1 p2 p3 p4 T
  have s1 : W1.heap.size = w.heap.size + 1 := by rw [h1]; simp
  have s2 : W2.heap.size = w.heap.size + 2 := by rw [h2]; simp [s1]
  have s3 : W3.heap.size = w.heap.size + 3 := by rw [h3]; simp [s2]
  have b1 : Below w.heap.size w W1 := by rw [h1]; exact below_new w _
  have b2 : Below W1.heap.size W1 W2 := by rw [h2]; exact below_new W1 _
  have b3 : Below W2.heap.size W2 W3 := by rw [h3]; exact below_new W2 _
  have b4 := below_new W3 (.cells #[z0, z1, z2, z3, z4] U)
  have c2 : W2.cell? ⟨w.heap.size + 1, 0, none⟩ = some a := by rw [h2, ← s1, World.cell?_alloc_at _ _ _ _ rfl]; rfl
  have c3 : W3.cell? ⟨w.heap.size + 2, 0, none⟩ = some b := by rw [h3, ← s2, World.cell?_alloc_at _ _ _ _ rfl]; rfl
  have a3 := C5.new W3 z0 z1 z2 z3 z4 U
  rw [s3] at a3
  rw [← h1, ← h2, ← h3]
  exact ⟨_, rfl, ((a1.step b2).step b3).step b4, keepcell b4 (keepcell b3 c2), keepcell b4 c3, a3, held_trans (held_trans (held_trans b1 b2) b3) b4, by simp [s3]⟩
theorem Ready.onTo {B0 q : Nat} {d : Ad} {r : Jp.Rn} {es ls : List El} {e0 : El} {W : World} (h : Ready B0 q d r es ls e0 W) {x : Nat} (hx : x < 18446744073709551616) : Ready B0 q d { r with on := x } es ls e0 W := { h with on := hx }
/-- Four reasons. -/
theorem asks4 {b : Nat} {w W : World} {e0 e1 e2 e3 : Int} {f0 f1 f2 f3 : FuncId} {c0 c1 c2 c3 : Array Value} {a0 a1 a2 a3 : Bool} {T : TypeId}
    (hb : b = w.heap.size) (hW : W = w.alloc (.cells #[.int .i64 e0, .func (.func f0) #[] c0, .int .i64 e1, .func (.func f1) #[] c1, .int .i64 e2, .func (.func f2) #[] c2, .int .i64 e3, .func (.func f3) #[] c3] T))
    (n0 : ∀ (args : Array Value) (W : World), (callFunc f0 args).run Tryd.prog W = .ok (.enter f0 args) W)
    (n1 : ∀ (args : Array Value) (W : World), (callFunc f1 args).run Tryd.prog W = .ok (.enter f1 args) W)
    (n2 : ∀ (args : Array Value) (W : World), (callFunc f2 args).run Tryd.prog W = .ok (.enter f2 args) W)
    (n3 : ∀ (args : Array Value) (W : World), (callFunc f3 args).run Tryd.prog W = .ok (.enter f3 args) W)
    (h0 : ∀ V, Below w.heap.size w V → Calls Tryd.prog f0 c0 V fun e W' => e = .returned (.bool a0) ∧ Below V.heap.size V W')
    (h1 : ∀ V, Below w.heap.size w V → Calls Tryd.prog f1 c1 V fun e W' => e = .returned (.bool a1) ∧ Below V.heap.size V W')
    (h2 : ∀ V, Below w.heap.size w V → Calls Tryd.prog f2 c2 V fun e W' => e = .returned (.bool a2) ∧ Below V.heap.size V W')
    (h3 : ∀ V, Below w.heap.size w V → Calls Tryd.prog f3 c3 V fun e W' => e = .returned (.bool a3) ∧ Below V.heap.size V W')
    : Asks b W.heap.size [⟨e0, f0, c0, a0⟩, ⟨e1, f1, c1, a1⟩, ⟨e2, f2, c2, a2⟩, ⟨e3, f3, c3, a3⟩] W := by
  have hbw : Below w.heap.size w W := by rw [hW]; exact below_new w _
  subst hb
  refine ⟨fun i x hx => ?_, fun i x hx => ?_, fun i x hx V hV => ?_⟩
  · match i, hx with
    | 0, hx =>
      obtain rfl : (⟨e0, f0, c0, a0⟩ : Ask) = x := by simpa using hx
      rw [hW]
      exact ⟨by rw [World.cell?_alloc_at _ _ _ _ rfl]; rfl, by rw [World.cell?_alloc_at _ _ _ _ rfl]; rfl⟩
    | 1, hx =>
      obtain rfl : (⟨e1, f1, c1, a1⟩ : Ask) = x := by simpa using hx
      rw [hW]
      exact ⟨by rw [World.cell?_alloc_at _ _ _ _ rfl]; rfl, by rw [World.cell?_alloc_at _ _ _ _ rfl]; rfl⟩
    | 2, hx =>
      obtain rfl : (⟨e2, f2, c2, a2⟩ : Ask) = x := by simpa using hx
      rw [hW]
      exact ⟨by rw [World.cell?_alloc_at _ _ _ _ rfl]; rfl, by rw [World.cell?_alloc_at _ _ _ _ rfl]; rfl⟩
    | 3, hx =>
      obtain rfl : (⟨e3, f3, c3, a3⟩ : Ask) = x := by simpa using hx
      rw [hW]
      exact ⟨by rw [World.cell?_alloc_at _ _ _ _ rfl]; rfl, by rw [World.cell?_alloc_at _ _ _ _ rfl]; rfl⟩
  · match i, hx with
    | 0, hx =>
      obtain rfl : (⟨e0, f0, c0, a0⟩ : Ask) = x := by simpa using hx
      exact n0
    | 1, hx =>
      obtain rfl : (⟨e1, f1, c1, a1⟩ : Ask) = x := by simpa using hx
      exact n1
    | 2, hx =>
      obtain rfl : (⟨e2, f2, c2, a2⟩ : Ask) = x := by simpa using hx
      exact n2
    | 3, hx =>
      obtain rfl : (⟨e3, f3, c3, a3⟩ : Ask) = x := by simpa using hx
      exact n3
  · have hV' : Below w.heap.size w V := hbw.trans (hV.mono hbw.size)
    match i, hx with
    | 0, hx =>
      obtain rfl : (⟨e0, f0, c0, a0⟩ : Ask) = x := by simpa using hx
      exact h0 V hV'
    | 1, hx =>
      obtain rfl : (⟨e1, f1, c1, a1⟩ : Ask) = x := by simpa using hx
      exact h1 V hV'
    | 2, hx =>
      obtain rfl : (⟨e2, f2, c2, a2⟩ : Ask) = x := by simpa using hx
      exact h2 V hV'
    | 3, hx =>
      obtain rfl : (⟨e3, f3, c3, a3⟩ : Ask) = x := by simpa using hx
      exact h3 V hV'
theorem all_zero {r : Jp.Rn} (h : Jp.May r) : Tp.has (Jp.all r) 0 = false := Jp.has_no.2 (fun e => by have := h.once.1 0 e; omega)
set_option maxRecDepth 100000 in
set_option maxHeartbeats 4000000 in
theorem plugUnplug_any {F : Nat → Prop} (d : Ad) (r : Jp.Rn) (p cur : Int) (w : World) (h : RM F w d r) (hF : ∀ b, F b → b < w.heap.size) (hlow : Low r) (hp : In64 p) (hc : In64 cur) (hT : Tab w) :
    Calls Tryd.prog 11 #[jv d r, .int .i64 p, .int .i64 cur] w (TellJE F w (Jp.unplug r p cur)) := by
  obtain ⟨A0, nt, ct, R, nr, cr, S, ns, cs⟩ := d
  have H := Lib.hid h
  have HL := Lib.hid hlow
  have HTW := Lib.hid hT
  obtain ⟨V, hV, hX, hP, hC, hZ, hB, hsz⟩ := nboxes4 w (.slice A0 nt ct) (.int .i64 r.size) (.slice R nr cr) (.slice S ns cs) (.int .u64 (r.on : Nat)) (.int .i64 p) (.int .i64 cur) (.slice none 0 0) (.int .i64 0) (.slice none 0 0) (.slice none 0 0) (.int .u64 0) 33 3 33
  have hap := runsApart_any ⟨A0, nt, ct, R, nr, cr, S, ns, cs⟩ r V (h.below hB) hlow
  unfold jv at hap
  simp only at hap
  have AP := Lib.hid hap
  have E := Lib.hid hV
  have C0 := Lib.hid (show Came F w.heap.size ⟨A0, nt, ct, R, nr, cr, S, ns, cs⟩ r V from ⟨h.below hB, hX, hT.step hB⟩)
  have P0 := Lib.hid hP
  have Q0 := Lib.hid hC
  have Z0 := Lib.hid hZ
  have B0 := Lib.hid hB
  have d0 := hX.c0
  have d1 := hX.c1
  have d2 := hX.c2
  have d3 := hX.c3
  have d4 := hX.c4
  clear hV hX hZ hB hap h hlow hF hT hP hC
  unfold jv
  go_enter Tryd.func11, Tryd.ntmps11
  go_wp2_with (rw [← E.out])
  clear E
  refine AP.out.mono ?_
  rintro e w1 ⟨⟨T1, nt1, ct1, R1, nr1, cr1, S1, ns1, cs1⟩, B1', B2', B3', es, ls, rfl, htold, hb1⟩
  unfold jv
  simp only
  have hb2 := below_new w1 (.cells #[.slice T1 nt1 ct1, .int .i64 r.size, .slice R1 nr1 cr1, .slice S1 ns1 cs1, .int .u64 (r.on : Nat)] 33)
  obtain ⟨w2, hw2⟩ : ∃ w2, w2 = w1.alloc (.cells #[.slice T1 nt1 ct1, .int .i64 r.size, .slice R1 nr1 cr1, .slice S1 ns1 cs1, .int .u64 (r.on : Nat)] 33) := ⟨_, rfl⟩
  have hY := C5.new w1 (.slice T1 nt1 ct1) (.int .i64 r.size) (.slice R1 nr1 cr1) (.slice S1 ns1 cs1) (.int .u64 (r.on : Nat)) 33
  rw [← hw2] at hb2 hY
  have E2 := Lib.hid hw2
  have hb12 := hb1.trans (hb2.mono hb1.size)
  have CC2 := Lib.hid (C0.out.step hb12)
  have P2 := Lib.hid (keepcell hb12 P0.out)
  have Q2 := Lib.hid (keepcell hb12 Q0.out)
  have Z2 := Lib.hid (Z0.out.step hb12)
  have BB2 := Lib.hid (held_trans B0.out hb12)
  have T2 := Lib.hid (htold.step hb2)
  have Y2 := Lib.hid hY
  have hs1' := hb1.size
  obtain ⟨Tb, hTb⟩ : ∃ Tb : Bool, (Tb = true ↔ Jp.May r) := by
    by_cases h : Jp.May r
    · exact ⟨true, by simp [h]⟩
    · exact ⟨false, by simp [h]⟩
  have HTB := Lib.hid hTb
  obtain ⟨ip, hip⟩ : ∃ ip, ip = (Tb && decide (0 ≤ p ∧ p < r.rings.length)) := ⟨_, rfl⟩
  have HIP := Lib.hid (show (!ip || decide (cur < 0)) = false ↔ ¬ (¬ Jp.May r ∨ p < 0 ∨ (r.rings.length : Int) ≤ p ∨ cur < 0) by
    rw [Bool.or_eq_false_iff, Bool.not_eq_false', decide_eq_false_iff_not, hip, Bool.and_eq_true, decide_eq_true_iff, hTb]
    constructor
    · rintro ⟨⟨h1, h2⟩, h4⟩ (h3 | h3 | h3 | h3)
      · exact h3 h1
      · omega
      · omega
      · omega
    · intro h1
      exact ⟨⟨Classical.byContradiction (fun h => h1 (.inl h)), by omega⟩, by omega⟩)
  obtain ⟨on, hon⟩ : ∃ on, on = Jp.onP r p := ⟨_, rfl⟩
  have HON := Lib.hid hon
  obtain ⟨lone, hlone⟩ : ∃ lone, lone = decide ((Zp.mem r.on).length = 1) := ⟨_, rfl⟩
  have HLO := Lib.hid hlone
  obtain ⟨hs, hhs⟩ : ∃ hs, hs = Tp.has (Jp.all r) cur := ⟨_, rfl⟩
  have HHS := Lib.hid hhs
  obtain ⟨w3, hw3⟩ : ∃ w3, w3 = w2.alloc (.cells #[.int .i64 1, .func (.func 34) #[] #[.pointer (some ⟨w.heap.size, 0, none⟩), .pointer (some ⟨w.heap.size + 1, 0, none⟩), .pointer (some ⟨w.heap.size + 2, 0, none⟩)], .int .i64 4, .func (.func 35) #[] #[.pointer (some ⟨w.heap.size, 0, none⟩), .pointer (some ⟨w.heap.size + 1, 0, none⟩)], .int .i64 6, .func (.func 36) #[] #[.pointer (some ⟨w.heap.size, 0, none⟩)], .int .i64 5, .func (.func 37) #[] #[.pointer (some ⟨w.heap.size, 0, none⟩), .pointer (some ⟨w.heap.size + 2, 0, none⟩)]] 65) := ⟨_, rfl⟩
  have hAK := asks4 (b := w2.heap.size) (a0 := !ip || decide (cur < 0)) (a1 := !on) (a2 := lone) (a3 := hs) rfl hw3 (fun args W => by kernel_rfl) (fun args W => by kernel_rfl) (fun args W => by kernel_rfl) (fun args W => by kernel_rfl)
    (fun U hU => by rw [hip]; exact unplug1_any _ r p cur Tb U HTB (CC2.out.step hU) HL.out (keepcell hU P2.out) (keepcell hU Q2.out))
    (fun U hU => by rw [hon]; exact unplug2_any _ r p U (CC2.out.step hU) (keepcell hU P2.out))
    (fun U hU => by rw [hlone]; exact unplug3_any _ r U (CC2.out.step hU))
    (fun U hU => by rw [hhs]; exact unplug4_any _ r cur U (CC2.out.step hU) HL.out (keepcell hU Q2.out))
  have hRF := refused_any w2.heap.size 4 _ 4 w3 hAK rfl (by decide)
  have hb3 := below_new w2 (.cells #[.int .i64 1, .func (.func 34) #[] #[.pointer (some ⟨w.heap.size, 0, none⟩), .pointer (some ⟨w.heap.size + 1, 0, none⟩), .pointer (some ⟨w.heap.size + 2, 0, none⟩)], .int .i64 4, .func (.func 35) #[] #[.pointer (some ⟨w.heap.size, 0, none⟩), .pointer (some ⟨w.heap.size + 1, 0, none⟩)], .int .i64 6, .func (.func 36) #[] #[.pointer (some ⟨w.heap.size, 0, none⟩)], .int .i64 5, .func (.func 37) #[] #[.pointer (some ⟨w.heap.size, 0, none⟩), .pointer (some ⟨w.heap.size + 2, 0, none⟩)]] 65)
  rw [← hw3] at hb3
  obtain ⟨er, her⟩ : ∃ er, er = told1 [⟨1, 34, #[.pointer (some ⟨w.heap.size, 0, none⟩), .pointer (some ⟨w.heap.size + 1, 0, none⟩), .pointer (some ⟨w.heap.size + 2, 0, none⟩)], !ip || decide (cur < 0)⟩, ⟨4, 35, #[.pointer (some ⟨w.heap.size, 0, none⟩), .pointer (some ⟨w.heap.size + 1, 0, none⟩)], !on⟩, ⟨6, 36, #[.pointer (some ⟨w.heap.size, 0, none⟩)], lone⟩, ⟨5, 37, #[.pointer (some ⟨w.heap.size, 0, none⟩), .pointer (some ⟨w.heap.size + 2, 0, none⟩)], hs⟩] := ⟨_, rfl⟩
  rw [← her] at hRF
  have RF := Lib.hid hRF
  obtain ⟨ba, hba⟩ : ∃ ba, ba = (!ip || decide (cur < 0)) := ⟨_, rfl⟩
  rw [← hba] at HIP
  have HER := Lib.hid (show er = if ba = true then 1 else if on = true then (if lone = true then 6 else if hs = true then 5 else 0) else 4 by rw [her, ← hba]; cases ba <;> cases on <;> cases lone <;> cases hs <;> rfl)
  have E3 := Lib.hid hw3
  have hmf := nmf
  have Z3 := Lib.hid (Z2.out.step hb3)
  have Y3 := Lib.hid (Y2.out.step hb3)
  have P3 := Lib.hid (keepcell hb3 P2.out)
  have Q3 := Lib.hid (keepcell hb3 Q2.out)
  have BB3 := Lib.hid (held_trans BB2.out hb3)
  have T3 := Lib.hid (T2.out.step hb3)
  have TD := Lib.hid htold
  have BW3 := Lib.hid (held_trans hb2 hb3)
  clear hb1 hb2 hb12 hw2 hY htold C0 P0 Q0 Z0 B0 AP d0 d1 d2 d3 d4 hip hon hTb hw3 hAK hRF hb3 her hlone hhs hba
  go_wp2_with (first | rw [← E3.out] | rw [← E2.out])
  refine RF.out.mono ?_
  rintro e w4 ⟨rfl, hb4⟩
  have Z4 := Lib.hid (Z3.out.step hb4)
  have Y4 := Lib.hid (Y3.out.step hb4)
  have P4 := Lib.hid (keepcell hb4 P3.out)
  have Q4 := Lib.hid (keepcell hb4 Q3.out)
  have BB4 := Lib.hid (held_trans BB3.out hb4)
  have T4 := Lib.hid (T3.out.step hb4)
  have BW4 := Lib.hid (held_trans BW3.out hb4)
  have SZ2 := Y2.out.lt
  have SZ4 := hb4.size
  have SZ3 := Y3.out.lt
  have HB12 := Lib.hid (show V.heap.size ≤ w1.heap.size from hs1')
  clear RF E2 E3 hmf CC2 P2 Q2 Z2 BB2 T2 Y2 P3 Q3 Z3 Y3 BB3 T3 hb4
  cases ba
  case true =>
    have HP := Lib.hid (Jp.unplug_arg (r := r) (p := p) (cur := cur) (Classical.not_not.1 (fun h => by have := HIP.out.2 h; cases this)))
    obtain rfl : er = 1 := by rw [HER.out]; rfl
    have HF := Lib.hid (tell_no (F := F) (w := w) (Z := w.heap.size + 3) (e := 1) HP.out T4.out (by omega) (by omega) (by omega) BB4.out (.slice T1 nt1 ct1) (.int .i64 r.size) (.slice R1 nr1 cr1) (.slice S1 ns1 cs1) (.int .u64 (r.on : Nat)))
    clear HER
    have d0 := ((Y4.out)).b5.c0
    have d1 := ((Y4.out)).b5.c1
    have d2 := ((Y4.out)).b5.c2
    have d3 := ((Y4.out)).b5.c3
    have d4 := ((Y4.out)).b5.c4
    have y0 := ((Z4.out)).b5.c0
    have y1 := ((Z4.out)).b5.c1
    have y2 := ((Z4.out)).b5.c2
    have y3 := ((Z4.out)).b5.c3
    have y4 := ((Z4.out)).b5.c4
    have g0 := ((Z4.out)).f0
    have g1 := ((Z4.out)).f1
    have g2 := ((Z4.out)).f2
    have g3 := ((Z4.out)).f3
    have g4 := ((Z4.out)).f4
    obtain ⟨k0, k1, k2, k3, k4⟩ := put5_told ((Z4.out)) (.slice T1 nt1 ct1) (.int .i64 r.size) (.slice R1 nr1 cr1) (.slice S1 ns1 cs1) (.int .u64 (r.on : Nat))
    unfold put5 at k0 k1 k2 k3 k4
    go_wp2_with fail
    refine bodyPost_ret ?_ rfl HF.out
    first | (simp [results, Tryd.results11, go_sem, k0, k1, k2, k3, k4, jv]; done) | (simp [results, Tryd.results11, go_sem, k0, k1, k2, k3, k4, jv, Jp.rowed, Jp.ringed]; done)
  have HNA := Lib.hid (HIP.out.1 rfl)
  clear HIP
  cases on
  · obtain rfl : er = 4 := by rw [HER.out]; rfl
    have HP := Lib.hid (Jp.unplug_none (r := r) (p := p) (cur := cur) HNA.out HON.out.symm)
    have HF := Lib.hid (tell_no (F := F) (w := w) (Z := w.heap.size + 3) (e := 4) HP.out T4.out (by omega) (by omega) (by omega) BB4.out (.slice T1 nt1 ct1) (.int .i64 r.size) (.slice R1 nr1 cr1) (.slice S1 ns1 cs1) (.int .u64 (r.on : Nat)))
    clear HER
    have d0 := ((Y4.out)).b5.c0
    have d1 := ((Y4.out)).b5.c1
    have d2 := ((Y4.out)).b5.c2
    have d3 := ((Y4.out)).b5.c3
    have d4 := ((Y4.out)).b5.c4
    have y0 := ((Z4.out)).b5.c0
    have y1 := ((Z4.out)).b5.c1
    have y2 := ((Z4.out)).b5.c2
    have y3 := ((Z4.out)).b5.c3
    have y4 := ((Z4.out)).b5.c4
    have g0 := ((Z4.out)).f0
    have g1 := ((Z4.out)).f1
    have g2 := ((Z4.out)).f2
    have g3 := ((Z4.out)).f3
    have g4 := ((Z4.out)).f4
    obtain ⟨k0, k1, k2, k3, k4⟩ := put5_told ((Z4.out)) (.slice T1 nt1 ct1) (.int .i64 r.size) (.slice R1 nr1 cr1) (.slice S1 ns1 cs1) (.int .u64 (r.on : Nat))
    unfold put5 at k0 k1 k2 k3 k4
    go_wp2_with fail
    refine bodyPost_ret ?_ rfl HF.out
    first | (simp [results, Tryd.results11, go_sem, k0, k1, k2, k3, k4, jv]; done) | (simp [results, Tryd.results11, go_sem, k0, k1, k2, k3, k4, jv, Jp.rowed, Jp.ringed]; done)
  have hmay := Classical.byContradiction (fun h => HNA.out (.inl h))
  have HMAY := Lib.hid hmay
  cases lone
  case true =>
    obtain rfl : er = 6 := by rw [HER.out]; rfl
    have HP := Lib.hid (Jp.unplug_last (r := r) (p := p) (cur := cur) HNA.out HON.out.symm (by have := of_decide_eq_true HLO.out.symm; omega))
    have HF := Lib.hid (tell_no (F := F) (w := w) (Z := w.heap.size + 3) (e := 6) HP.out T4.out (by omega) (by omega) (by omega) BB4.out (.slice T1 nt1 ct1) (.int .i64 r.size) (.slice R1 nr1 cr1) (.slice S1 ns1 cs1) (.int .u64 (r.on : Nat)))
    clear HER
    have d0 := ((Y4.out)).b5.c0
    have d1 := ((Y4.out)).b5.c1
    have d2 := ((Y4.out)).b5.c2
    have d3 := ((Y4.out)).b5.c3
    have d4 := ((Y4.out)).b5.c4
    have y0 := ((Z4.out)).b5.c0
    have y1 := ((Z4.out)).b5.c1
    have y2 := ((Z4.out)).b5.c2
    have y3 := ((Z4.out)).b5.c3
    have y4 := ((Z4.out)).b5.c4
    have g0 := ((Z4.out)).f0
    have g1 := ((Z4.out)).f1
    have g2 := ((Z4.out)).f2
    have g3 := ((Z4.out)).f3
    have g4 := ((Z4.out)).f4
    obtain ⟨k0, k1, k2, k3, k4⟩ := put5_told ((Z4.out)) (.slice T1 nt1 ct1) (.int .i64 r.size) (.slice R1 nr1 cr1) (.slice S1 ns1 cs1) (.int .u64 (r.on : Nat))
    unfold put5 at k0 k1 k2 k3 k4
    go_wp2_with fail
    refine bodyPost_ret ?_ rfl HF.out
    first | (simp [results, Tryd.results11, go_sem, k0, k1, k2, k3, k4, jv]; done) | (simp [results, Tryd.results11, go_sem, k0, k1, k2, k3, k4, jv, Jp.rowed, Jp.ringed]; done)
  have hl2 : ¬ (Zp.mem r.on).length < 2 := by
    have h1 := of_decide_eq_false HLO.out.symm
    have h2 := List.length_pos_iff.2 hmay.some
    omega
  have HL2 := Lib.hid hl2
  clear hl2
  cases hs
  case true =>
    obtain rfl : er = 5 := by rw [HER.out]; rfl
    have HP := Lib.hid (Jp.unplug_there (r := r) (p := p) (cur := cur) HNA.out HON.out.symm HL2.out ⟨fun e => (by have h1 := all_zero hmay; have h2 := HHS.out; rw [e, h1] at h2; cases h2), HHS.out.symm⟩)
    have HF := Lib.hid (tell_no (F := F) (w := w) (Z := w.heap.size + 3) (e := 5) HP.out T4.out (by omega) (by omega) (by omega) BB4.out (.slice T1 nt1 ct1) (.int .i64 r.size) (.slice R1 nr1 cr1) (.slice S1 ns1 cs1) (.int .u64 (r.on : Nat)))
    clear HER
    have d0 := ((Y4.out)).b5.c0
    have d1 := ((Y4.out)).b5.c1
    have d2 := ((Y4.out)).b5.c2
    have d3 := ((Y4.out)).b5.c3
    have d4 := ((Y4.out)).b5.c4
    have y0 := ((Z4.out)).b5.c0
    have y1 := ((Z4.out)).b5.c1
    have y2 := ((Z4.out)).b5.c2
    have y3 := ((Z4.out)).b5.c3
    have y4 := ((Z4.out)).b5.c4
    have g0 := ((Z4.out)).f0
    have g1 := ((Z4.out)).f1
    have g2 := ((Z4.out)).f2
    have g3 := ((Z4.out)).f3
    have g4 := ((Z4.out)).f4
    obtain ⟨k0, k1, k2, k3, k4⟩ := put5_told ((Z4.out)) (.slice T1 nt1 ct1) (.int .i64 r.size) (.slice R1 nr1 cr1) (.slice S1 ns1 cs1) (.int .u64 (r.on : Nat))
    unfold put5 at k0 k1 k2 k3 k4
    go_wp2_with fail
    refine bodyPost_ret ?_ rfl HF.out
    first | (simp [results, Tryd.results11, go_sem, k0, k1, k2, k3, k4, jv]; done) | (simp [results, Tryd.results11, go_sem, k0, k1, k2, k3, k4, jv, Jp.rowed, Jp.ringed]; done)
  obtain rfl : er = 0 := by rw [HER.out]; rfl
  obtain ⟨k, rfl⟩ : ∃ k : Nat, p = k := ⟨p.toNat, by have := HNA.out; omega⟩
  have hk : k < r.rings.length := by have := HNA.out; omega
  have HP := Lib.hid (Jp.unplug_done (r := r) (p := k) (cur := cur) HNA.out HON.out.symm HL2.out (fun h => by have h2 := h.2; rw [← HHS.out] at h2; cases h2))
  obtain ⟨m, hnd, hmn⟩ := Jp.node_at hmay.tree (k := k) (by rw [← hmay.rings]; exact hk)
  rw [← hmay.rows] at hmn
  have hnr1 := TD.out.nr
  have hns1 := TD.out.ns
  simp only at hnr1 hns1
  have hr4 := HL.out.rings
  have hs4 := HL.out.rows
  have hk1 : k < nr1 := by omega
  have hm1 : m < ns1 := by omega
  obtain ⟨gR, capR, eR, hgR1, hgR2, _, _⟩ := TD.out.own.form (show 0 < nr1 by omega)
  injection eR with eR1 _ eR2
  subst eR1 eR2
  obtain ⟨gS, capS, eS, hgS1, hgS2, _, _⟩ := TD.out.rows.form (show 0 < ns1 by omega)
  injection eS with eS1 _ eS2
  subst eS1 eS2
  obtain ⟨e0, he0⟩ : ∃ e, ls[m]? = some e := ⟨_, List.getElem?_eq_getElem (by omega)⟩
  have hre0 : r.rows[m]? = some e0.l := by rw [← TD.out.isl, List.getElem?_map, he0]; rfl
  obtain ⟨x, hx⟩ : ∃ x, r.rings[k]? = some x := ⟨_, List.getElem?_eq_getElem hk⟩
  have WI := Lib.hid (fun W => without_any r.on k W H.out.on)
  obtain ⟨o', ho'⟩ : ∃ o', o' = Zp.wout r.on k := ⟨_, rfl⟩
  have HO := Lib.hid ho'
  rw [← ho'] at WI
  have HO64 := Lib.hid (show o' < 18446744073709551616 by rw [ho']; exact Zp.wout_lt H.out.on _)
  have hnO : Jp.nodeOf r k = m := by unfold Jp.nodeOf; rw [hnd]; rfl
  have HPP := Lib.hid (show Jp.unplug r k cur = (Jp.ringed (Jp.rowed { r with on := o' } m (e0.l ++ ((if cur = 0 then [] else [cur]) ++ Rp.all x))) k (0, []), 0) by
    rw [HP.out]
    unfold Jp.gone Jp.left
    rw [hnO, Jp.rowAt_some hre0, Jp.ringAt_some hx, ho']
    rfl)
  have HQB := Lib.hid (fun k' hk' => ((TD.out.ours m e0 he0).lt k' hk'))
  have HX := Lib.hid hx
  have HXL := Lib.hid (HL.out.ring x (List.mem_of_getElem? hx))
  have HEL := Lib.hid (HL.out.row e0.l (List.mem_of_getElem? hre0))
  have HND := Lib.hid hnd
  have HE0 := Lib.hid he0
  have HNR := Lib.hid (show nr1 ≤ 1000 ∧ ns1 ≤ 1000 by omega)
  have d4 := Y4.out.b5.c4
  have p5 := P4.out
  clear ho' hnO hre0 hx hnd he0 HER HHS HLO HON HNA hmn hnr1 hns1 hk HP
  go_wp2_with fail
  refine (WI.out _).mono ?_
  rintro e w5 ⟨rfl, hb5⟩
  have Y5 := Y4.out.step hb5
  have Z5 := Z4.out.step hb5
  have d4 := Y5.b5.c4
  have g4 := Y5.f4
  have p6 := farcell (b := w.heap.size + 1) (i := 0) (j := 4) (u := .int .u64 (o' : Nat)) (X := w1.heap.size) (by omega) (keepcell hb5 P4.out)
  have q6 := farcell (b := w.heap.size + 2) (i := 0) (j := 4) (u := .int .u64 (o' : Nat)) (X := w1.heap.size) (by omega) (keepcell hb5 Q4.out)
  have Y6 := Lib.hid (Y5.set4 (.int .u64 (o' : Nat)))
  have Z6 := Lib.hid (Z5.far (p := ⟨w1.heap.size, 4, none⟩) (u := .int .u64 (o' : Nat)) (by simp only; omega))
  have BB6 := Lib.hid ((held_trans BB4.out hb5).setCell (p := ⟨w1.heap.size, 4, none⟩) (by simp only; omega) (.int .u64 (o' : Nat)))
  have BW6 := Lib.hid ((held_trans BW4.out hb5).setCell (p := ⟨w1.heap.size, 4, none⟩) (by simp only; omega) (.int .u64 (o' : Nat)))
  have SZ6 := Lib.hid hb5.size
  obtain ⟨w6, hw6⟩ : ∃ w6, w6 = w5.setCell ⟨w1.heap.size, 4, none⟩ (.int .u64 (o' : Nat)) := ⟨_, rfl⟩
  rw [← hw6] at Y6 Z6 BB6 BW6 p6 q6
  have E6 := Lib.hid hw6
  have RD6 := Lib.hid (((TD.out.step BW6.out).ready (may_tree HMAY.out) HE0.out).onTo HO64.out)
  have TR := toRow_any (F := fun _ => False) cur w6 V RD6.out hk1 (by omega) (may_tree (r := r) HMAY.out) HX.out HXL.out HND.out HEL.out HNR.out.1 HNR.out.2
  unfold jv at TR
  simp only at TR
  have HTR := Lib.hid TR
  have hY6 := Y6.out.lt
  have hZ6 := Z6.out.lt
  have e0c := Y6.out.b5.c0
  have e1c := Y6.out.b5.c1
  have e2c := Y6.out.b5.c2
  have e3c := Y6.out.b5.c3
  have e4c := Y6.out.b5.c4
  clear TR Y5 Z5 hb5 hw6 p5 WI
  go_wp2_with (rw [← E6.out])
  refine HTR.out.mono ?_
  rintro e w7 ⟨rfl, hkp, hrm⟩
  have HST := Lib.hid (show ∀ b, b < w6.heap.size → (b < w.heap.size + 4 ∨ b = w1.heap.size) → StaysN w6.heap.size gR gS e0 b from fun b hb hbb => by
    have h1 := TD.out.o01
    have h2 := TD.out.o12
    have h3 := TD.out.o23
    refine ⟨hb, by omega, by omega, fun e => ?_⟩
    have := HQB.out b e
    omega)
  have Y7 := Lib.hid (hkp.box _ _ _ _ _ _ (HST.out _ hY6 (.inr rfl)) Y6.out)
  have Z7 := Lib.hid (hkp.box _ _ _ _ _ _ (HST.out _ hZ6 (.inl (by omega))) Z6.out)
  have BB7 := Lib.hid (hkp.held w.heap.size w (by omega) (by omega) BB6.out)
  have HF := Lib.hid (tell_yes (F := F) (w := w) (V := V) (Z := w.heap.size + 3) (e := 0) HPP.out hrm (by omega) (by omega) (by omega) BB7.out (.slice T1 nt1 ct1) (.int .i64 r.size) (.slice (some ⟨gR, 0, none⟩) nr1 cr1) (.slice (some ⟨gS, 0, none⟩) ns1 cs1) (.int .u64 (o' : Nat)))
  clear hkp hrm HTR e0c e1c e2c e3c e4c p6 q6 E6
  have d0 := ((Y7.out)).b5.c0
  have d1 := ((Y7.out)).b5.c1
  have d2 := ((Y7.out)).b5.c2
  have d3 := ((Y7.out)).b5.c3
  have d4 := ((Y7.out)).b5.c4
  have y0 := ((Z7.out)).b5.c0
  have y1 := ((Z7.out)).b5.c1
  have y2 := ((Z7.out)).b5.c2
  have y3 := ((Z7.out)).b5.c3
  have y4 := ((Z7.out)).b5.c4
  have g0 := ((Z7.out)).f0
  have g1 := ((Z7.out)).f1
  have g2 := ((Z7.out)).f2
  have g3 := ((Z7.out)).f3
  have g4 := ((Z7.out)).f4
  obtain ⟨k0, k1, k2, k3, k4⟩ := put5_told ((Z7.out)) (.slice T1 nt1 ct1) (.int .i64 r.size) (.slice (some ⟨gR, 0, none⟩) nr1 cr1) (.slice (some ⟨gS, 0, none⟩) ns1 cs1) (.int .u64 (o' : Nat))
  unfold put5 at k0 k1 k2 k3 k4
  go_wp2_with fail
  refine bodyPost_ret ?_ rfl HF.out
  first | (simp [results, Tryd.results11, go_sem, k0, k1, k2, k3, k4, jv]; done) | (simp [results, Tryd.results11, go_sem, k0, k1, k2, k3, k4, jv, Jp.rowed, Jp.ringed]; done)
end Go.Proofs.YtcoccegmkcdeiaaDoor

