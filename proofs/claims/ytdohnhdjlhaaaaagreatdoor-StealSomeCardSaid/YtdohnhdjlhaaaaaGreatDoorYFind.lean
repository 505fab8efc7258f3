/- find.Local and find.Turn, by their contracts. -/
import Derived.Test.YtdohnhdjlhaaaaaGreatDoorYLook
import Derived.Test.YtdohnhdjlhaaaaaGreatDoorM10
import Derived.Test.YtdohnhdjlhaaaaaGreatDoorM7
import Derived.Test.YtdohnhdjlhaaaaaGreatDoorJMayL
import Derived.Test.YtdohnhdjlhaaaaaGreatDoorJApartW
namespace Go.Proofs.YtdohnhdjlhaaaaaGreatDoor
open Go.RowKit
set_option linter.unusedVariables false

theorem turn_any (tick : Int) (w : World) (ht : In64 tick) : Calls Tryz.prog 97 #[.int .i64 tick] w fun e w' => e = .returned (.bool (tick.tmod 61 == 0)) ∧ Below w.heap.size w w' := by
  have hw61 : IntKind.i64.wrap (tick.tmod 61) = tick.tmod 61 := by
    have h1 := Int.tmod_lt_of_pos tick (show (0 : Int) < 61 by decide)
    have h2 := Int.lt_tmod_of_pos tick (show (0 : Int) < 61 by decide)
    exact IntWalk.i64_in _ (by omega)
  go_enter Tryz.func97, Tryz.ntmps97
  go_wp2_with fail
  go_ret
  exact ⟨rfl, Below.refl _ _⟩
theorem ymf (fn : Fn) (first cap : Array Value) (w : World) : (Instr.makeFunc fn first cap).run Tryz.prog w = .ok (.func fn first cap) w := rfl
/-- A box of five, a box of one, a result's place. -/
theorem boxes3 (w : World) (p0 p1 p2 p3 p4 a z0 z1 z2 z3 z4 : Value) (T T1 U : TypeId) : ∃ V, V = ((w.alloc (.cells #[p0, p1, p2, p3, p4] T)).alloc (.cells #[a] T1)).alloc (.cells #[z0, z1, z2, z3, z4] U) ∧
    B5 V w.heap.size p0 p1 p2 p3 p4 ∧ V.cell? ⟨w.heap.size + 1, 0, none⟩ = some a ∧ C5 V (w.heap.size + 2) z0 z1 z2 z3 z4 ∧ Below w.heap.size w V ∧ V.heap.size = w.heap.size + 3 := by
  obtain ⟨W1, h1⟩ : ∃ W1, W1 = w.alloc (.cells #[p0, p1, p2, p3, p4] T) := ⟨_, rfl⟩
  obtain ⟨W2, h2⟩ : ∃ W2, W2 = W1.alloc (.cells #[a] T1) := ⟨_, rfl⟩
  have a1 : B5 W1 w.heap.size p0 p1 p2 p3 p4 := by rw [h1]; exact B5.new w p0 p1 p2 p3 p4 T
  have s1 : W1.heap.size = w.heap.size + 1 := by rw [h1]; simp
  have s2 : W2.heap.size = w.heap.size + 2 := by rw [h2]; simp [s1]
  have b1 : Below w.heap.size w W1 := by rw [h1]; exact below_new w _
  have b2 : Below W1.heap.size W1 W2 := by rw [h2]; exact below_new W1 _
  have b3 := below_new W2 (.cells #[z0, z1, z2, z3, z4] U)
  have c2 : W2.cell? ⟨w.heap.size + 1, 0, none⟩ = some a := by rw [h2, ← s1, World.cell?_alloc_at _ _ _ _ rfl]; rfl
  have a3 := C5.new W2 z0 z1 z2 z3 z4 U
  rw [s2] at a3
  rw [← h1, ← h2]
  exact ⟨_, rfl, (a1.step b2).step b3, keepcell b3 c2, a3, held_trans (held_trans b1 b2) b3, by simp [s2]⟩
/-- What is told: Runs in memory of their own, and two numbers, in the result's place. -/
theorem tellg {F : Nat → Prop} {w V W : World} {Z : Nat} {d : Ad} {r : Jp.Rn} {g k s : Int} {o : Nat} {p : Jp.Rn × Int × Int} (hp : p = (r, g, k)) (h : RM (More (fun _ => False) V) W d r) (hs : r.size = s) (ho : r.on = o) (hV : w.heap.size ≤ V.heap.size) (hZ : Z < V.heap.size) (hZw : w.heap.size ≤ Z) (hb : Below w.heap.size w W) (u0 u1 u2 u3 u4 : Value) :
    TellJG F w p (.returned (.tuple #[.agg #[.slice d.T d.nt d.ct, .int .i64 s, .slice d.R d.nr d.cr, .slice d.S d.ns d.cs, .int .u64 (o : Nat)], .int .i64 g, .int .i64 k])) (put5 W Z u0 u1 u2 u3 u4) := by
  subst hs ho
  have h1 := h.put (X := Z) (fun h => by have := h.resolve_left id; omega) u0 u1 u2 u3 u4
  exact TellJG.is hp (h1.mono (fun b hb => .inr (by have := hb.resolve_left id; omega))) (below_put hb hZw u0 u1 u2 u3 u4)
/-- Where Local's loop stands. -/
structure YS (w : World) (d0 d1 : Ad) (r : Jp.Rn) (B0 q k L Y : Nat) (es ls : List El) (e0 : El) (ga gb : Value) (wr : World) : Prop where
  box : B5 wr w.heap.size (.slice d0.T d0.nt d0.ct) (.int .i64 r.size) (.slice d0.R d0.nr d0.cr) (.slice d0.S d0.ns d0.cs) (.int .u64 (r.on : Nat))
  arg : wr.cell? ⟨w.heap.size + 1, 0, none⟩ = some (.int .i64 (k : Nat))
  put : C5 wr (w.heap.size + 2) (.slice none 0 0) (.int .i64 0) (.slice none 0 0) (.slice none 0 0) (.int .u64 0)
  told : C5 wr Y (.slice d1.T d1.nt d1.ct) (.int .i64 r.size) (.slice d1.R d1.nr d1.cr) (.slice d1.S d1.ns d1.cs) (.int .u64 (r.on : Nat))
  l0 : wr.cell? ⟨L, 0, none⟩ = some ga
  l1 : wr.cell? ⟨L, 1, none⟩ = some gb
  rd : Ready B0 q d1 r es ls e0 wr
  below : Below w.heap.size w wr
theorem YS.step {w : World} {d0 d1 : Ad} {r : Jp.Rn} {B0 q k L Y : Nat} {es ls : List El} {e0 : El} {ga gb : Value} {wr W : World} (h : YS w d0 d1 r B0 q k L Y es ls e0 ga gb wr) (hb : Below wr.heap.size wr W) : YS w d0 d1 r B0 q k L Y es ls e0 ga gb W :=
  ⟨h.box.step hb, keepcell hb h.arg, h.put.step hb, h.told.step hb, keepcell hb h.l0, keepcell hb h.l1, h.rd.step hb, held_trans h.below hb⟩
/-- What a look does there: nobody; or one who is told, and is gone. -/
structure YLook (w V : World) (r : Jp.Rn) (d1 : Ad) (Y : Nat) (St : World → Prop) (f : FuncId) (c : Array Value) (no : Prop) (q : Jp.Rn × Int × Int) : Prop where
  enters : ∀ (args : Array Value) (W : World), (callFunc f args).run Tryz.prog W = .ok (.enter f args) W
  call : ∀ W, St W → Calls Tryz.prog f c W fun e W' => (no ∧ e = .returned (.tuple #[.int .i64 0, .int .i64 0]) ∧ Below W.heap.size W W') ∨
    (¬ no ∧ e = .returned (.tuple #[.int .i64 q.2.1, .int .i64 q.2.2]) ∧ (∀ v0 v1 v2 v3 v4, C5 W Y v0 v1 v2 v3 v4 → C5 W' Y v0 v1 v2 v3 v4) ∧ (∀ v0 v1 v2 v3 v4, C5 W (w.heap.size + 2) v0 v1 v2 v3 v4 → C5 W' (w.heap.size + 2) v0 v1 v2 v3 v4) ∧ (Below w.heap.size w W → Below w.heap.size w W') ∧ RM (More (fun _ => False) V) W' d1 q.1)
  some : q.2.2 ≠ 0
  size : q.1.size = r.size
  on : q.1.on = r.on
/-- Where it ends, by what two looks tell. -/
structure Two (r : Jp.Rn) (lo qa qb : Jp.Rn × Int × Int) (noA noB : Prop) : Prop where
  first : ¬ noA → lo = qa
  second : noA → ¬ noB → lo = qb
  none : noA → noB → lo = (r, 0, 0)
theorem two_own {r : Jp.Rn} {k m : Nat} {tick x : Int} {l t : List Int} (hn : Jp.nodeOf r k = m) (hl : Jp.rowAt r m = l) (hx : Jp.ringAt r k = (x, t)) (ht : tick.tmod 61 ≠ 0) :
    Two r (Jp.locOn r k tick) (Jp.ringed r k (0, (Rp.take (x, t)).1.2), (Rp.take (x, t)).2, if x = 0 then 2 else 1) (Jp.rowed r m l.tail, l.headD 0, 3) (x = 0 ∧ t = []) (l = []) := by
  refine ⟨fun h => ?_, fun h h1 => ?_, fun h h1 => ?_⟩
  · have hc : ¬ (l ≠ [] ∧ (tick.tmod 61 = 0 ∨ (x = 0 ∧ t = []))) := fun hc => by
      rcases hc.2 with h2 | h2
      · exact ht h2
      · exact h h2
    by_cases hx0 : x = 0
    · have h2 : t ≠ [] := fun e => h ⟨hx0, e⟩
      rw [Jp.locOn_ring hn hl hx hc hx0 h2, if_pos hx0]
      subst hx0
      cases t with
      | nil => exact absurd rfl h2
      | cons y t => rfl
    · rw [Jp.locOn_next hn hl hx hc hx0, if_neg hx0, take_next hx0]
  · exact Jp.locOn_row hn hl hx h1 (.inr h)
  · exact Jp.locOn_none hn hl hx (fun hc => hc.1 h1) h.1 h.2
theorem two_row {r : Jp.Rn} {k m : Nat} {tick x : Int} {l t : List Int} (hn : Jp.nodeOf r k = m) (hl : Jp.rowAt r m = l) (hx : Jp.ringAt r k = (x, t)) (ht : tick.tmod 61 = 0) :
    Two r (Jp.locOn r k tick) (Jp.rowed r m l.tail, l.headD 0, 3) (Jp.ringed r k (0, (Rp.take (x, t)).1.2), (Rp.take (x, t)).2, if x = 0 then 2 else 1) (l = []) (x = 0 ∧ t = []) := by
  refine ⟨fun h => ?_, fun h1 h => ?_, fun h1 h => ?_⟩
  · exact Jp.locOn_row hn hl hx h (.inl ht)
  · have hc : ¬ (l ≠ [] ∧ (tick.tmod 61 = 0 ∨ (x = 0 ∧ t = []))) := fun hc => hc.1 h1
    by_cases hx0 : x = 0
    · have h2 : t ≠ [] := fun e => h ⟨hx0, e⟩
      rw [Jp.locOn_ring hn hl hx hc hx0 h2, if_pos hx0]
      subst hx0
      cases t with
      | nil => exact absurd rfl h2
      | cons y t => rfl
    · rw [Jp.locOn_next hn hl hx hc hx0, if_neg hx0, take_next hx0]
  · exact Jp.locOn_none hn hl hx (fun hc => hc.1 h1) h.1 h.2
theorem Found.look {w V W W' : World} {d1 : Ad} {Y g : Nat} {no : Prop} {y pl : Int} {r' : Jp.Rn} {e : Ending} (hY : Y ≠ g) (hZ : w.heap.size + 2 ≠ g) (hg : w.heap.size ≤ g) (hw : w.heap.size ≤ W.heap.size)
    (h : Found no y pl g W (fun W' => RM (More (fun _ => False) V) W' d1 r') e W') : (no ∧ e = .returned (.tuple #[.int .i64 0, .int .i64 0]) ∧ Below W.heap.size W W') ∨
    (¬ no ∧ e = .returned (.tuple #[.int .i64 y, .int .i64 pl]) ∧ (∀ v0 v1 v2 v3 v4, C5 W Y v0 v1 v2 v3 v4 → C5 W' Y v0 v1 v2 v3 v4) ∧ (∀ v0 v1 v2 v3 v4, C5 W (w.heap.size + 2) v0 v1 v2 v3 v4 → C5 W' (w.heap.size + 2) v0 v1 v2 v3 v4) ∧ (Below w.heap.size w W → Below w.heap.size w W') ∧ RM (More (fun _ => False) V) W' d1 r') := by
  rcases h with h | ⟨h1, h2, h3, h4⟩
  · exact .inl h
  · exact .inr ⟨h1, h2, fun _ _ _ _ _ => h3.box _ _ _ _ _ _ hY, fun _ _ _ _ _ => h3.box _ _ _ _ _ _ hZ, fun hb => h3.held _ _ hg hw hb, h4⟩
theorem look_own {w V : World} {d0 : Ad} {r : Jp.Rn} {B0 q k L Y nt ct nr cr ns cs g : Nat} {T S : Option Addr} {es ls : List El} {e0 : El} {ga gb : Value} {x : Int} {t : List Int}
    (hk : k < nr) (h0 : V.heap.size ≤ B0) (hx : r.rings[k]? = some (x, t)) (hl : t.length ≤ 400) (hz : ∀ z ∈ t, z ≠ 0) (hY : Y ≠ g) (hZ : w.heap.size + 2 < g) :
    YLook w V r ⟨T, nt, ct, some ⟨g, 0, none⟩, nr, cr, S, ns, cs⟩ Y (YS w d0 ⟨T, nt, ct, some ⟨g, 0, none⟩, nr, cr, S, ns, cs⟩ r B0 q k L Y es ls e0 ga gb) 93 #[.pointer (some ⟨Y, 0, none⟩), .pointer (some ⟨w.heap.size + 1, 0, none⟩)] (x = 0 ∧ t = []) (Jp.ringed r k (0, (Rp.take (x, t)).1.2), (Rp.take (x, t)).2, if x = 0 then 2 else 1) := by
  refine ⟨fun args W => by kernel_rfl, fun W h => ?_, by simp only; split <;> decide, rfl, rfl⟩
  refine (own_any (F := fun _ => False) W V h.rd hk h0 hx hl hz h.told.b5.c2 h.arg).mono ?_
  intro e W' hf
  exact hf.look hY (by omega) (by omega) h.below.size
theorem look_row {F : Nat → Prop} {w V : World} {d0 : Ad} {r : Jp.Rn} {B0 q k L Y nt ct nr cr ns cs g : Nat} {T R : Option Addr} {es ls : List El} {e0 : El} {ga gb : Value}
    (hq : q < ns) (h0 : V.heap.size ≤ B0) (H : RM F w d0 r) (hn : Dp.node r.tree k = (q : Nat)) (hY : Y ≠ g) (hZ : w.heap.size + 2 < g) :
    YLook w V r ⟨T, nt, ct, R, nr, cr, some ⟨g, 0, none⟩, ns, cs⟩ Y (YS w d0 ⟨T, nt, ct, R, nr, cr, some ⟨g, 0, none⟩, ns, cs⟩ r B0 q k L Y es ls e0 ga gb) 95 #[.pointer (some ⟨Y, 0, none⟩), .pointer (some ⟨w.heap.size, 0, none⟩), .pointer (some ⟨w.heap.size + 1, 0, none⟩)] (e0.l = []) (Jp.rowed r q e0.l.tail, e0.l.headD 0, 3) := by
  refine ⟨fun args W => by kernel_rfl, fun W h => ?_, by simp, rfl, rfl⟩
  refine (rowd_any (F := fun _ => False) W V h.rd hq h0 (H.below h.below) hn h.box.c0 h.told.b5.c3 h.arg (by omega) hY (by omega)).mono ?_
  intro e W' hf
  exact hf.look hY (by omega) (by omega) h.below.size
set_option maxRecDepth 100000 in
set_option maxHeartbeats 2000000 in
theorem findLocal_any {F : Nat → Prop} (d : Ad) (r : Jp.Rn) (p tick : Int) (w : World) (h : RM F w d r) (hF : ∀ b, F b → b < w.heap.size) (hlow : Low r) (hp : In64 p) (ht : In64 tick) (hT : Tab w) :
    Calls Tryz.prog 69 #[jv d r, .int .i64 p, .int .i64 tick] w (TellJG F w (Jp.loc r p tick)) := by
  obtain ⟨A0, nt, ct, R, nr, cr, S, ns, cs⟩ := d
  have H := Lib.hid h
  have HL := Lib.hid hlow
  have HTW := Lib.hid hT
  have HTI := Lib.hid ht
  obtain ⟨hr1, hr2, hr3⟩ := h.nr
  obtain ⟨hs1, hs2, hs3⟩ := h.ns
  simp only at hr1 hr2 hr3 hs1 hs2 hs3
  obtain ⟨V, hV, hX, hP, hZ, hB, hsz⟩ := boxes3 w (.slice A0 nt ct) (.int .i64 r.size) (.slice R nr cr) (.slice S ns cs) (.int .u64 (r.on : Nat)) (.int .i64 p) (.slice none 0 0) (.int .i64 0) (.slice none 0 0) (.slice none 0 0) (.int .u64 0) 33 3 33
  have hap := runsApart_any ⟨A0, nt, ct, R, nr, cr, S, ns, cs⟩ r V (h.below hB) hlow
  unfold jv at hap
  simp only at hap
  have AP := Lib.hid hap
  have E := Lib.hid hV
  have X0 := Lib.hid hX
  have P0 := Lib.hid hP
  have Z0 := Lib.hid hZ
  have B0 := Lib.hid hB
  have d0 := hX.c0
  have d1 := hX.c1
  have d2 := hX.c2
  have d3 := hX.c3
  have d4 := hX.c4
  clear hV hX hZ hB hap h hlow hF hT ht hP
  unfold jv
  go_enter Tryz.func69, Tryz.ntmps69
  go_wp2_with (rw [← E.out])
  clear E
  refine AP.out.mono ?_
  rintro e w1 ⟨⟨T1, nt1, ct1, R1, nr1, cr1, S1, ns1, cs1⟩, B1', B2', B3', es, ls, rfl, htold, hb1⟩
  unfold jv
  simp only
  have hb2 := below_new w1 (.cells #[.slice T1 nt1 ct1, .int .i64 r.size, .slice R1 nr1 cr1, .slice S1 ns1 cs1, .int .u64 (r.on : Nat)] 33)
  obtain ⟨w2, hw2⟩ : ∃ w2, w2 = w1.alloc (.cells #[.slice T1 nt1 ct1, .int .i64 r.size, .slice R1 nr1 cr1, .slice S1 ns1 cs1, .int .u64 (r.on : Nat)] 33) := ⟨_, rfl⟩
  have hY := C5.new w1 (.slice T1 nt1 ct1) (.int .i64 r.size) (.slice R1 nr1 cr1) (.slice S1 ns1 cs1) (.int .u64 (r.on : Nat)) 33
  rw [← hw2] at hb2 hY
  have E2 := Lib.hid hw2
  have hb12 := hb1.trans (hb2.mono hb1.size)
  have X2 := Lib.hid (X0.out.step hb12)
  have P2 := Lib.hid (keepcell hb12 P0.out)
  have Z2 := Lib.hid (Z0.out.step hb12)
  have BB2 := Lib.hid (held_trans B0.out hb12)
  have T2 := Lib.hid (htold.step hb2)
  have TD := Lib.hid htold
  have Y2 := Lib.hid hY
  have hs1' := hb1.size
  obtain ⟨Tb, hTb⟩ : ∃ Tb : Bool, (Tb = true ↔ Jp.May r) := by
    by_cases h : Jp.May r
    · exact ⟨true, by simp [h]⟩
    · exact ⟨false, by simp [h]⟩
  have HTB := Lib.hid hTb
  have hmy := runsMay_any ⟨A0, nt, ct, R, nr, cr, S, ns, cs⟩ r Tb w2 HTB (H.out.below BB2.out) HL.out (HTW.out.step BB2.out)
  unfold jv at hmy
  simp only at hmy
  have MY := Lib.hid hmy
  have p0 := X2.out.c0
  have p1 := X2.out.c1
  have p2 := X2.out.c2
  have p3 := X2.out.c3
  have p4 := X2.out.c4
  clear hb1 hb2 hb12 hw2 hY htold hmy hTb X0 P0 Z0 B0 AP d0 d1 d2 d3 d4
  go_wp2_with (rw [← E2.out])
  clear E2
  refine MY.out.mono ?_
  rintro e w3 ⟨rfl, hb3⟩
  have X3 := Lib.hid (X2.out.step hb3)
  have P3 := Lib.hid (keepcell hb3 P2.out)
  have Z3 := Lib.hid (Z2.out.step hb3)
  have Y3 := Lib.hid (Y2.out.step hb3)
  have BB3 := Lib.hid (held_trans BB2.out hb3)
  have T3 := Lib.hid (T2.out.step hb3)
  have SZ2 := Y2.out.lt
  clear MY p0 p1 p2 p3 p4 X2 P2 Z2 BB2 T2 Y2 hb3
  cases Tb
  · have hM : ¬ Jp.May r := fun h => by have := HTB.out.2 h; cases this
    have HP := Lib.hid (Jp.loc_no (r := r) (p := p) (tick := tick) (.inl hM))
    have HM := Lib.hid (T3.out.rm (F := fun _ => False) (w0 := V) (by omega))
    clear hM
    have d0 := ((Y3.out)).b5.c0
    have d1 := ((Y3.out)).b5.c1
    have d2 := ((Y3.out)).b5.c2
    have d3 := ((Y3.out)).b5.c3
    have d4 := ((Y3.out)).b5.c4
    have y0 := ((Z3.out)).b5.c0
    have y1 := ((Z3.out)).b5.c1
    have y2 := ((Z3.out)).b5.c2
    have y3 := ((Z3.out)).b5.c3
    have y4 := ((Z3.out)).b5.c4
    have g0 := ((Z3.out)).f0
    have g1 := ((Z3.out)).f1
    have g2 := ((Z3.out)).f2
    have g3 := ((Z3.out)).f3
    have g4 := ((Z3.out)).f4
    have HF := Lib.hid (tellg (F := F) (w := w) (V := V) (Z := w.heap.size + 2) (g := 0) (k := 0) (HP.out) (HM.out) rfl rfl (by omega) (by omega) (by omega) (BB3.out) (.slice T1 nt1 ct1) (.int .i64 r.size) (.slice R1 nr1 cr1) (.slice S1 ns1 cs1) (.int .u64 (r.on : Nat)))
    obtain ⟨k0, k1, k2, k3, k4⟩ := put5_told ((Z3.out)) (.slice T1 nt1 ct1) (.int .i64 r.size) (.slice R1 nr1 cr1) (.slice S1 ns1 cs1) (.int .u64 (r.on : Nat))
    unfold put5 at k0 k1 k2 k3 k4
    go_wp2_with fail
    refine bodyPost_ret ?_ rfl HF.out
    simp [results, Tryz.results69, go_sem, k0, k1, k2, k3, k4]
  have HMAY := Lib.hid (HTB.out.1 rfl)
  have q4 := X3.out.c4
  have qp := P3.out
  have hon := fun W => has_any r.on p W H.out.on
  rw [has_onP] at hon
  obtain ⟨ob, hob⟩ : ∃ ob, ob = Jp.onP r p := ⟨_, rfl⟩
  rw [← hob] at hon
  have HOB := Lib.hid hob
  have ON := Lib.hid hon
  clear hon hob HTB
  go_wp2_with fail
  refine (ON.out _).mono ?_
  rintro e w4 ⟨rfl, hb4⟩
  have X4 := Lib.hid (X3.out.step hb4)
  have P4 := Lib.hid (keepcell hb4 P3.out)
  have Z4 := Lib.hid (Z3.out.step hb4)
  have Y4 := Lib.hid (Y3.out.step hb4)
  have BB4 := Lib.hid (held_trans BB3.out hb4)
  have T4 := Lib.hid (T3.out.step hb4)
  clear ON q4 qp X3 P3 Z3 BB3 T3 Y3 hb4
  cases ob
  · have HP := Lib.hid (Jp.loc_no (r := r) (p := p) (tick := tick) (.inr HOB.out.symm))
    have HM := Lib.hid (T4.out.rm (F := fun _ => False) (w0 := V) (by omega))
    have d0 := ((Y4.out)).b5.c0
    have d1 := ((Y4.out)).b5.c1
    have d2 := ((Y4.out)).b5.c2
    have d3 := ((Y4.out)).b5.c3
    have d4 := ((Y4.out)).b5.c4
    have y0 := ((Z4.out)).b5.c0
    have y1 := ((Z4.out)).b5.c1
    have y2 := ((Z4.out)).b5.c2
    have y3 := ((Z4.out)).b5.c3
    have y4 := ((Z4.out)).b5.c4
    have g0 := ((Z4.out)).f0
    have g1 := ((Z4.out)).f1
    have g2 := ((Z4.out)).f2
    have g3 := ((Z4.out)).f3
    have g4 := ((Z4.out)).f4
    have HF := Lib.hid (tellg (F := F) (w := w) (V := V) (Z := w.heap.size + 2) (g := 0) (k := 0) (HP.out) (HM.out) rfl rfl (by omega) (by omega) (by omega) (BB4.out) (.slice T1 nt1 ct1) (.int .i64 r.size) (.slice R1 nr1 cr1) (.slice S1 ns1 cs1) (.int .u64 (r.on : Nat)))
    obtain ⟨k0, k1, k2, k3, k4⟩ := put5_told ((Z4.out)) (.slice T1 nt1 ct1) (.int .i64 r.size) (.slice R1 nr1 cr1) (.slice S1 ns1 cs1) (.int .u64 (r.on : Nat))
    unfold put5 at k0 k1 k2 k3 k4
    go_wp2_with fail
    refine bodyPost_ret ?_ rfl HF.out
    simp [results, Tryz.results69, go_sem, k0, k1, k2, k3, k4]
  obtain ⟨k, rfl, hk⟩ := Jp.onP_lt HMAY.out HOB.out.symm
  have HLO := Lib.hid (Jp.loc_on (p := k) (tick := tick) HMAY.out HOB.out.symm)
  obtain ⟨m, hnd, hmn⟩ := Jp.node_at HMAY.out.tree (k := k) (by rw [← HMAY.out.rings]; exact hk)
  rw [← HMAY.out.rows] at hmn
  have hnr1 := TD.out.nr
  have hns1 := TD.out.ns
  simp only at hnr1 hns1
  have hk1 : k < nr1 := by omega
  have hm1 : m < ns1 := by omega
  obtain ⟨gR, capR, eR, hgR1, hgR2, _, _⟩ := TD.out.own.form (show 0 < nr1 by omega)
  injection eR with eR1 _ eR2
  subst eR1 eR2
  obtain ⟨gS, capS, eS, hgS1, hgS2, _, _⟩ := TD.out.rows.form (show 0 < ns1 by omega)
  injection eS with eS1 _ eS2
  subst eS1 eS2
  obtain ⟨e0, he0⟩ : ∃ e, ls[m]? = some e := ⟨_, List.getElem?_eq_getElem (by omega)⟩
  have hre0 : r.rows[m]? = some e0.l := by rw [← TD.out.isl, List.getElem?_map, he0]; rfl
  obtain ⟨⟨x, t⟩, hrx⟩ : ∃ x, r.rings[k]? = some x := ⟨_, List.getElem?_eq_getElem hk⟩
  have hn := show Jp.nodeOf r k = m by unfold Jp.nodeOf; rw [hnd]; rfl
  have hra := Jp.rowAt_some hre0
  have hrg := Jp.ringAt_some hrx
  have hzt : ∀ z ∈ t, z ≠ 0 := fun z hz => by
    have h1 : z ∈ Rp.all (x, t) := by unfold Rp.all; split; exact hz; exact List.mem_cons_of_mem _ hz
    have := HMAY.out.once.1 z (Jp.mem_all.2 (.inl ⟨_, List.mem_of_getElem? hrx, h1⟩))
    omega
  have hlt : t.length ≤ 400 := HL.out.ring (x, t) (List.mem_of_getElem? hrx)
  have h012 := TD.out.o01
  have h112 := TD.out.o12
  have LO := fun ga gb => look_own (w := w) (V := V) (d0 := ⟨A0, nt, ct, R, nr, cr, S, ns, cs⟩) (r := r) (B0 := V.heap.size + 2) (q := m) (L := w4.heap.size) (Y := w1.heap.size) (nt := nt1) (ct := ct1) (cr := cr1) (ns := ns1) (cs := cs1) (T := T1) (S := some ⟨gS, 0, none⟩) (es := es) (ls := ls) (e0 := e0) (ga := ga) (gb := gb) hk1 (by omega) hrx hlt hzt (g := gR) (by omega) (by omega)
  have LR := fun ga gb => look_row (w := w) (V := V) (d0 := ⟨A0, nt, ct, R, nr, cr, S, ns, cs⟩) (r := r) (B0 := V.heap.size + 2) (q := m) (k := k) (L := w4.heap.size) (Y := w1.heap.size) (nt := nt1) (ct := ct1) (nr := nr1) (cr := cr1) (cs := cs1) (T := T1) (R := some ⟨gR, 0, none⟩) (es := es) (ls := ls) (e0 := e0) (ga := ga) (gb := gb) hm1 (by omega) H.out hnd (g := gS) (by omega) (by omega)
  have TO := fun ht => two_own (tick := tick) hn hra hrg ht
  have TR := fun ht => two_row (tick := tick) hn hra hrg ht
  obtain ⟨⟨ro, go, ko⟩, ho⟩ : ∃ q, q = (Jp.ringed r k (0, (Rp.take (x, t)).1.2), (Rp.take (x, t)).2, if x = 0 then (2 : Int) else 1) := ⟨_, rfl⟩
  obtain ⟨⟨rr, gr, kr⟩, hr⟩ : ∃ q, q = (Jp.rowed r m e0.l.tail, e0.l.headD 0, (3 : Int)) := ⟨_, rfl⟩
  obtain ⟨nO, hnO⟩ : ∃ nO, nO = (x = 0 ∧ t = []) := ⟨_, rfl⟩
  obtain ⟨nR, hnR⟩ : ∃ nR, nR = (e0.l = []) := ⟨_, rfl⟩
  rw [← ho, ← hr, ← hnO, ← hnR] at TO TR
  rw [← ho, ← hnO] at LO
  rw [← hr, ← hnR] at LR
  have LOh := Lib.hid LO
  have LRh := Lib.hid LR
  have TOh := Lib.hid TO
  have TRh := Lib.hid TR
  clear LO LR TO TR
  have RD := T4.out.ready (may_tree HMAY.out) he0
  obtain ⟨w5, hw5⟩ : ∃ w5, w5 = w4.alloc (.cells #[.func (.func 93) #[] #[.pointer (some ⟨w1.heap.size, 0, none⟩), .pointer (some ⟨w.heap.size + 1, 0, none⟩)], .func (.func 95) #[] #[.pointer (some ⟨w1.heap.size, 0, none⟩), .pointer (some ⟨w.heap.size, 0, none⟩), .pointer (some ⟨w.heap.size + 1, 0, none⟩)]] 108) := ⟨_, rfl⟩
  have hb5 : Below w4.heap.size w4 w5 := by rw [hw5]; exact below_new _ _
  have l0 : w5.cell? ⟨w4.heap.size, 0, none⟩ = some (.func (.func 93) #[] #[.pointer (some ⟨w1.heap.size, 0, none⟩), .pointer (some ⟨w.heap.size + 1, 0, none⟩)]) := by rw [hw5, World.cell?_alloc_at _ _ _ _ rfl]; rfl
  have l1 : w5.cell? ⟨w4.heap.size, 1, none⟩ = some (.func (.func 95) #[] #[.pointer (some ⟨w1.heap.size, 0, none⟩), .pointer (some ⟨w.heap.size, 0, none⟩), .pointer (some ⟨w.heap.size + 1, 0, none⟩)]) := by rw [hw5, World.cell?_alloc_at _ _ _ _ rfl]; rfl
  have f0 : w5.frozen? ⟨w4.heap.size, 0, none⟩ = false := by rw [hw5, World.frozen?_alloc_at _ _ _ _ rfl]
  have f1 : w5.frozen? ⟨w4.heap.size, 1, none⟩ = false := by rw [hw5, World.frozen?_alloc_at _ _ _ _ rfl]
  have MK := Lib.hid (fun ga gb W (hb : Below w4.heap.size w4 W) (l0 : W.cell? ⟨w4.heap.size, 0, none⟩ = some ga) (l1 : W.cell? ⟨w4.heap.size, 1, none⟩ = some gb) => (⟨X4.out.step hb, keepcell hb P4.out, Z4.out.step hb, Y4.out.step hb, l0, l1, RD.step hb, held_trans BB4.out hb⟩ : YS w ⟨A0, nt, ct, R, nr, cr, S, ns, cs⟩ ⟨T1, nt1, ct1, some ⟨gR, 0, none⟩, nr1, cr1, some ⟨gS, 0, none⟩, ns1, cs1⟩ r (V.heap.size + 2) m k w4.heap.size w1.heap.size es ls e0 ga gb W))
  have B5 := Lib.hid hb5
  have E5 := Lib.hid hw5
  have hmf := ymf
  clear hw5 hb5 RD X4 P4 Z4 Y4 BB4 T4 hzt hlt hrx hre0 he0 hn hra hrg hnd hmn ho hr hnO hnR
  go_wp2_with (rw [← E5.out])
  clear E5 hmf
  refine (turn_any tick _ HTI.out).mono ?_
  rintro e w6 ⟨rfl, hb6⟩
  have B6 := Lib.hid (held_trans B5.out hb6)
  have q0 := keepfree hb6 l0 f0
  have q1 := keepfree hb6 l1 f1
  have l2 := keepcell hb6 l0
  have l3 := keepcell hb6 l1
  clear hb6 l0 l1 f0 f1 B5
  by_cases ht : tick.tmod 61 = 0
  · have t0 : (tick.tmod 61 == 0) = true := by rw [beq_iff_eq]; exact ht
    have TW := Lib.hid (TRh.out ht)
    rw [t0]
    clear t0 ht TRh TOh
    go_wp2_with fail
    refine (rev_any w4.heap.size _ _ _ _ w6 l2 l3 q0 q1).mono ?_
    rintro e w7 ⟨rfl, hw7⟩
    have hb7 : Below w4.heap.size w4 w7 := by rw [hw7]; exact (B6.out.drew.setCell (by simp) _).setCell (by simp) _
    have c0 : w7.cell? ⟨w4.heap.size, 0, none⟩ = some (.func (.func 95) #[] #[.pointer (some ⟨w1.heap.size, 0, none⟩), .pointer (some ⟨w.heap.size, 0, none⟩), .pointer (some ⟨w.heap.size + 1, 0, none⟩)]) := by
      rw [hw7, World.cell?_setCell_other _ _ _ _ (fun e => by injection e with _ e; omega)]
      exact World.cell?_setCell_same' _ _ _ (by rw [show w6.drew.cell? ⟨w4.heap.size, 0, none⟩ = w6.cell? ⟨w4.heap.size, 0, none⟩ from rfl, l2]; rfl)
    have c1 : w7.cell? ⟨w4.heap.size, 1, none⟩ = some (.func (.func 93) #[] #[.pointer (some ⟨w1.heap.size, 0, none⟩), .pointer (some ⟨w.heap.size + 1, 0, none⟩)]) := by
      rw [hw7]
      exact World.cell?_setCell_same' _ _ _ (by rw [World.cell?_setCell_other _ _ _ _ (fun e => by injection e with _ e; omega), show w6.drew.cell? ⟨w4.heap.size, 1, none⟩ = w6.cell? ⟨w4.heap.size, 1, none⟩ from rfl, l3]; rfl)
    have S7 := Lib.hid (MK.out _ _ w7 hb7 c0 c1)
    clear hw7 hb7 c0 c1 l2 l3 q0 q1 MK B6
    have LA := Lib.hid (LRh.out (.func (.func 95) #[] #[.pointer (some ⟨w1.heap.size, 0, none⟩), .pointer (some ⟨w.heap.size, 0, none⟩), .pointer (some ⟨w.heap.size + 1, 0, none⟩)]) (.func (.func 93) #[] #[.pointer (some ⟨w1.heap.size, 0, none⟩), .pointer (some ⟨w.heap.size + 1, 0, none⟩)]))
    have LB := Lib.hid (LOh.out (.func (.func 95) #[] #[.pointer (some ⟨w1.heap.size, 0, none⟩), .pointer (some ⟨w.heap.size, 0, none⟩), .pointer (some ⟨w.heap.size + 1, 0, none⟩)]) (.func (.func 93) #[] #[.pointer (some ⟨w1.heap.size, 0, none⟩), .pointer (some ⟨w.heap.size + 1, 0, none⟩)]))
    clear LOh LRh
    go_wp2_with fail
    go_loopw [41] (fun i wr => (i = .int .i64 0 ∧ Hid (YS w ⟨A0, nt, ct, R, nr, cr, S, ns, cs⟩ ⟨T1, nt1, ct1, some ⟨gR, 0, none⟩, nr1, cr1, some ⟨gS, 0, none⟩, ns1, cs1⟩ r (V.heap.size + 2) m k w4.heap.size w1.heap.size es ls e0 (.func (.func 95) #[] #[.pointer (some ⟨w1.heap.size, 0, none⟩), .pointer (some ⟨w.heap.size, 0, none⟩), .pointer (some ⟨w.heap.size + 1, 0, none⟩)]) (.func (.func 93) #[] #[.pointer (some ⟨w1.heap.size, 0, none⟩), .pointer (some ⟨w.heap.size + 1, 0, none⟩)]) wr)) ∨ (i = .int .i64 1 ∧ Hid (YS w ⟨A0, nt, ct, R, nr, cr, S, ns, cs⟩ ⟨T1, nt1, ct1, some ⟨gR, 0, none⟩, nr1, cr1, some ⟨gS, 0, none⟩, ns1, cs1⟩ r (V.heap.size + 2) m k w4.heap.size w1.heap.size es ls e0 (.func (.func 95) #[] #[.pointer (some ⟨w1.heap.size, 0, none⟩), .pointer (some ⟨w.heap.size, 0, none⟩), .pointer (some ⟨w.heap.size + 1, 0, none⟩)]) (.func (.func 93) #[] #[.pointer (some ⟨w1.heap.size, 0, none⟩), .pointer (some ⟨w.heap.size + 1, 0, none⟩)]) wr) ∧ Hid nR) ∨ (i = .int .i64 2 ∧ Hid (YS w ⟨A0, nt, ct, R, nr, cr, S, ns, cs⟩ ⟨T1, nt1, ct1, some ⟨gR, 0, none⟩, nr1, cr1, some ⟨gS, 0, none⟩, ns1, cs1⟩ r (V.heap.size + 2) m k w4.heap.size w1.heap.size es ls e0 (.func (.func 95) #[] #[.pointer (some ⟨w1.heap.size, 0, none⟩), .pointer (some ⟨w.heap.size, 0, none⟩), .pointer (some ⟨w.heap.size + 1, 0, none⟩)]) (.func (.func 93) #[] #[.pointer (some ⟨w1.heap.size, 0, none⟩), .pointer (some ⟨w.heap.size + 1, 0, none⟩)]) wr) ∧ Hid nR ∧ Hid nO)) (fun i _ => 2 - (intOf i).toNat)
    case atStart => exact .inl ⟨rfl, S7⟩
    case round =>
      clear S7
      rcases hrel with ⟨rfl, HS⟩ | ⟨rfl, HS, HA⟩ | ⟨rfl, HS, HA, HB⟩
      · have q2 := HS.out.l0
        have hent := LA.out.enters
        go_wp2_with fail
        refine (LA.out.call _ HS.out).mono ?_
        rintro e w8 (⟨hno, rfl, hb⟩ | ⟨hyes, rfl, hcY, hcZ, hbw, hrm⟩)
        · have HS8 := Lib.hid (HS.out.step hb)
          have HN := Lib.hid hno
          clear hb hno q2 hent
          go_wp2_with fail
          go_roundw
          case rel => exact .inr (.inl ⟨by go_num, HS8, HN⟩)
          case measure => simp [intOf]
        · simp only at hrm
          have YY := Lib.hid (hcY _ _ _ _ _ HS.out.told)
          have ZZ := Lib.hid (hcZ _ _ _ _ _ HS.out.put)
          have BB := Lib.hid (hbw HS.out.below)
          have HP := Lib.hid (show Jp.loc r k tick = (rr, gr, kr) by rw [HLO.out]; exact (TW.out.first hyes))
          have MM := Lib.hid hrm
          have pn : (kr != 0) = true := by rw [bne_iff_ne]; exact (LA).out.some
          have hsz1 := (LA).out.size
          have hon1 := (LA).out.on
          simp only at hsz1 hon1
          have HSZ := Lib.hid hsz1
          have HON := Lib.hid hon1
          clear hcY hcZ hbw hrm hyes HS q2 hent hsz1 hon1
          have d0 := ((YY.out)).b5.c0
          have d1 := ((YY.out)).b5.c1
          have d2 := ((YY.out)).b5.c2
          have d3 := ((YY.out)).b5.c3
          have d4 := ((YY.out)).b5.c4
          have y0 := ((ZZ.out)).b5.c0
          have y1 := ((ZZ.out)).b5.c1
          have y2 := ((ZZ.out)).b5.c2
          have y3 := ((ZZ.out)).b5.c3
          have y4 := ((ZZ.out)).b5.c4
          have g0 := ((ZZ.out)).f0
          have g1 := ((ZZ.out)).f1
          have g2 := ((ZZ.out)).f2
          have g3 := ((ZZ.out)).f3
          have g4 := ((ZZ.out)).f4
          have HF := Lib.hid (tellg (F := F) (w := w) (V := V) (Z := w.heap.size + 2) (g := gr) (k := kr) (HP.out) (MM.out) (HSZ.out) (HON.out) (by omega) (by omega) (by omega) (BB.out) (.slice T1 nt1 ct1) (.int .i64 r.size) (.slice (some ⟨gR, 0, none⟩) nr1 cr1) (.slice (some ⟨gS, 0, none⟩) ns1 cs1) (.int .u64 (r.on : Nat)))
          obtain ⟨k0, k1, k2, k3, k4⟩ := put5_told ((ZZ.out)) (.slice T1 nt1 ct1) (.int .i64 r.size) (.slice (some ⟨gR, 0, none⟩) nr1 cr1) (.slice (some ⟨gS, 0, none⟩) ns1 cs1) (.int .u64 (r.on : Nat))
          unfold put5 at k0 k1 k2 k3 k4
          go_wp2_with fail
          refine bodyPost_ret ?_ rfl HF.out
          simp [results, Tryz.results69, go_sem, k0, k1, k2, k3, k4]
      · have q2 := HS.out.l1
        have hent := LB.out.enters
        go_wp2_with fail
        refine (LB.out.call _ HS.out).mono ?_
        rintro e w8 (⟨hno, rfl, hb⟩ | ⟨hyes, rfl, hcY, hcZ, hbw, hrm⟩)
        · have HS8 := Lib.hid (HS.out.step hb)
          have HN := Lib.hid hno
          clear hb hno q2 hent
          go_wp2_with fail
          go_roundw
          case rel => exact .inr (.inr ⟨by go_num, HS8, HA, HN⟩)
          case measure => simp [intOf]
        · simp only at hrm
          have YY := Lib.hid (hcY _ _ _ _ _ HS.out.told)
          have ZZ := Lib.hid (hcZ _ _ _ _ _ HS.out.put)
          have BB := Lib.hid (hbw HS.out.below)
          have HP := Lib.hid (show Jp.loc r k tick = (ro, go, ko) by rw [HLO.out]; exact (TW.out.second HA.out hyes))
          have MM := Lib.hid hrm
          have pn : (ko != 0) = true := by rw [bne_iff_ne]; exact (LB).out.some
          have hsz1 := (LB).out.size
          have hon1 := (LB).out.on
          simp only at hsz1 hon1
          have HSZ := Lib.hid hsz1
          have HON := Lib.hid hon1
          clear hcY hcZ hbw hrm hyes HS q2 hent hsz1 hon1
          have d0 := ((YY.out)).b5.c0
          have d1 := ((YY.out)).b5.c1
          have d2 := ((YY.out)).b5.c2
          have d3 := ((YY.out)).b5.c3
          have d4 := ((YY.out)).b5.c4
          have y0 := ((ZZ.out)).b5.c0
          have y1 := ((ZZ.out)).b5.c1
          have y2 := ((ZZ.out)).b5.c2
          have y3 := ((ZZ.out)).b5.c3
          have y4 := ((ZZ.out)).b5.c4
          have g0 := ((ZZ.out)).f0
          have g1 := ((ZZ.out)).f1
          have g2 := ((ZZ.out)).f2
          have g3 := ((ZZ.out)).f3
          have g4 := ((ZZ.out)).f4
          have HF := Lib.hid (tellg (F := F) (w := w) (V := V) (Z := w.heap.size + 2) (g := go) (k := ko) (HP.out) (MM.out) (HSZ.out) (HON.out) (by omega) (by omega) (by omega) (BB.out) (.slice T1 nt1 ct1) (.int .i64 r.size) (.slice (some ⟨gR, 0, none⟩) nr1 cr1) (.slice (some ⟨gS, 0, none⟩) ns1 cs1) (.int .u64 (r.on : Nat)))
          obtain ⟨k0, k1, k2, k3, k4⟩ := put5_told ((ZZ.out)) (.slice T1 nt1 ct1) (.int .i64 r.size) (.slice (some ⟨gR, 0, none⟩) nr1 cr1) (.slice (some ⟨gS, 0, none⟩) ns1 cs1) (.int .u64 (r.on : Nat))
          unfold put5 at k0 k1 k2 k3 k4
          go_wp2_with fail
          refine bodyPost_ret ?_ rfl HF.out
          simp [results, Tryz.results69, go_sem, k0, k1, k2, k3, k4]
      · have YY := Lib.hid HS.out.told
        have ZZ := Lib.hid HS.out.put
        have BB := Lib.hid HS.out.below
        have HP := Lib.hid (show Jp.loc r k tick = (r, 0, 0) by rw [HLO.out]; exact TW.out.none HA.out HB.out)
        have MM := Lib.hid (HS.out.rd.rm (F := fun _ => False) (w0 := V) (by omega))
        clear HS
        have d0 := ((YY.out)).b5.c0
        have d1 := ((YY.out)).b5.c1
        have d2 := ((YY.out)).b5.c2
        have d3 := ((YY.out)).b5.c3
        have d4 := ((YY.out)).b5.c4
        have y0 := ((ZZ.out)).b5.c0
        have y1 := ((ZZ.out)).b5.c1
        have y2 := ((ZZ.out)).b5.c2
        have y3 := ((ZZ.out)).b5.c3
        have y4 := ((ZZ.out)).b5.c4
        have g0 := ((ZZ.out)).f0
        have g1 := ((ZZ.out)).f1
        have g2 := ((ZZ.out)).f2
        have g3 := ((ZZ.out)).f3
        have g4 := ((ZZ.out)).f4
        have HF := Lib.hid (tellg (F := F) (w := w) (V := V) (Z := w.heap.size + 2) (g := 0) (k := 0) (HP.out) (MM.out) rfl rfl (by omega) (by omega) (by omega) (BB.out) (.slice T1 nt1 ct1) (.int .i64 r.size) (.slice (some ⟨gR, 0, none⟩) nr1 cr1) (.slice (some ⟨gS, 0, none⟩) ns1 cs1) (.int .u64 (r.on : Nat)))
        obtain ⟨k0, k1, k2, k3, k4⟩ := put5_told ((ZZ.out)) (.slice T1 nt1 ct1) (.int .i64 r.size) (.slice (some ⟨gR, 0, none⟩) nr1 cr1) (.slice (some ⟨gS, 0, none⟩) ns1 cs1) (.int .u64 (r.on : Nat))
        unfold put5 at k0 k1 k2 k3 k4
        go_wp2_with fail
        refine bodyPost_ret ?_ rfl HF.out
        simp [results, Tryz.results69, go_sem, k0, k1, k2, k3, k4]
  · have t0 : (tick.tmod 61 == 0) = false := by rw [beq_eq_false_iff_ne]; exact ht
    have TW := Lib.hid (TOh.out ht)
    rw [t0]
    clear t0 ht TRh TOh q0 q1
    have S7 := Lib.hid (MK.out _ _ w6 B6.out l2 l3)
    have LA := Lib.hid (LOh.out (.func (.func 93) #[] #[.pointer (some ⟨w1.heap.size, 0, none⟩), .pointer (some ⟨w.heap.size + 1, 0, none⟩)]) (.func (.func 95) #[] #[.pointer (some ⟨w1.heap.size, 0, none⟩), .pointer (some ⟨w.heap.size, 0, none⟩), .pointer (some ⟨w.heap.size + 1, 0, none⟩)]))
    have LB := Lib.hid (LRh.out (.func (.func 93) #[] #[.pointer (some ⟨w1.heap.size, 0, none⟩), .pointer (some ⟨w.heap.size + 1, 0, none⟩)]) (.func (.func 95) #[] #[.pointer (some ⟨w1.heap.size, 0, none⟩), .pointer (some ⟨w.heap.size, 0, none⟩), .pointer (some ⟨w.heap.size + 1, 0, none⟩)]))
    clear LOh LRh MK B6 l2 l3
    go_wp2_with fail
    go_loopw [41] (fun i wr => (i = .int .i64 0 ∧ Hid (YS w ⟨A0, nt, ct, R, nr, cr, S, ns, cs⟩ ⟨T1, nt1, ct1, some ⟨gR, 0, none⟩, nr1, cr1, some ⟨gS, 0, none⟩, ns1, cs1⟩ r (V.heap.size + 2) m k w4.heap.size w1.heap.size es ls e0 (.func (.func 93) #[] #[.pointer (some ⟨w1.heap.size, 0, none⟩), .pointer (some ⟨w.heap.size + 1, 0, none⟩)]) (.func (.func 95) #[] #[.pointer (some ⟨w1.heap.size, 0, none⟩), .pointer (some ⟨w.heap.size, 0, none⟩), .pointer (some ⟨w.heap.size + 1, 0, none⟩)]) wr)) ∨ (i = .int .i64 1 ∧ Hid (YS w ⟨A0, nt, ct, R, nr, cr, S, ns, cs⟩ ⟨T1, nt1, ct1, some ⟨gR, 0, none⟩, nr1, cr1, some ⟨gS, 0, none⟩, ns1, cs1⟩ r (V.heap.size + 2) m k w4.heap.size w1.heap.size es ls e0 (.func (.func 93) #[] #[.pointer (some ⟨w1.heap.size, 0, none⟩), .pointer (some ⟨w.heap.size + 1, 0, none⟩)]) (.func (.func 95) #[] #[.pointer (some ⟨w1.heap.size, 0, none⟩), .pointer (some ⟨w.heap.size, 0, none⟩), .pointer (some ⟨w.heap.size + 1, 0, none⟩)]) wr) ∧ Hid nO) ∨ (i = .int .i64 2 ∧ Hid (YS w ⟨A0, nt, ct, R, nr, cr, S, ns, cs⟩ ⟨T1, nt1, ct1, some ⟨gR, 0, none⟩, nr1, cr1, some ⟨gS, 0, none⟩, ns1, cs1⟩ r (V.heap.size + 2) m k w4.heap.size w1.heap.size es ls e0 (.func (.func 93) #[] #[.pointer (some ⟨w1.heap.size, 0, none⟩), .pointer (some ⟨w.heap.size + 1, 0, none⟩)]) (.func (.func 95) #[] #[.pointer (some ⟨w1.heap.size, 0, none⟩), .pointer (some ⟨w.heap.size, 0, none⟩), .pointer (some ⟨w.heap.size + 1, 0, none⟩)]) wr) ∧ Hid nO ∧ Hid nR)) (fun i _ => 2 - (intOf i).toNat)
    case atStart => exact .inl ⟨rfl, S7⟩
    case round =>
      clear S7
      rcases hrel with ⟨rfl, HS⟩ | ⟨rfl, HS, HA⟩ | ⟨rfl, HS, HA, HB⟩
      · have q2 := HS.out.l0
        have hent := LA.out.enters
        go_wp2_with fail
        refine (LA.out.call _ HS.out).mono ?_
        rintro e w8 (⟨hno, rfl, hb⟩ | ⟨hyes, rfl, hcY, hcZ, hbw, hrm⟩)
        · have HS8 := Lib.hid (HS.out.step hb)
          have HN := Lib.hid hno
          clear hb hno q2 hent
          go_wp2_with fail
          go_roundw
          case rel => exact .inr (.inl ⟨by go_num, HS8, HN⟩)
          case measure => simp [intOf]
        · simp only at hrm
          have YY := Lib.hid (hcY _ _ _ _ _ HS.out.told)
          have ZZ := Lib.hid (hcZ _ _ _ _ _ HS.out.put)
          have BB := Lib.hid (hbw HS.out.below)
          have HP := Lib.hid (show Jp.loc r k tick = (ro, go, ko) by rw [HLO.out]; exact (TW.out.first hyes))
          have MM := Lib.hid hrm
          have pn : (ko != 0) = true := by rw [bne_iff_ne]; exact (LA).out.some
          have hsz1 := (LA).out.size
          have hon1 := (LA).out.on
          simp only at hsz1 hon1
          have HSZ := Lib.hid hsz1
          have HON := Lib.hid hon1
          clear hcY hcZ hbw hrm hyes HS q2 hent hsz1 hon1
          have d0 := ((YY.out)).b5.c0
          have d1 := ((YY.out)).b5.c1
          have d2 := ((YY.out)).b5.c2
          have d3 := ((YY.out)).b5.c3
          have d4 := ((YY.out)).b5.c4
          have y0 := ((ZZ.out)).b5.c0
          have y1 := ((ZZ.out)).b5.c1
          have y2 := ((ZZ.out)).b5.c2
          have y3 := ((ZZ.out)).b5.c3
          have y4 := ((ZZ.out)).b5.c4
          have g0 := ((ZZ.out)).f0
          have g1 := ((ZZ.out)).f1
          have g2 := ((ZZ.out)).f2
          have g3 := ((ZZ.out)).f3
          have g4 := ((ZZ.out)).f4
          have HF := Lib.hid (tellg (F := F) (w := w) (V := V) (Z := w.heap.size + 2) (g := go) (k := ko) (HP.out) (MM.out) (HSZ.out) (HON.out) (by omega) (by omega) (by omega) (BB.out) (.slice T1 nt1 ct1) (.int .i64 r.size) (.slice (some ⟨gR, 0, none⟩) nr1 cr1) (.slice (some ⟨gS, 0, none⟩) ns1 cs1) (.int .u64 (r.on : Nat)))
          obtain ⟨k0, k1, k2, k3, k4⟩ := put5_told ((ZZ.out)) (.slice T1 nt1 ct1) (.int .i64 r.size) (.slice (some ⟨gR, 0, none⟩) nr1 cr1) (.slice (some ⟨gS, 0, none⟩) ns1 cs1) (.int .u64 (r.on : Nat))
          unfold put5 at k0 k1 k2 k3 k4
          go_wp2_with fail
          refine bodyPost_ret ?_ rfl HF.out
          simp [results, Tryz.results69, go_sem, k0, k1, k2, k3, k4]
      · have q2 := HS.out.l1
        have hent := LB.out.enters
        go_wp2_with fail
        refine (LB.out.call _ HS.out).mono ?_
        rintro e w8 (⟨hno, rfl, hb⟩ | ⟨hyes, rfl, hcY, hcZ, hbw, hrm⟩)
        · have HS8 := Lib.hid (HS.out.step hb)
          have HN := Lib.hid hno
          clear hb hno q2 hent
          go_wp2_with fail
          go_roundw
          case rel => exact .inr (.inr ⟨by go_num, HS8, HA, HN⟩)
          case measure => simp [intOf]
        · simp only at hrm
          have YY := Lib.hid (hcY _ _ _ _ _ HS.out.told)
          have ZZ := Lib.hid (hcZ _ _ _ _ _ HS.out.put)
          have BB := Lib.hid (hbw HS.out.below)
          have HP := Lib.hid (show Jp.loc r k tick = (rr, gr, kr) by rw [HLO.out]; exact (TW.out.second HA.out hyes))
          have MM := Lib.hid hrm
          have pn : (kr != 0) = true := by rw [bne_iff_ne]; exact (LB).out.some
          have hsz1 := (LB).out.size
          have hon1 := (LB).out.on
          simp only at hsz1 hon1
          have HSZ := Lib.hid hsz1
          have HON := Lib.hid hon1
          clear hcY hcZ hbw hrm hyes HS q2 hent hsz1 hon1
          have d0 := ((YY.out)).b5.c0
          have d1 := ((YY.out)).b5.c1
          have d2 := ((YY.out)).b5.c2
          have d3 := ((YY.out)).b5.c3
          have d4 := ((YY.out)).b5.c4
          have y0 := ((ZZ.out)).b5.c0
          have y1 := ((ZZ.out)).b5.c1
          have y2 := ((ZZ.out)).b5.c2
          have y3 := ((ZZ.out)).b5.c3
          have y4 := ((ZZ.out)).b5.c4
          have g0 := ((ZZ.out)).f0
          have g1 := ((ZZ.out)).f1
          have g2 := ((ZZ.out)).f2
          have g3 := ((ZZ.out)).f3
          have g4 := ((ZZ.out)).f4
          have HF := Lib.hid (tellg (F := F) (w := w) (V := V) (Z := w.heap.size + 2) (g := gr) (k := kr) (HP.out) (MM.out) (HSZ.out) (HON.out) (by omega) (by omega) (by omega) (BB.out) (.slice T1 nt1 ct1) (.int .i64 r.size) (.slice (some ⟨gR, 0, none⟩) nr1 cr1) (.slice (some ⟨gS, 0, none⟩) ns1 cs1) (.int .u64 (r.on : Nat)))
          obtain ⟨k0, k1, k2, k3, k4⟩ := put5_told ((ZZ.out)) (.slice T1 nt1 ct1) (.int .i64 r.size) (.slice (some ⟨gR, 0, none⟩) nr1 cr1) (.slice (some ⟨gS, 0, none⟩) ns1 cs1) (.int .u64 (r.on : Nat))
          unfold put5 at k0 k1 k2 k3 k4
          go_wp2_with fail
          refine bodyPost_ret ?_ rfl HF.out
          simp [results, Tryz.results69, go_sem, k0, k1, k2, k3, k4]
      · have YY := Lib.hid HS.out.told
        have ZZ := Lib.hid HS.out.put
        have BB := Lib.hid HS.out.below
        have HP := Lib.hid (show Jp.loc r k tick = (r, 0, 0) by rw [HLO.out]; exact TW.out.none HA.out HB.out)
        have MM := Lib.hid (HS.out.rd.rm (F := fun _ => False) (w0 := V) (by omega))
        clear HS
        have d0 := ((YY.out)).b5.c0
        have d1 := ((YY.out)).b5.c1
        have d2 := ((YY.out)).b5.c2
        have d3 := ((YY.out)).b5.c3
        have d4 := ((YY.out)).b5.c4
        have y0 := ((ZZ.out)).b5.c0
        have y1 := ((ZZ.out)).b5.c1
        have y2 := ((ZZ.out)).b5.c2
        have y3 := ((ZZ.out)).b5.c3
        have y4 := ((ZZ.out)).b5.c4
        have g0 := ((ZZ.out)).f0
        have g1 := ((ZZ.out)).f1
        have g2 := ((ZZ.out)).f2
        have g3 := ((ZZ.out)).f3
        have g4 := ((ZZ.out)).f4
        have HF := Lib.hid (tellg (F := F) (w := w) (V := V) (Z := w.heap.size + 2) (g := 0) (k := 0) (HP.out) (MM.out) rfl rfl (by omega) (by omega) (by omega) (BB.out) (.slice T1 nt1 ct1) (.int .i64 r.size) (.slice (some ⟨gR, 0, none⟩) nr1 cr1) (.slice (some ⟨gS, 0, none⟩) ns1 cs1) (.int .u64 (r.on : Nat)))
        obtain ⟨k0, k1, k2, k3, k4⟩ := put5_told ((ZZ.out)) (.slice T1 nt1 ct1) (.int .i64 r.size) (.slice (some ⟨gR, 0, none⟩) nr1 cr1) (.slice (some ⟨gS, 0, none⟩) ns1 cs1) (.int .u64 (r.on : Nat))
        unfold put5 at k0 k1 k2 k3 k4
        go_wp2_with fail
        refine bodyPost_ret ?_ rfl HF.out
        simp [results, Tryz.results69, go_sem, k0, k1, k2, k3, k4]
end Go.Proofs.YtdohnhdjlhaaaaaGreatDoor

