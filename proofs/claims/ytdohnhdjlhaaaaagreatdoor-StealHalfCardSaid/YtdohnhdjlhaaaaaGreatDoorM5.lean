/- Contracts and plain mathematics, put together by program (wip/merge.py) out of: JMem JAll JBox JBound JClone JMet. -/
import Derived.Test.YtdohnhdjlhaaaaaGreatDoorM1
import Derived.Test.YtdohnhdjlhaaaaaGreatDoorM4
import Derived.Test.YtdohnhdjlhaaaaaGreatDoorM3
import Derived.Maps.OwnSet
import Derived.RegionTactic
/- Who can run, in memory: a struct of a tree, a size, a row of rings, a row of rows, and a set; its box. -/
namespace Go.Proofs.YtdohnhdjlhaaaaaGreatDoor
open Go.RowKit
set_option linter.unusedVariables false

/-- Where its slices lie. -/
structure Ad where
  T : Option Addr
  nt : Nat
  ct : Nat
  R : Option Addr
  nr : Nat
  cr : Nat
  S : Option Addr
  ns : Nat
  cs : Nat
def jv (d : Ad) (r : Jp.Rn) : Value := .agg #[.slice d.T d.nt d.ct, .int .i64 r.size, .slice d.R d.nr d.cr, .slice d.S d.ns d.cs, .int .u64 (r.on : Nat)]
def elG (e : El) : Int × List Int := (e.x, e.l)
def elL (e : El) : List Int := e.l
/-- What such a row holds lies in blocks of which F holds. -/
def LieE (F : Nat → Prop) (A : Option Addr) (es : List El) : Prop := (es ≠ [] → ∀ ad, A = some ad → F ad.block) ∧ ∀ e ∈ es, e.l ≠ [] → ∀ ad, e.A = some ad → F ad.block
theorem LieE.mono {F G : Nat → Prop} {A : Option Addr} {es : List El} (h : LieE F A es) (hF : ∀ b, F b → G b) : LieE G A es :=
  ⟨fun h1 ad h2 => hF _ (h.1 h1 ad h2), fun e he h1 ad h2 => hF _ (h.2 e he h1 ad h2)⟩
/-- They stand in memory, in blocks of which F holds. -/
structure RM (F : Nat → Prop) (w : World) (d : Ad) (r : Jp.Rn) : Prop where
  tlen : r.tree.length = d.nt
  tmax : d.nt ≤ 9223372036854775807
  fit : Fit r.tree
  tree : VRow w w.heap.size d.T r.tree
  lie : r.tree ≠ [] → ∀ ad, d.T = some ad → F ad.block
  rings : ∃ gs, XR csG 2 w d.R d.nr d.cr gs ∧ r.rings = gs.map elG ∧ LieE F d.R gs
  rows : ∃ ls, XR csL 1 w d.S d.ns d.cs ls ∧ r.rows = ls.map elL ∧ LieE F d.S ls
  on : r.on < 18446744073709551616
  size : In64 r.size
variable {F G : Nat → Prop}
theorem RM.below {w w' : World} {d : Ad} {r : Jp.Rn} (h : RM F w d r) (hb : Below w.heap.size w w') : RM F w' d r := by
  obtain ⟨gs, h1, h2, h5⟩ := h.rings
  obtain ⟨ls, h3, h4, h6⟩ := h.rows
  exact ⟨h.tlen, h.tmax, h.fit, (h.tree.below hb).more hb.size, h.lie, ⟨gs, h1.below hb, h2, h5⟩, ⟨ls, h3.below hb, h4, h6⟩, h.on, h.size⟩
theorem RM.drew {w : World} {d : Ad} {r : Jp.Rn} (h : RM F w d r) : RM F w.drew d r := by
  obtain ⟨gs, h1, h2, h5⟩ := h.rings
  obtain ⟨ls, h3, h4, h6⟩ := h.rows
  exact ⟨h.tlen, h.tmax, h.fit, h.tree, h.lie, ⟨gs, h1.drew, h2, h5⟩, ⟨ls, h3.drew, h4, h6⟩, h.on, h.size⟩
theorem RM.mono {w : World} {d : Ad} {r : Jp.Rn} (h : RM F w d r) (hF : ∀ b, F b → G b) : RM G w d r := by
  obtain ⟨gs, h1, h2, h5⟩ := h.rings
  obtain ⟨ls, h3, h4, h6⟩ := h.rows
  exact ⟨h.tlen, h.tmax, h.fit, h.tree, fun h1 ad h2 => hF _ (h.lie h1 ad h2), ⟨gs, h1, h2, h5.mono hF⟩, ⟨ls, h3, h4, h6.mono hF⟩, h.on, h.size⟩
/-- A write elsewhere. -/
theorem row_farj {W : World} {X j n c : Nat} {A : Option Addr} {zs : List Int} {u : Value} (h : Row W A n c zs) (ha : zs ≠ [] → ∀ ad, A = some ad → ad.block ≠ X) : Row (W.setCell ⟨X, j, none⟩ u) A n c zs := by
  refine ⟨h.len, h.cap, h.most, h.nil, fun i z hi => ?_⟩
  obtain ⟨b, off, e, hb, hc⟩ := h.row i z hi
  have hne := ha (fun e => by rw [e] at hi; simp at hi) _ e
  simp only at hne
  exact ⟨b, off, e, by simpa [World.setCell] using hb, (World.cell?_setCell_other _ _ _ _ (fun e => by injection e with e; omega)).trans hc⟩
theorem vrow_farj {W : World} {X j : Nat} {A : Option Addr} {vs : List (Int × Int)} {u : Value} (h : VRow W W.heap.size A vs) (ha : vs ≠ [] → ∀ ad, A = some ad → ad.block ≠ X) : VRow (W.setCell ⟨X, j, none⟩ u) (W.setCell ⟨X, j, none⟩ u).heap.size A vs := by
  intro i z hi
  obtain ⟨b, off, e, hb, hc, hd⟩ := h i z hi
  have hne := ha (fun e => by rw [e] at hi; simp at hi) _ e
  simp only at hne
  exact ⟨b, off, e, by simpa [World.setCell] using hb, (World.cell?_setCell_other _ _ _ _ (fun e => by injection e with e; omega)).trans hc, (World.cell?_setCell_other _ _ _ _ (fun e => by injection e with e; omega)).trans hd⟩
theorem XR.farj {cs : El → List Value} {sz : Nat} {W : World} {X j n c : Nat} {A : Option Addr} {es : List El} {u : Value} (h : XR cs sz W A n c es) (hl : LieE (fun b => b ≠ X) A es) : XR cs sz (W.setCell ⟨X, j, Option.none⟩ u) A n c es := by
  refine ⟨h.len, h.cap, h.most, h.nil, fun i e hi => ?_, fun e he => row_farj (h.rows e he) (hl.2 e he)⟩
  obtain ⟨b, off, e1, hb, hc⟩ := h.cell i e hi
  have hne := hl.1 (fun e => by rw [e] at hi; simp at hi) _ e1
  simp only at hne
  exact ⟨b, off, e1, by simpa [World.setCell] using hb, fun j u hj => (World.cell?_setCell_other _ _ _ _ (fun e => by injection e with e; omega)).trans (hc j u hj)⟩
theorem RM.far {w : World} {d : Ad} {r : Jp.Rn} (h : RM F w d r) {X : Nat} (hX : ¬ F X) (j : Nat) (u : Value) : RM F (w.setCell ⟨X, j, none⟩ u) d r := by
  obtain ⟨gs, h1, h2, h5⟩ := h.rings
  obtain ⟨ls, h3, h4, h6⟩ := h.rows
  have hF : ∀ b, F b → b ≠ X := fun b hb e => hX (by rw [← e]; exact hb)
  exact ⟨h.tlen, h.tmax, h.fit, vrow_farj h.tree (fun h1 ad h2 => hF _ (h.lie h1 ad h2)), h.lie, ⟨gs, h1.farj (h5.mono hF), h2, h5⟩, ⟨ls, h3.farj (h6.mono hF), h4, h6⟩, h.on, h.size⟩
theorem RM.nr {w : World} {d : Ad} {r : Jp.Rn} (h : RM F w d r) : r.rings.length = d.nr ∧ d.nr ≤ d.cr ∧ d.cr ≤ 9223372036854775807 := by
  obtain ⟨gs, h1, h2, _⟩ := h.rings
  exact ⟨by rw [h2, List.length_map, h1.len], h1.cap, h1.most⟩
theorem RM.ns {w : World} {d : Ad} {r : Jp.Rn} (h : RM F w d r) : r.rows.length = d.ns ∧ d.ns ≤ d.cs ∧ d.cs ≤ 9223372036854775807 := by
  obtain ⟨gs, h1, h2, _⟩ := h.rows
  exact ⟨by rw [h2, List.length_map, h1.len], h1.cap, h1.most⟩
theorem RM.ringAt {w : World} {d : Ad} {r : Jp.Rn} (h : RM F w d r) {i : Nat} {x : Int × List Int} (hx : r.rings[i]? = some x) :
    ∃ b off A n c, d.R = some ⟨b, off, none⟩ ∧ b < w.heap.size ∧ w.cell? ⟨b, off + i * 2, none⟩ = some (.int .i64 x.1) ∧ w.cell? ⟨b, off + i * 2 + 1, none⟩ = some (.slice A n c) ∧ Row w A n c x.2 := by
  obtain ⟨gs, h1, h2, _⟩ := h.rings
  rw [h2, List.getElem?_map] at hx
  cases he : gs[i]? with
  | none => rw [he] at hx; cases hx
  | some e =>
    rw [he] at hx
    injection hx with hx
    subst hx
    obtain ⟨b, off, e1, hb, hc⟩ := h1.cell i e he
    exact ⟨b, off, e.A, e.n, e.c, e1, hb, hc 0 _ rfl, hc 1 _ rfl, h1.rows e (List.mem_of_getElem? he)⟩
theorem RM.ringAt2 {w : World} {d : Ad} {r : Jp.Rn} (h : RM F w d r) {i : Nat} {x : Int × List Int} (hx : r.rings[i]? = some x) :
    ∃ b off A n c, d.R = some ⟨b, off, none⟩ ∧ b < w.heap.size ∧ w.cell? ⟨b, off + i * 2, none⟩ = some (.int .i64 x.1) ∧ w.cell? ⟨b, off + i * 2 + 1, none⟩ = some (.slice A n c) ∧ Row w A n c x.2 ∧ (x.2 ≠ [] → ∀ ad, A = some ad → F ad.block) := by
  obtain ⟨gs, h1, h2, h3⟩ := h.rings
  rw [h2, List.getElem?_map] at hx
  cases he : gs[i]? with
  | none => rw [he] at hx; cases hx
  | some e =>
    rw [he] at hx
    injection hx with hx
    subst hx
    obtain ⟨b, off, e1, hb, hc⟩ := h1.cell i e he
    exact ⟨b, off, e.A, e.n, e.c, e1, hb, hc 0 _ rfl, hc 1 _ rfl, h1.rows e (List.mem_of_getElem? he), h3.2 e (List.mem_of_getElem? he)⟩
theorem RM.rowAt {w : World} {d : Ad} {r : Jp.Rn} (h : RM F w d r) {i : Nat} {x : List Int} (hx : r.rows[i]? = some x) :
    ∃ b off A n c, d.S = some ⟨b, off, none⟩ ∧ b < w.heap.size ∧ w.cell? ⟨b, off + i, none⟩ = some (.slice A n c) ∧ Row w A n c x := by
  obtain ⟨gs, h1, h2, _⟩ := h.rows
  rw [h2, List.getElem?_map] at hx
  cases he : gs[i]? with
  | none => rw [he] at hx; cases hx
  | some e =>
    rw [he] at hx
    injection hx with hx
    subst hx
    obtain ⟨b, off, e1, hb, hc⟩ := h1.cell i e he
    exact ⟨b, off, e.A, e.n, e.c, e1, hb, by have := hc 0 _ rfl; rw [Nat.mul_one] at this; exact this, h1.rows e (List.mem_of_getElem? he)⟩
/-- All who stand there are numbers of 64 bits. -/
def InA (r : Jp.Rn) : Prop := ∀ z ∈ Jp.all r, In64 z
/-- Runs that came in. -/
def RMI (F : Nat → Prop) (w : World) (d : Ad) (r : Jp.Rn) : Prop := RM F w d r ∧ InA r
/-- Few and short. -/
structure Low (r : Jp.Rn) : Prop where
  rings : r.rings.length ≤ 64
  rows : r.rows.length ≤ 64
  ring : ∀ g ∈ r.rings, g.2.length ≤ 400
  row : ∀ l ∈ r.rows, l.length ≤ 400
  tree : r.tree.length ≤ 64
  fit : InA r
/-- Five cells of a block that came about as a box. -/
structure B5 (W : World) (b : Nat) (v0 v1 v2 v3 v4 : Value) : Prop where
  c0 : W.cell? ⟨b, 0, none⟩ = some v0
  c1 : W.cell? ⟨b, 1, none⟩ = some v1
  c2 : W.cell? ⟨b, 2, none⟩ = some v2
  c3 : W.cell? ⟨b, 3, none⟩ = some v3
  c4 : W.cell? ⟨b, 4, none⟩ = some v4
theorem B5.step {W W' : World} {b : Nat} {v0 v1 v2 v3 v4 : Value} (h : B5 W b v0 v1 v2 v3 v4) (hb : Below W.heap.size W W') : B5 W' b v0 v1 v2 v3 v4 :=
  ⟨keepcell hb h.c0, keepcell hb h.c1, keepcell hb h.c2, keepcell hb h.c3, keepcell hb h.c4⟩
theorem B5.drew {W : World} {b : Nat} {v0 v1 v2 v3 v4 : Value} (h : B5 W b v0 v1 v2 v3 v4) : B5 W.drew b v0 v1 v2 v3 v4 := ⟨h.c0, h.c1, h.c2, h.c3, h.c4⟩
theorem B5.new (w : World) (v0 v1 v2 v3 v4 : Value) (T : TypeId) : B5 (w.alloc (.cells #[v0, v1, v2, v3, v4] T)) w.heap.size v0 v1 v2 v3 v4 := by
  refine ⟨?_, ?_, ?_, ?_, ?_⟩ <;> (rw [World.cell?_alloc_at _ _ _ _ rfl]; rfl)
theorem B5.start (w : World) (v0 v1 v2 v3 v4 : Value) (T : TypeId) : ∃ V, V = w.alloc (.cells #[v0, v1, v2, v3, v4] T) ∧ B5 V w.heap.size v0 v1 v2 v3 v4 ∧ Below w.heap.size w V :=
  ⟨_, rfl, B5.new w _ _ _ _ _ T, below_new w _⟩
/-- What a call leaves that tells Runs; that tells Runs, and an error. -/
def More (F : Nat → Prop) (w0 : World) : Nat → Prop := fun b => F b ∨ w0.heap.size ≤ b
def TellJ (F : Nat → Prop) (w0 : World) (r : Jp.Rn) (e : Ending) (w' : World) : Prop := ∃ d, e = .returned (jv d r) ∧ RM (More F w0) w' d r ∧ Below w0.heap.size w0 w'
def TellJE (F : Nat → Prop) (w0 : World) (p : Jp.Rn × Int) (e : Ending) (w' : World) : Prop := ∃ d, e = .returned (.tuple #[jv d p.1, .int .i64 p.2]) ∧ RM (More F w0) w' d p.1 ∧ Below w0.heap.size w0 w'
theorem More.in {F : Nat → Prop} {w0 : World} : ∀ b, F b → More F w0 b := fun _ h => .inl h

/-! ### All, piece by piece -/
def ringsTo (r : Jp.Rn) (k : Nat) : List Int := ((r.rings.take k).map Rp.all).flatten
def rowsTo (r : Jp.Rn) (k : Nat) : List Int := ringsTo r r.rings.length ++ (r.rows.take k).flatten
theorem ringsTo_zero (r : Jp.Rn) : ringsTo r 0 = [] := rfl
theorem ringsTo_succ {r : Jp.Rn} {k : Nat} {x : Int × List Int} (hx : r.rings[k]? = some x) : ringsTo r (k + 1) = ringsTo r k ++ Rp.all x := by
  unfold ringsTo
  rw [List.take_add_one, hx]
  simp
theorem rowsTo_zero (r : Jp.Rn) : rowsTo r 0 = ringsTo r r.rings.length := by unfold rowsTo; simp
theorem rowsTo_succ {r : Jp.Rn} {k : Nat} {x : List Int} (hx : r.rows[k]? = some x) : rowsTo r (k + 1) = rowsTo r k ++ x := by
  unfold rowsTo
  rw [List.take_add_one, hx]
  simp
theorem rowsTo_all (r : Jp.Rn) : rowsTo r r.rows.length = Jp.all r := by
  unfold rowsTo ringsTo Jp.all
  rw [List.take_length, List.take_length]
theorem flatten_le {l : List (List Int)} {m : Nat} (h : ∀ x ∈ l, x.length ≤ m) : l.flatten.length ≤ l.length * m := by
  induction l with
  | nil => simp
  | cons x l ih =>
    have h1 := h x (List.mem_cons_self ..)
    have h2 := ih (fun y hy => h y (List.mem_cons_of_mem _ hy))
    rw [List.flatten_cons, List.length_append, List.length_cons, Nat.succ_mul]
    omega
theorem ringsTo_le {r : Jp.Rn} (h : Low r) (k : Nat) : (ringsTo r k).length ≤ 25664 := by
  unfold ringsTo
  have := flatten_le (l := (r.rings.take k).map Rp.all) (m := 401) (by
    intro x hx
    obtain ⟨g, hg, rfl⟩ := List.mem_map.1 hx
    have h1 := h.ring g (List.mem_of_mem_take hg)
    have h2 := Rp.all_length g
    omega)
  have h3 := h.rings
  rw [List.length_map, List.length_take] at this
  have h4 : min k r.rings.length * 401 ≤ 64 * 401 := Nat.mul_le_mul_right _ (by omega)
  omega
theorem rowsTo_le {r : Jp.Rn} (h : Low r) (k : Nat) : (rowsTo r k).length ≤ 51264 := by
  unfold rowsTo
  have h0 := ringsTo_le h r.rings.length
  have := flatten_le (l := r.rows.take k) (m := 400) (by
    intro x hx
    exact h.row x (List.mem_of_mem_take hx))
  have h3 := h.rows
  rw [List.length_take] at this
  rw [List.length_append]
  have h4 : min k r.rows.length * 400 ≤ 64 * 400 := Nat.mul_le_mul_right _ (by omega)
  omega
theorem all_le {r : Jp.Rn} (h : Low r) : (Jp.all r).length ≤ 51264 := by rw [← rowsTo_all]; exact rowsTo_le h _
end Go.Proofs.YtdohnhdjlhaaaaaGreatDoor


/- runs.All, isSize, slices.Contains, by their contracts. -/
namespace Go.Proofs.YtdohnhdjlhaaaaaGreatDoor
open Go.RowKit
set_option linter.unusedVariables false

theorem place_has (zs : List Int) (v : Int) : decide (0 ≤ Dp.place zs v) = Tp.has zs v := by
  cases h : Tp.has zs v
  · rw [Dp.place_out (Jp.has_no.1 h)]; decide
  · obtain ⟨m, e, _⟩ := Dp.place_mem (Jp.has_iff.1 h)
    rw [e]; simp
theorem contains_any (A : Option Addr) (n c : Nat) (zs : List Int) (v : Int) (w : World) (h : Row w A n c zs) :
    Calls Tryz.prog 51 #[.slice A n c, .int .i64 v] w fun e w' => e = .returned (.bool (Tp.has zs v)) ∧ w' = w := by
  have HC := Lib.hid (index_any A n c zs v w w.heap.size (Lib.hid h.len) (by have := h.cap; have := h.most; omega) h.row)
  have HP := Lib.hid (place_has zs v)
  clear h
  go_enter Tryz.func51, Tryz.ntmps51
  go_wp2_with fail
  refine HC.out.mono ?_
  rintro e w1 ⟨rfl, rfl⟩
  clear HC
  by_cases hz : 0 ≤ Dp.place zs v
  · have hb : Tp.has zs v = true := by rw [← HP.out]; simp [hz]
    have HH := Lib.hid hb
    clear HP hb
    go_wp2_with fail
    go_ret
    exact ⟨ret_bool HH.out.symm, rfl⟩
  · have hb : Tp.has zs v = false := by rw [← HP.out]; simp [hz]
    have hz1 : Dp.place zs v < 0 := by omega
    have HH := Lib.hid hb
    clear hb
    go_wp2_with fail
    go_ret
    exact ⟨ret_bool HP.out, rfl⟩
theorem isSize_any (s : Int) (w : World) : Calls Tryz.prog 43 #[.int .i64 s] w fun e w' => e = .returned (.bool (decide (2 ≤ s ∧ s ≤ 16))) ∧ w' = w := by
  by_cases h1 : s < 2
  · have hd : decide (2 ≤ s ∧ s ≤ 16) = false := by simp; omega
    rw [hd]
    go_enter Tryz.func43, Tryz.ntmps43
    go_wp2_with fail
    go_ret
    exact ⟨rfl, rfl⟩
  have h1' : 2 ≤ s := by omega
  by_cases h2 : 16 < s
  · have hd : decide (2 ≤ s ∧ s ≤ 16) = false := by simp; omega
    rw [hd]
    clear h1
    go_enter Tryz.func43, Tryz.ntmps43
    go_wp2_with fail
    go_ret
    exact ⟨ret_bool (by simp [h2]), rfl⟩
  have h2' : s ≤ 16 := by omega
  have hd : decide (2 ≤ s ∧ s ≤ 16) = true := by simp; omega
  rw [hd]
  clear h1 h2
  go_enter Tryz.func43, Tryz.ntmps43
  go_wp2_with fail
  go_ret
  exact ⟨ret_bool (by simp), rfl⟩
set_option maxHeartbeats 1000000 in
theorem runsAll_any {F : Nat → Prop} (d : Ad) (r : Jp.Rn) (w : World) (h : RM F w d r) (hlow : Low r) :
    Calls Tryz.prog 20 #[jv d r] w (MadeR w (Jp.all r)) := by
  obtain ⟨T, nt, ct, R, nr, cr, S, ns, cs⟩ := d
  have H := Lib.hid h
  have HL := Lib.hid hlow
  obtain ⟨hr1, hr2, hr3⟩ := h.nr
  obtain ⟨hs1, hs2, hs3⟩ := h.ns
  have hr4 := hlow.rings
  have hs4 := hlow.rows
  simp only at hr1 hr2 hr3 hs1 hs2 hs3
  clear h hlow
  obtain ⟨V, hV, hX, hB⟩ := B5.start w (.slice T nt ct) (.int .i64 r.size) (.slice R nr cr) (.slice S ns cs) (.int .u64 (r.on : Nat)) 33
  have E := Lib.hid hV
  have X0 := Lib.hid hX
  have B0 := Lib.hid hB
  clear hV hX hB
  unfold jv
  go_enter Tryz.func20, Tryz.ntmps20
  go_wp2_with fail
  rw [← E.out]
  clear E
  have d2 := X0.out.c2
  go_loopw [3, 11] (fun u i wr => ∃ k : Nat, k ≤ nr ∧ i = .int .i64 k ∧ Hid (wr.ownsRow V.heap.size 3 1 u (ringsTo r k).length ((ringsTo r k).map (Value.int .i64))) ∧ Hid (Below V.heap.size V wr)) (fun _ i _ => nr - (intOf i).toNat)
  case atStart => exact ⟨0, Nat.zero_le _, rfl, Lib.hid (World.ownsRow_nil _ _ _ _), Lib.hid (Below.refl _ _)⟩
  case round =>
    obtain ⟨k, hk, rfl, HO, HB⟩ := hrel
    have hB1 := B0.out.trans (HB.out.mono B0.out.size)
    have HM := Lib.hid (H.out.below hB1)
    have B1 := Lib.hid hB1
    have X1 := X0.out.step HB.out
    have d3 := X1.c3
    clear X1 hB1 d2
    obtain ⟨u0, v0, rfl, _⟩ := Row.of_own HO.out
    by_cases hlt : k < nr
    · obtain ⟨x, hx⟩ : ∃ x, r.rings[k]? = some x := ⟨_, List.getElem?_eq_getElem (by omega)⟩
      obtain ⟨b, off, A, n, c, hR, _, c0, c1, hrow⟩ := HM.out.ringAt hx
      simp only at hR
      subst hR
      have hn : n ≤ 400 := by rw [← hrow.len]; exact HL.out.ring x (List.mem_of_getElem? hx)
      have hb2 := below_new wr (.cells #[.int .i64 x.1, .slice A n c] 54)
      have HC := Lib.hid (all_any x.1 A n c x.2 _ (hrow.below hb2) (by omega))
      have B2 := Lib.hid (B1.out.trans (hb2.mono B1.out.size))
      have HB2 := Lib.hid (HB.out.trans (hb2.mono HB.out.size))
      have O2 := Lib.hid (own_below HO.out hb2)
      have HT := Lib.hid (ringsTo_succ hx)
      have HLE := Lib.hid (ringsTo_le HL.out k)
      have hxl := Rp.all_length x
      have HXL := Lib.hid (show (Rp.all x).length ≤ 401 by rw [hrow.len] at hxl; omega)
      have i0 : (0 : Int) ≤ (k : Int) := by omega
      have i1 : (k : Int) < (nr : Int) := by omega
      clear hx hrow hxl hr1 hs1 HM hb2
      go_wp2_with fail
      refine HC.out.mono ?_
      rintro e w2 ⟨A2, n2, c2, rfl, hr2, _, hb2⟩
      have R2 := Lib.hid (show Row w2 A2 n2 c2 (Rp.all x) from hr2)
      have HN := Lib.hid (show (Rp.all x).length = n2 from hr2.len)
      have O3 := Lib.hid (own_below O2.out hb2)
      have B3 := Lib.hid (B2.out.trans (hb2.mono B2.out.size))
      have HB3 := Lib.hid (HB2.out.trans (hb2.mono HB2.out.size))
      clear hr2 hb2 HC c0 c1 d3 O2 B2 HB2
      go_wp2_with (at_builtin; refine wpList_append_row rfl _ _ rfl V.heap.size _ _ _ rfl O3.out A2 n2 c2 _ rfl R2.out (by have := HLE.out; have := HXL.out; have := HN.out; omega) HB3.out.size ?_; intro v' w3 hown hg)
      have O4 := Lib.hid (show w3.ownsRow V.heap.size 3 1 v' (ringsTo r (k + 1)).length ((ringsTo r (k + 1)).map (Value.int .i64)) by rw [HT.out, List.length_append, HN.out]; exact hown)
      have B4 := Lib.hid (HB3.out.grown hg HB3.out.size (fun j hj => (O3.out.lt j hj).1))
      clear hown hg R2
      go_wp2_with fail
      go_roundw
      case rel => exact ⟨k + 1, by omega, by go_num, O4, B4⟩
      case measure => simp [intOf]; omega
    · obtain rfl : k = nr := by omega
      have HRA := Lib.hid (show ringsTo r k = rowsTo r 0 by rw [rowsTo_zero, hr1])
      obtain ⟨wo, rfl⟩ : ∃ wo : World, wo = wr := ⟨_, rfl⟩
      go_wp2_with fail
      clear d3
      go_loopw [3, 23] (fun u i wr => ∃ j : Nat, j ≤ ns ∧ i = .int .i64 j ∧ Hid (wr.ownsRow V.heap.size 3 1 u (rowsTo r j).length ((rowsTo r j).map (Value.int .i64))) ∧ Hid (Below V.heap.size V wr)) (fun _ i _ => ns - (intOf i).toNat)
      case atStart => exact ⟨0, Nat.zero_le _, rfl, by rw [← HRA.out]; exact HO, HB⟩
      case round =>
        clear HO HB B1 HM
        obtain ⟨j, hj, rfl, HO, HB⟩ := hrel
        have hB1 := B0.out.trans (HB.out.mono B0.out.size)
        have HM := Lib.hid (H.out.below hB1)
        have B1 := Lib.hid hB1
        clear hB1
        obtain ⟨u1, v1, rfl, _⟩ := Row.of_own HO.out
        by_cases hlj : j < ns
        · obtain ⟨x, hx⟩ : ∃ x, r.rows[j]? = some x := ⟨_, List.getElem?_eq_getElem (by omega)⟩
          obtain ⟨b, off, A, n, c, hR, _, c0, hrow⟩ := HM.out.rowAt hx
          simp only at hR
          subst hR
          have hn : n ≤ 400 := by rw [← hrow.len]; exact HL.out.row x (List.mem_of_getElem? hx)
          have HT := Lib.hid (rowsTo_succ hx)
          have HLE := Lib.hid (rowsTo_le HL.out j)
          have R2 := Lib.hid hrow
          have HN := Lib.hid hrow.len
          have i0 : (0 : Int) ≤ (j : Int) := by omega
          have i1 : (j : Int) < (ns : Int) := by omega
          clear hx hrow hr1 hs1 HM
          go_wp2_with (at_builtin; refine wpList_append_row rfl _ _ rfl V.heap.size _ _ _ rfl HO.out A n c _ rfl R2.out (by have := HLE.out; omega) HB.out.size ?_; intro v' w3 hown hg)
          have O3 := Lib.hid (show w3.ownsRow V.heap.size 3 1 v' (rowsTo r (j + 1)).length ((rowsTo r (j + 1)).map (Value.int .i64)) by rw [HT.out, List.length_append, HN.out]; exact hown)
          have B3 := Lib.hid (HB.out.grown hg HB.out.size (fun j hj => (HO.out.lt j hj).1))
          clear hown hg R2 c0
          go_wp2_with fail
          go_roundw
          case rel => exact ⟨j + 1, by omega, by go_num, O3, B3⟩
          case measure => simp [intOf]; omega
        · obtain rfl : j = ns := by omega
          have hO := HO.out
          rw [← hs1, rowsTo_all] at hO
          obtain ⟨A3, c3, e3, hr3, hf3⟩ := Row.of_own' hO
          injection e3 with e31 e32 e33
          subst e31 e33
          have HM2 := Lib.hid (show MadeR w (Jp.all r) (.returned (.slice u1 (rowsTo r j).length v1)) wr from ⟨u1, _, v1, by rw [← hs1, rowsTo_all], hr3, hf3.mono B0.out.size, B1.out⟩)
          go_wp2_with fail
          go_ret
          exact HM2.out
end Go.Proofs.YtdohnhdjlhaaaaaGreatDoor


/- Variables of five cells, that are turned; empty slices that are built. -/
namespace Go.Proofs.YtdohnhdjlhaaaaaGreatDoor
open Go.RowKit
set_option linter.unusedVariables false

/-- Five cells of a block that may be written. -/
structure C5 (W : World) (b : Nat) (v0 v1 v2 v3 v4 : Value) : Prop where
  b5 : B5 W b v0 v1 v2 v3 v4
  f0 : W.frozen? ⟨b, 0, none⟩ = false
  f1 : W.frozen? ⟨b, 1, none⟩ = false
  f2 : W.frozen? ⟨b, 2, none⟩ = false
  f3 : W.frozen? ⟨b, 3, none⟩ = false
  f4 : W.frozen? ⟨b, 4, none⟩ = false
variable {W W' : World} {b : Nat} {v0 v1 v2 v3 v4 : Value}
theorem B5.lt (h : B5 W b v0 v1 v2 v3 v4) : b < W.heap.size := World.block_lt_of_cell? W ⟨b, 0, none⟩ h.c0
theorem C5.lt (h : C5 W b v0 v1 v2 v3 v4) : b < W.heap.size := h.b5.lt
theorem C5.step (h : C5 W b v0 v1 v2 v3 v4) (hb : Below W.heap.size W W') : C5 W' b v0 v1 v2 v3 v4 :=
  ⟨h.b5.step hb, keepfree hb h.b5.c0 h.f0, keepfree hb h.b5.c1 h.f1, keepfree hb h.b5.c2 h.f2, keepfree hb h.b5.c3 h.f3, keepfree hb h.b5.c4 h.f4⟩
theorem C5.drew (h : C5 W b v0 v1 v2 v3 v4) : C5 W.drew b v0 v1 v2 v3 v4 := ⟨h.b5.drew, h.f0, h.f1, h.f2, h.f3, h.f4⟩
theorem C5.new (w : World) (v0 v1 v2 v3 v4 : Value) (T : TypeId) : C5 (w.alloc (.cells #[v0, v1, v2, v3, v4] T)) w.heap.size v0 v1 v2 v3 v4 :=
  ⟨B5.new w _ _ _ _ _ T, by rw [World.frozen?_alloc_at _ _ _ _ rfl], by rw [World.frozen?_alloc_at _ _ _ _ rfl], by rw [World.frozen?_alloc_at _ _ _ _ rfl], by rw [World.frozen?_alloc_at _ _ _ _ rfl], by rw [World.frozen?_alloc_at _ _ _ _ rfl]⟩
theorem B5.grown {row : Option Nat} (h : B5 W b v0 v1 v2 v3 v4) (hg : W.grownBy W' row) (hr : some b ≠ row) : B5 W' b v0 v1 v2 v3 v4 := by
  have hb : W'.heap[b]? = W.heap[b]? := hg.block b h.lt hr
  exact ⟨by rw [World.cell?_of_block (w := W) hb]; exact h.c0, by rw [World.cell?_of_block (w := W) hb]; exact h.c1, by rw [World.cell?_of_block (w := W) hb]; exact h.c2, by rw [World.cell?_of_block (w := W) hb]; exact h.c3, by rw [World.cell?_of_block (w := W) hb]; exact h.c4⟩
theorem C5.grown {row : Option Nat} (h : C5 W b v0 v1 v2 v3 v4) (hg : W.grownBy W' row) (hr : some b ≠ row) : C5 W' b v0 v1 v2 v3 v4 := by
  have hb : W'.heap[b]? = W.heap[b]? := hg.block b h.lt hr
  exact ⟨h.b5.grown hg hr, by rw [World.frozen?_of_block (w := W) hb]; exact h.f0, by rw [World.frozen?_of_block (w := W) hb]; exact h.f1, by rw [World.frozen?_of_block (w := W) hb]; exact h.f2, by rw [World.frozen?_of_block (w := W) hb]; exact h.f3, by rw [World.frozen?_of_block (w := W) hb]; exact h.f4⟩
theorem B5.far {p : Addr} {u : Value} (h : B5 W b v0 v1 v2 v3 v4) (hne : p.block ≠ b) : B5 (W.setCell p u) b v0 v1 v2 v3 v4 :=
  ⟨(World.cell?_setCell_other _ _ _ _ (fun e => hne (by rw [e]))).trans h.c0, (World.cell?_setCell_other _ _ _ _ (fun e => hne (by rw [e]))).trans h.c1, (World.cell?_setCell_other _ _ _ _ (fun e => hne (by rw [e]))).trans h.c2, (World.cell?_setCell_other _ _ _ _ (fun e => hne (by rw [e]))).trans h.c3, (World.cell?_setCell_other _ _ _ _ (fun e => hne (by rw [e]))).trans h.c4⟩
theorem C5.far {p : Addr} {u : Value} (h : C5 W b v0 v1 v2 v3 v4) (hne : p.block ≠ b) : C5 (W.setCell p u) b v0 v1 v2 v3 v4 :=
  ⟨h.b5.far hne, by rw [World.frozen?_setCell]; exact h.f0, by rw [World.frozen?_setCell]; exact h.f1, by rw [World.frozen?_setCell]; exact h.f2, by rw [World.frozen?_setCell]; exact h.f3, by rw [World.frozen?_setCell]; exact h.f4⟩
theorem B5.set0 (h : B5 W b v0 v1 v2 v3 v4) (u : Value) : B5 (W.setCell ⟨b, 0, none⟩ u) b u v1 v2 v3 v4 := by
  refine ⟨?_, ?_, ?_, ?_, ?_⟩ <;> first
    | exact World.cell?_setCell_same' _ _ _ (by rw [h.c0]; rfl)
    | (rw [World.cell?_setCell_other _ _ _ _ (fun e => by injection e with _ e; omega)]; first | exact h.c0 | exact h.c1 | exact h.c2 | exact h.c3 | exact h.c4)
theorem C5.set0 (h : C5 W b v0 v1 v2 v3 v4) (u : Value) : C5 (W.setCell ⟨b, 0, none⟩ u) b u v1 v2 v3 v4 :=
  ⟨h.b5.set0 u, by rw [World.frozen?_setCell]; exact h.f0, by rw [World.frozen?_setCell]; exact h.f1, by rw [World.frozen?_setCell]; exact h.f2, by rw [World.frozen?_setCell]; exact h.f3, by rw [World.frozen?_setCell]; exact h.f4⟩
theorem B5.set1 (h : B5 W b v0 v1 v2 v3 v4) (u : Value) : B5 (W.setCell ⟨b, 1, none⟩ u) b v0 u v2 v3 v4 := by
  refine ⟨?_, ?_, ?_, ?_, ?_⟩ <;> first
    | exact World.cell?_setCell_same' _ _ _ (by rw [h.c1]; rfl)
    | (rw [World.cell?_setCell_other _ _ _ _ (fun e => by injection e with _ e; omega)]; first | exact h.c0 | exact h.c1 | exact h.c2 | exact h.c3 | exact h.c4)
theorem C5.set1 (h : C5 W b v0 v1 v2 v3 v4) (u : Value) : C5 (W.setCell ⟨b, 1, none⟩ u) b v0 u v2 v3 v4 :=
  ⟨h.b5.set1 u, by rw [World.frozen?_setCell]; exact h.f0, by rw [World.frozen?_setCell]; exact h.f1, by rw [World.frozen?_setCell]; exact h.f2, by rw [World.frozen?_setCell]; exact h.f3, by rw [World.frozen?_setCell]; exact h.f4⟩
theorem B5.set2 (h : B5 W b v0 v1 v2 v3 v4) (u : Value) : B5 (W.setCell ⟨b, 2, none⟩ u) b v0 v1 u v3 v4 := by
  refine ⟨?_, ?_, ?_, ?_, ?_⟩ <;> first
    | exact World.cell?_setCell_same' _ _ _ (by rw [h.c2]; rfl)
    | (rw [World.cell?_setCell_other _ _ _ _ (fun e => by injection e with _ e; omega)]; first | exact h.c0 | exact h.c1 | exact h.c2 | exact h.c3 | exact h.c4)
theorem C5.set2 (h : C5 W b v0 v1 v2 v3 v4) (u : Value) : C5 (W.setCell ⟨b, 2, none⟩ u) b v0 v1 u v3 v4 :=
  ⟨h.b5.set2 u, by rw [World.frozen?_setCell]; exact h.f0, by rw [World.frozen?_setCell]; exact h.f1, by rw [World.frozen?_setCell]; exact h.f2, by rw [World.frozen?_setCell]; exact h.f3, by rw [World.frozen?_setCell]; exact h.f4⟩
theorem B5.set3 (h : B5 W b v0 v1 v2 v3 v4) (u : Value) : B5 (W.setCell ⟨b, 3, none⟩ u) b v0 v1 v2 u v4 := by
  refine ⟨?_, ?_, ?_, ?_, ?_⟩ <;> first
    | exact World.cell?_setCell_same' _ _ _ (by rw [h.c3]; rfl)
    | (rw [World.cell?_setCell_other _ _ _ _ (fun e => by injection e with _ e; omega)]; first | exact h.c0 | exact h.c1 | exact h.c2 | exact h.c3 | exact h.c4)
theorem C5.set3 (h : C5 W b v0 v1 v2 v3 v4) (u : Value) : C5 (W.setCell ⟨b, 3, none⟩ u) b v0 v1 v2 u v4 :=
  ⟨h.b5.set3 u, by rw [World.frozen?_setCell]; exact h.f0, by rw [World.frozen?_setCell]; exact h.f1, by rw [World.frozen?_setCell]; exact h.f2, by rw [World.frozen?_setCell]; exact h.f3, by rw [World.frozen?_setCell]; exact h.f4⟩
theorem B5.set4 (h : B5 W b v0 v1 v2 v3 v4) (u : Value) : B5 (W.setCell ⟨b, 4, none⟩ u) b v0 v1 v2 v3 u := by
  refine ⟨?_, ?_, ?_, ?_, ?_⟩ <;> first
    | exact World.cell?_setCell_same' _ _ _ (by rw [h.c4]; rfl)
    | (rw [World.cell?_setCell_other _ _ _ _ (fun e => by injection e with _ e; omega)]; first | exact h.c0 | exact h.c1 | exact h.c2 | exact h.c3 | exact h.c4)
theorem C5.set4 (h : C5 W b v0 v1 v2 v3 v4) (u : Value) : C5 (W.setCell ⟨b, 4, none⟩ u) b v0 v1 v2 v3 u :=
  ⟨h.b5.set4 u, by rw [World.frozen?_setCell]; exact h.f0, by rw [World.frozen?_setCell]; exact h.f1, by rw [World.frozen?_setCell]; exact h.f2, by rw [World.frozen?_setCell]; exact h.f3, by rw [World.frozen?_setCell]; exact h.f4⟩
/-- All five turned. -/
def put5 (W : World) (b : Nat) (u0 u1 u2 u3 u4 : Value) : World :=
  ((((W.setCell ⟨b, 0, none⟩ u0).setCell ⟨b, 1, none⟩ u1).setCell ⟨b, 2, none⟩ u2).setCell ⟨b, 3, none⟩ u3).setCell ⟨b, 4, none⟩ u4
theorem C5.put (h : C5 W b v0 v1 v2 v3 v4) (u0 u1 u2 u3 u4 : Value) : C5 (put5 W b u0 u1 u2 u3 u4) b u0 u1 u2 u3 u4 := ((((h.set0 u0).set1 u1).set2 u2).set3 u3).set4 u4
theorem below_put {B : Nat} {w : World} (h : Below B w W) (hb : B ≤ b) (u0 u1 u2 u3 u4 : Value) : Below B w (put5 W b u0 u1 u2 u3 u4) :=
  ((((h.setCell (p := ⟨b, 0, none⟩) hb u0).setCell (p := ⟨b, 1, none⟩) hb u1).setCell (p := ⟨b, 2, none⟩) hb u2).setCell (p := ⟨b, 3, none⟩) hb u3).setCell (p := ⟨b, 4, none⟩) hb u4
theorem own_no (w : World) (base : Nat) (e : TypeId) (sz : Nat) (h : base ≤ w.heap.size) : (w.alloc (.cells #[] e)).ownsRow base e sz (.slice (some ⟨w.heap.size, 0, none⟩) 0 0) 0 [] :=
  ⟨by simp, .inr ⟨w.heap.size, 0, #[], rfl, h, heap_alloc_new w _, Nat.le_refl _, by unfold maxLen; omega, by simp, by simp⟩⟩
theorem XO.empty {cs : El → List Value} {sz : Nat} {ty : TypeId} (w : World) (base : Nat) (h : base ≤ w.heap.size) : XO cs sz ty base (w.alloc (.cells #[] ty)) (.slice (some ⟨w.heap.size, 0, Option.none⟩) 0 0) 0 [] :=
  ⟨own_no w base ty sz h, fun e he => by simp at he, fun e he => by simp at he⟩
theorem row_block {w : World} {A : Option Addr} {n c : Nat} {zs : List Int} (h : Row w A n c zs) (hne : zs ≠ []) {ad : Addr} (hA : A = some ad) : ad.block < w.heap.size := by
  have h4 : 0 < n := by rw [← h.len]; exact List.length_pos_iff.2 hne
  obtain ⟨b, off, e3, hb, _⟩ := h.cells h4
  rw [hA] at e3
  injection e3 with e3
  subst e3
  exact hb
theorem XO.far {cs : El → List Value} {sz : Nat} {ty : TypeId} {base n g cap X j : Nat} {es : List El} {u : Value} (h : XO cs sz ty base W (.slice (some ⟨g, 0, Option.none⟩) n cap) n es) (hX : g ≠ X) (hr : ∀ e ∈ es, e.l ≠ [] → ∀ ad, e.A = some ad → ad.block ≠ X) :
    XO cs sz ty base (W.setCell ⟨X, j, Option.none⟩ u) (.slice (some ⟨g, 0, Option.none⟩) n cap) n es := by
  refine ⟨h.own.kept (row := some X) ⟨rfl, rfl, rfl, by simp [World.setCell], fun k _ hk => Below.heap_setCell _ _ _ _ (fun e => hk (by simp [e]))⟩ (.inr (by simp [Value.ownBlock]; exact hX)), fun e he => row_farj (h.rows e he) (hr e he), h.apart⟩
theorem TellJ.is {F : Nat → Prop} {w0 w' : World} {d : Ad} {r : Jp.Rn} (h : RM (More F w0) w' d r) (hb : Below w0.heap.size w0 w') : TellJ F w0 r (.returned (jv d r)) w' := ⟨d, rfl, h, hb⟩
theorem farcell {w : World} {b i X j : Nat} {u v : Value} (hne : b ≠ X) (h : w.cell? ⟨b, i, none⟩ = some v) : (w.setCell ⟨X, j, none⟩ u).cell? ⟨b, i, none⟩ = some v :=
  (World.cell?_setCell_other _ _ _ _ (fun e => by injection e with e; exact hne e.symm)).trans h
end Go.Proofs.YtdohnhdjlhaaaaaGreatDoor


/- What is told lies in blocks that are there. -/
namespace Go.Proofs.YtdohnhdjlhaaaaaGreatDoor
open Go.RowKit
set_option linter.unusedVariables false

/-- What is told lies in blocks that are there. -/
theorem LieE.bound {F : Nat → Prop} {cs : El → List Value} {sz : Nat} {w : World} {A : Option Addr} {n c : Nat} {es : List El} (h : LieE F A es) (hx : XR cs sz w A n c es) : LieE (fun b => F b ∧ b < w.heap.size) A es := by
  refine ⟨fun hne ad hA => ⟨h.1 hne ad hA, ?_⟩, fun e he hne ad hA => ⟨h.2 e he hne ad hA, row_block (hx.rows e he) hne hA⟩⟩
  obtain ⟨e0, he0⟩ : ∃ e, es[0]? = some e := ⟨_, List.getElem?_eq_getElem (List.length_pos_iff.2 hne)⟩
  obtain ⟨b, off, e1, hb, _⟩ := hx.cell 0 e0 he0
  rw [hA] at e1
  injection e1 with e1
  subst e1
  exact hb
theorem RM.bound {F : Nat → Prop} {w : World} {d : Ad} {r : Jp.Rn} (h : RM F w d r) : RM (fun b => F b ∧ b < w.heap.size) w d r := by
  obtain ⟨gs, h1, h2, h5⟩ := h.rings
  obtain ⟨ls, h3, h4, h6⟩ := h.rows
  refine ⟨h.tlen, h.tmax, h.fit, h.tree, fun hne ad hA => ⟨h.lie hne ad hA, ?_⟩, ⟨gs, h1, h2, h5.bound h1⟩, ⟨ls, h3, h4, h6.bound h3⟩, h.on, h.size⟩
  obtain ⟨x0, hx0⟩ : ∃ x, r.tree[0]? = some x := ⟨_, List.getElem?_eq_getElem (List.length_pos_iff.2 hne)⟩
  obtain ⟨b, off, e5, hb, _⟩ := h.tree 0 x0 hx0
  rw [hA] at e5
  injection e5 with e5
  subst e5
  exact hb
end Go.Proofs.YtdohnhdjlhaaaaaGreatDoor


/- slices.Clone at the tree, the rings, the rows, a row, by contracts: the same in memory of its own. -/
namespace Go.Proofs.YtdohnhdjlhaaaaaGreatDoor
open Go.RowKit
set_option linter.unusedVariables false

theorem XO.of_own {cs : El → List Value} {sz : Nat} {ty : TypeId} {base n : Nat} {w w' : World} {v : Value} {es : List El} (h : w'.ownsRow base ty sz v n (es.flatMap cs)) (hb : Below w.heap.size w w') (hB : w.heap.size ≤ base) (hr : ∀ e ∈ es, Row w e.A e.n e.c e.l) : XO cs sz ty base w' v n es :=
  ⟨h, fun e he => (hr e he).below hb, fun e he hne ad hA e2 => by have h1 := row_block (hr e he) hne hA; have h2 := (h.lt _ e2).1; omega⟩
theorem XR.news {cs : El → List Value} {sz : Nat} {w : World} {ad : Addr} {n c : Nat} {es : List El} (hcs : ∀ e, (cs e).length = sz) (h0 : 0 < sz) (h : XR cs sz w (some ad) n c es) : ∀ j u, (es.flatMap cs)[j]? = some u → w.cell? (ad.add j) = some u := by
  cases es with
  | nil => intro j u hj; simp at hj
  | cons y ys =>
    obtain ⟨b, off, e, _⟩ := h.cell 0 y rfl
    injection e with e
    subst e
    exact h.flat hcs h0
/-- What a clone leaves. -/
def MadeX (cs : El → List Value) (sz : Nat) (ty : TypeId) (n : Nat) (es : List El) (w0 : World) (e : Ending) (w' : World) : Prop :=
  ∃ v, e = .returned v ∧ XO cs sz ty w0.heap.size w' v n es ∧ Below w0.heap.size w0 w'
set_option maxHeartbeats 1000000 in
theorem cloneG_any (A : Option Addr) (n c : Nat) (es : List El) (w : World) (h : XR csG 2 w A n c es) (hl : n ≤ 1000) :
    Calls Tryz.prog 65 #[.slice A n c] w (MadeX csG 2 54 n es w) := by
  cases A with
  | none =>
    have h1 := h.cap
    have h2 := h.len
    have h3 := h.nil rfl
    obtain rfl : n = 0 := by omega
    obtain rfl := List.length_eq_zero_iff.1 h2
    clear h h1 h2 h3
    have hE : ∀ W, (binOp .eql 30 (.slice none 0 c) (.slice none 0 0)).run Tryz.prog W = .ok (.bool true) W := fun W => by kernel_rfl
    go_enter Tryz.func65, Tryz.ntmps65
    go_wp2_with fail
    go_ret
    exact ⟨_, rfl, XO.none _ _, Below.refl _ _⟩
  | some ad =>
    obtain ⟨i0, hi, hz0, hz1, hz2⟩ := info_parts info_ring
    have hb1 := below_new w (.cells #[] 54)
    have hO := own_no w w.heap.size 54 2 (Nat.le_refl _)
    have HC := Lib.hid ((h.below hb1).news csG_len (by decide))
    have HL := Lib.hid (show (es.flatMap csG).length = n * 2 by rw [flat_len csG_len, h.len])
    have HR := Lib.hid h.rows
    clear h hb1
    have hE : ∀ W, (binOp .eql 30 (.slice (some ad) n c) (.slice none 0 0)).run Tryz.prog W = .ok (.bool false) W := fun W => by kernel_rfl
    go_enter Tryz.func65, Tryz.ntmps65
    go_wp2_with (refine wpList_append_own _ (by rfl) _ _ _ (by rfl) w.heap.size 54 i0 _ 2 32 Tryz.underlying30 hi hz0 hz1 hz2 rfl (by decide) (.slice (some ⟨w.heap.size, 0, none⟩) 0 0) 0 [] (by rfl) hO ad n c (es.flatMap csG) (by rfl) HL.out HC.out (csG_one es) (by unfold maxLen; omega) (by omega) (by simp) ?_; intro v' w' ho hg _)
    go_ret
    have hb := ((below_new w (.cells #[] 54)).grown hg (by simp) (fun k e => by simp [Value.ownBlock] at e; omega))
    rw [List.nil_append, Nat.zero_add] at ho
    exact ⟨_, rfl, XO.of_own ho hb (Nat.le_refl _) HR.out, hb⟩
set_option maxHeartbeats 1000000 in
theorem cloneL_any (A : Option Addr) (n c : Nat) (es : List El) (w : World) (h : XR csL 1 w A n c es) (hl : n ≤ 1000) :
    Calls Tryz.prog 67 #[.slice A n c] w (MadeX csL 1 42 n es w) := by
  cases A with
  | none =>
    have h1 := h.cap
    have h2 := h.len
    have h3 := h.nil rfl
    obtain rfl : n = 0 := by omega
    obtain rfl := List.length_eq_zero_iff.1 h2
    clear h h1 h2 h3
    have hE : ∀ W, (binOp .eql 24 (.slice none 0 c) (.slice none 0 0)).run Tryz.prog W = .ok (.bool true) W := fun W => by kernel_rfl
    go_enter Tryz.func67, Tryz.ntmps67
    go_wp2_with fail
    go_ret
    exact ⟨_, rfl, XO.none _ _, Below.refl _ _⟩
  | some ad =>
    obtain ⟨i0, hi, hz0, hz1, hz2⟩ := info_parts info_rows
    have hb1 := below_new w (.cells #[] 42)
    have hO := own_no w w.heap.size 42 1 (Nat.le_refl _)
    have HC := Lib.hid ((h.below hb1).news csL_len (by decide))
    have HL := Lib.hid (show (es.flatMap csL).length = n * 1 by rw [flat_len csL_len, h.len])
    have HR := Lib.hid h.rows
    clear h hb1
    have hE : ∀ W, (binOp .eql 24 (.slice (some ad) n c) (.slice none 0 0)).run Tryz.prog W = .ok (.bool false) W := fun W => by kernel_rfl
    go_enter Tryz.func67, Tryz.ntmps67
    go_wp2_with (refine wpList_append_own _ (by rfl) _ _ _ (by rfl) w.heap.size 42 i0 _ 1 24 Tryz.underlying24 hi hz0 hz1 hz2 rfl (by decide) (.slice (some ⟨w.heap.size, 0, none⟩) 0 0) 0 [] (by rfl) hO ad n c (es.flatMap csL) (by rfl) HL.out HC.out (csL_one es) (by unfold maxLen; omega) (by omega) (by simp) ?_; intro v' w' ho hg _)
    go_ret
    have hb := ((below_new w (.cells #[] 42)).grown hg (by simp) (fun k e => by simp [Value.ownBlock] at e; omega))
    rw [List.nil_append, Nat.zero_add] at ho
    exact ⟨_, rfl, XO.of_own ho hb (Nat.le_refl _) HR.out, hb⟩
/-- .. at the tree. -/
def MadeV (n : Nat) (vs : List (Int × Int)) (w0 : World) (e : Ending) (w' : World) : Prop :=
  ∃ A c, e = .returned (.slice A n c) ∧ VRow w' w'.heap.size A vs ∧ From w0.heap.size A ∧ Below w0.heap.size w0 w'
set_option maxHeartbeats 1000000 in
theorem cloneV_any (A : Option Addr) (n c : Nat) (vs : List (Int × Int)) (w : World) (hn : vs.length = n) (h : VRow w w.heap.size A vs) (hl : n ≤ 1000) :
    Calls Tryz.prog 64 #[.slice A n c] w (MadeV n vs w) := by
  cases A with
  | none =>
    have hv : vs = [] := by
      cases vs with
      | nil => rfl
      | cons y ys => obtain ⟨b, off, e, _⟩ := h 0 y rfl; cases e
    subst hv
    obtain rfl : n = 0 := by rw [← hn]; rfl
    clear h
    have hE : ∀ W, (binOp .eql 22 (.slice none 0 c) (.slice none 0 0)).run Tryz.prog W = .ok (.bool true) W := fun W => by kernel_rfl
    go_enter Tryz.func64, Tryz.ntmps64
    go_wp2_with fail
    go_ret
    exact ⟨none, 0, rfl, fun i z hi => by simp at hi, From.none _, Below.refl _ _⟩
  | some ad =>
    obtain ⟨i0, hi, hz0, hz1, hz2⟩ := info_parts info_vx
    have hb1 := below_new w (.cells #[] 57)
    have hO := own_no w w.heap.size 57 2 (Nat.le_refl _)
    have HC := Lib.hid (show ∀ j u, (vcells vs)[j]? = some u → (w.alloc (.cells #[] 57)).cell? (ad.add j) = some u by
      cases vs with
      | nil => intro j u hj; simp [vcells_nil] at hj
      | cons y ys =>
        have h2 := (h.below hb1)
        obtain ⟨b, off, e, _⟩ := h2 0 y rfl
        injection e with e
        subst e
        exact h2.cells)
    have HL := Lib.hid (show (vcells vs).length = n * 2 by rw [vcells_length, hn])
    clear h hb1
    have hE : ∀ W, (binOp .eql 22 (.slice (some ad) n c) (.slice none 0 0)).run Tryz.prog W = .ok (.bool false) W := fun W => by kernel_rfl
    go_enter Tryz.func64, Tryz.ntmps64
    go_wp2_with (refine wpList_append_own _ (by rfl) _ _ _ (by rfl) w.heap.size 57 i0 _ 2 16 Tryz.underlying22 hi hz0 hz1 hz2 rfl (by decide) (.slice (some ⟨w.heap.size, 0, none⟩) 0 0) 0 [] (by rfl) hO ad n c (vcells vs) (by rfl) HL.out HC.out (vcells_one' vs) (by unfold maxLen; omega) (by omega) (by simp) ?_; intro v' w' ho hg _)
    go_ret
    have hb := ((below_new w (.cells #[] 57)).grown hg (by simp) (fun k e => by simp [Value.ownBlock] at e; omega))
    rw [List.nil_append, Nat.zero_add] at ho
    obtain ⟨A', c', rfl⟩ := own_form ho
    exact ⟨A', c', rfl, VRow.of_own ho, fun ad' e => by subst e; exact (ho.lt _ rfl).1, hb⟩
set_option maxHeartbeats 1000000 in
theorem cloneI_any (A : Option Addr) (n c : Nat) (zs : List Int) (w : World) (h : Row w A n c zs) (hl : n ≤ 1000) :
    Calls Tryz.prog 66 #[.slice A n c] w fun e w' => ∃ v, e = .returned v ∧ w'.ownsRow w.heap.size 3 1 v n (zs.map (Value.int .i64)) ∧ Below w.heap.size w w' := by
  cases A with
  | none =>
    have h1 := h.cap
    have h2 := h.len
    have h3 := h.nil rfl
    obtain rfl : n = 0 := by omega
    obtain rfl := List.length_eq_zero_iff.1 h2
    clear h h1 h2 h3
    have hE : ∀ W, (binOp .eql 42 (.slice none 0 c) (.slice none 0 0)).run Tryz.prog W = .ok (.bool true) W := fun W => by kernel_rfl
    go_enter Tryz.func66, Tryz.ntmps66
    go_wp2_with fail
    go_ret
    exact ⟨_, rfl, World.ownsRow_nil _ _ _ _, Below.refl _ _⟩
  | some ad =>
    have B1 := Lib.hid (below_new w (.cells #[] 3))
    have O1 := Lib.hid (own_no w w.heap.size 3 1 (Nat.le_refl _))
    have H := Lib.hid h
    clear h
    have hE : ∀ W, (binOp .eql 42 (.slice (some ad) n c) (.slice none 0 0)).run Tryz.prog W = .ok (.bool false) W := fun W => by kernel_rfl
    go_enter Tryz.func66, Tryz.ntmps66
    go_wp2_with (at_builtin; refine wpList_append_row rfl _ _ rfl w.heap.size (.slice (some ⟨w.heap.size, 0, none⟩) 0 0) 0 [] rfl O1.out (some ad) n c zs rfl (H.out.below B1.out) (by omega) B1.out.size ?_; intro v' w3 hown hg)
    have B3 := Lib.hid (B1.out.grown hg B1.out.size (fun k hk => (O1.out.lt k hk).1))
    rw [List.nil_append, Nat.zero_add] at hown
    go_ret
    exact ⟨_, rfl, hown, B3.out⟩
end Go.Proofs.YtdohnhdjlhaaaaaGreatDoor


/- runs.eachOnce, by its contract: a closure that keeps whom it met in a map. -/
namespace Go.Proofs.YtdohnhdjlhaaaaaGreatDoor
open Go.RowKit
set_option linter.unusedVariables false

theorem jkeyed : Go.Maps.Keyed Tryz.prog 3 := Go.Maps.int_keyed Tryz.underlying3
theorem jzero (w : World) : (zeroValue 103).run Tryz.prog w = .ok (.agg #[]) w := by kernel_rfl
theorem jkey_of {g : Int} (h : In64 g) : keyOf Tryz.prog 3 (.int .i64 g) = some (.int .i64 g) := by
  refine Go.Maps.keyOf_int_mk Tryz.underlying3 ?_
  unfold In64 at h
  simpa [Lit.wf, IntKind.min, IntKind.max, IntKind.signed, IntKind.bits] using h
theorem jtight {H : Type} {P : Program} {k : TypeId} {R : Value → Option (DataW H × List MemPlace)} {w : World} {b n : Nat} {D : DataW H} (h : w.ownsMap P k R b n D) {n' : Nat} (hn : Maps.size D ≤ n') : w.ownsMap P k R b n' D := by
  obtain ⟨es, clock, hb, F, hs, rfl⟩ := h
  refine ⟨es, clock, hb, F, ?_, rfl⟩
  simpa [Maps.size, length_sorted] using hn
/-- Block m is a map whose keys are these numbers. -/
def MetM (W : World) (m : Nat) (l : List Int) : Prop :=
  ∃ D : DataW Unit, W.ownsMap Tryz.prog 3 unitElem m l.length D ∧ (∀ g : Int, Maps.has D (.int .i64 g) = l.contains g) ∧ Maps.size D = l.length
theorem MetM.lt {W : World} {m : Nat} {l : List Int} (h : MetM W m l) : m < W.heap.size := by obtain ⟨D, hD, _⟩ := h; exact hD.lt
theorem MetM.keep {W W' : World} {m : Nat} {l : List Int} (h : MetM W m l) (hk : W'.heap[m]? = W.heap[m]?) : MetM W' m l := by
  obtain ⟨D, ⟨es, clock, hb, r⟩, h2⟩ := h
  exact ⟨D, ⟨es, clock, hk.trans hb, r⟩, h2⟩
theorem MetM.made (w : World) : MetM (w.alloc (.map #[] 0)) w.heap.size [] :=
  ⟨.map [], (World.ownsMap_made w Tryz.prog 3 unitElem).mono (by simp), fun g => rfl, rfl⟩
theorem MetM.put {W : World} {m n : Nat} {l : List Int} {D : DataW Unit} {g : Int} (hk : In64 g) (h0 : ∀ g : Int, Maps.has D (.int .i64 g) = l.contains g) (hs : Maps.size D = l.length) (ht : Go.Maps.Tidy D) (hg : g ∉ l)
    (h : W.ownsMap Tryz.prog 3 unitElem m n (D.put (.int .i64 g) (.agg []))) : MetM W m (l ++ [g]) := by
  have hkl := jkeyed.key (jkey_of hk)
  have h1 : Maps.has D (.int .i64 g) = false := by rw [h0, ← Bool.not_eq_true, List.contains_iff_mem]; exact hg
  have hsz : Maps.size (D.put (.int .i64 g) (.agg [])) = l.length + 1 := by rw [Go.Maps.size_put ht, h1]; simp [hs]
  refine ⟨_, jtight h (by rw [hsz]; simp), fun z => ?_, by rw [hsz]; simp⟩
  by_cases e : z = g
  · subst e
    rw [Go.Maps.has_put_same ht.isMap hkl]
    simp
  · rw [Go.Maps.has_put_other (fun e' => e (by injection e')), h0, Bool.eq_iff_iff, List.contains_iff_mem, List.contains_iff_mem, List.mem_append, List.mem_singleton]
    exact ⟨.inl, fun h => h.resolve_right e⟩
/-- Nothing but block m has turned. -/
structure Sv (m : Nat) (w w' : World) : Prop where
  os : w'.os = w.os
  tape : w'.tape = w.tape
  output : w'.output = w.output
  size : w.heap.size ≤ w'.heap.size
  block : ∀ k, k < w.heap.size → k ≠ m → w'.heap[k]? = w.heap[k]?
theorem Sv.refl (m : Nat) (w : World) : Sv m w w := ⟨rfl, rfl, rfl, Nat.le_refl _, fun _ _ _ => rfl⟩
theorem Sv.trans {m : Nat} {a b c : World} (h : Sv m a b) (k : Sv m b c) : Sv m a c :=
  ⟨k.os.trans h.os, k.tape.trans h.tape, k.output.trans h.output, Nat.le_trans h.size k.size, fun i hi hn => (k.block i (Nat.lt_of_lt_of_le hi h.size) hn).trans (h.block i hi hn)⟩
theorem Sv.of_grown {m : Nat} {a b : World} (h : a.grownBy b (some m)) : Sv m a b := ⟨h.os, h.tape, h.output, h.size, fun i hi hn => h.block i hi (fun e => hn (by injection e))⟩
theorem Sv.of_below {m : Nat} {a b : World} (h : Below a.heap.size a b) : Sv m a b := ⟨h.os, h.tape, h.output, h.size, fun i hi _ => h.block i hi⟩
theorem Sv.below {m : Nat} {w0 w w' : World} {B : Nat} (h : Sv m w w') (hb : Below B w0 w) (hF : B ≤ m) (hB : B ≤ w.heap.size) : Below B w0 w' :=
  ⟨h.os.trans hb.os, h.tape.trans hb.tape, h.output.trans hb.output, Nat.le_trans hb.size h.size, fun k hk => (h.block k (by omega) (by omega)).trans (hb.block k hk)⟩
theorem Sv.cell {m : Nat} {w w' : World} {a : Addr} {v : Value} (h : Sv m w w') (hc : w.cell? a = some v) (hn : a.block ≠ m) : w'.cell? a = some v :=
  (World.cell?_of_block (w := w) (h.block a.block (World.block_lt_of_cell? _ _ hc) hn)).trans hc
theorem jonce_snoc {l : List Int} {g : Int} : Rp.Once (l ++ [g]) ↔ Rp.Once l ∧ g ∉ l ∧ 1 ≤ g := by
  constructor
  · intro h
    exact ⟨h.left, fun hm => (List.nodup_append.1 h.2).2.2 g hm g (by simp) rfl, h.1 g (by simp)⟩
  · intro h
    exact h.1.snoc h.2.2 h.2.1
set_option maxRecDepth 100000 in
set_option maxHeartbeats 1000000 in
theorem wrong_any (g : Int) (mb m : Nat) (l : List Int) (w : World) (hc : w.cell? ⟨mb, 0, none⟩ = some (.map (some m))) (hM : MetM w m l) (hne : mb ≠ m) (hg : In64 g) (hl : l.length ≤ 1000000) :
    Calls Tryz.prog 88 #[.int .i64 g, .pointer (some ⟨mb, 0, none⟩)] w fun e w' => e = .returned (.bool (!decide (g ∉ l ∧ 1 ≤ g))) ∧ Sv m w w' ∧ (g ∉ l → MetM w' m (l ++ [g])) := by
  obtain ⟨D, hD, hh, hs⟩ := hM
  have HC := Lib.hid (hh g)
  have HH := Lib.hid hh
  have HS := Lib.hid hs
  have HT := Lib.hid (hD.tidy jkeyed)
  have HD := Lib.hid hD
  have hkey := jkey_of hg
  have hkey2 := jkey_of hg
  have hb1 := below_new w (.cells #[] 103)
  have hD1 : (w.alloc (.cells #[] 103)).ownsMap Tryz.prog 3 unitElem m l.length D := by
    have hlt := hD.lt
    obtain ⟨es, clock, hb, r⟩ := hD
    exact ⟨es, clock, (hb1.block m hlt).trans hb, r⟩
  have c1 := keepcell hb1 hc
  have HB1 := Lib.hid hb1
  have HLN := Lib.hid hl
  clear hh hs hb1 hl
  go_enter Tryz.func88, Tryz.ntmps88
  go_wp2_with (first | (at_lookup; refine wpList_lookup_own_unit _ rfl _ _ 102 rfl 3 103 jkeyed Tryz.underlying102 (jzero _) m l.length D rfl hD _ _ rfl hkey ?_) | (at_mapUpdate; refine wpList_mapUpdate_own _ rfl _ _ _ 102 rfl 3 103 jkeyed Tryz.underlying102 (unitElem (H := Unit)) m l.length _ rfl hD1 (by have := HLN.out; unfold maxLen; omega) _ _ _ rfl rfl hkey2 _ [] unitElem_mk ?_; intro w2 hown hg2) | go_in)
  · rename_i hhas
    have hin : g ∈ l := by have := HC.out; rw [hhas] at this; exact List.contains_iff_mem.1 this.symm
    have HSV := Lib.hid ((Sv.of_below HB1.out).trans (Sv.of_grown hg2))
    clear hown hg2
    go_ret
    exact ⟨ret_bool (by simp [hin]), HSV.out, fun hn => absurd hin hn⟩
  · rename_i hhas
    have hni : g ∉ l := fun hm => hhas (by rw [HC.out]; exact List.contains_iff_mem.2 hm)
    have HSV := Lib.hid ((Sv.of_below HB1.out).trans (Sv.of_grown hg2))
    have HMM := Lib.hid (MetM.put hg HH.out HS.out HT.out hni hown)
    clear hown hg2
    go_ret
    refine ⟨ret_bool ?_, HSV.out, fun _ => HMM.out⟩
    by_cases h1 : g < 1
    · have : ¬ 1 ≤ g := by omega
      simp [h1, this]
    · have : 1 ≤ g := by omega
      simp [h1, this, hni]
theorem enters3 (args : Array Value) (w : World) : (callFunc 88 args).run Tryz.prog w = .ok (.enter 88 args) w := by kernel_rfl
theorem jonce_take {zs : List Int} {k : Nat} {z : Int} (hz : zs[k]? = some z) : Rp.Once (zs.take (k + 1)) ↔ Rp.Once (zs.take k) ∧ z ∉ zs.take k ∧ 1 ≤ z := by
  rw [List.take_add_one, hz]
  exact jonce_snoc
theorem jonce_cut {zs : List Int} (k : Nat) (h : Rp.Once zs) : Rp.Once (zs.take k) := by
  rw [← List.take_append_drop k zs] at h
  exact h.left
set_option maxRecDepth 100000 in
set_option maxHeartbeats 1000000 in
theorem indexM_any (A : Option Addr) (n c : Nat) (zs : List Int) (mb m : Nat) (w : World) (h : Row w A n c zs) (hn : n ≤ 1000000) (hi : ∀ z ∈ zs, In64 z) (hc : w.cell? ⟨mb, 0, none⟩ = some (.map (some m))) (hM : MetM w m []) (hne : mb ≠ m) (hA : ∀ ad, A = some ad → zs ≠ [] → ad.block ≠ m) :
    Calls Tryz.prog 107 #[.slice A n c, .func (.func 88) #[] #[.pointer (some ⟨mb, 0, none⟩)]] w fun e w' =>
      (∃ k : Int, e = .returned (.int .i64 k) ∧ (k < 0 ↔ Rp.Once zs)) ∧ Sv m w w' := by
  have H := Lib.hid h
  have hlen := h.len
  have HI := Lib.hid hi
  have HC := Lib.hid hc
  have HM := Lib.hid hM
  have HA0 := Lib.hid hA
  have HNN := Lib.hid hn
  have hent := enters3
  have hmx := h.most
  have hcp := h.cap
  clear h hi hc hM hA hn
  go_enter Tryz.func107, Tryz.ntmps107
  go_wp2_with fail
  go_loopw [8] (fun i wr => ∃ k : Nat, k ≤ n ∧ i = .int .i64 k ∧ Hid (Sv m w wr) ∧ Hid (MetM wr m (zs.take k)) ∧ Hid (Rp.Once (zs.take k))) (fun i _ => n - (intOf i).toNat)
  case atStart => exact ⟨0, Nat.zero_le _, rfl, Lib.hid (Sv.refl _ _), HM, Lib.hid ⟨fun x hx => by simp at hx, by simp⟩⟩
  case round =>
    obtain ⟨k, hk, rfl, HW, HMK, HOK⟩ := hrel
    by_cases hlt : k < n
    · obtain ⟨z, hz⟩ : ∃ z, zs[k]? = some z := ⟨_, List.getElem?_eq_getElem (by omega)⟩
      obtain ⟨b, off, rfl, _, hcs⟩ := H.out.cells (by omega)
      have c0 := HW.out.cell (hcs k z hz) (by exact HA0.out ⟨b, off, none⟩ rfl (fun e => by rw [e] at hz; simp at hz))
      have HZ := Lib.hid (jonce_take hz)
      have HZT := Lib.hid (show zs.take (k + 1) = zs.take k ++ [z] by rw [List.take_add_one, hz]; rfl)
      have hC := Lib.hid (wrong_any z mb m (zs.take k) wr (HW.out.cell HC.out hne) HMK.out hne (HI.out z (List.mem_of_getElem? hz)) (by rw [List.length_take]; have := HNN.out; omega))
      have i0 : (0 : Int) ≤ (k : Int) := by omega
      have i1 : (k : Int) < (n : Int) := by omega
      clear hcs hz
      go_wp2_with fail
      refine hC.out.mono ?_
      rintro e w2 ⟨rfl, hsv, hmm⟩
      have HW2 := Lib.hid (HW.out.trans hsv)
      have HMM := Lib.hid hmm
      clear hsv hmm c0 hC
      by_cases hq : z ∉ zs.take k ∧ 1 ≤ z
      · have hd : (!decide (z ∉ zs.take k ∧ 1 ≤ z)) = false := by simp [hq]
        rw [hd]
        have HM2 := Lib.hid (show MetM w2 m (zs.take (k + 1)) by rw [HZT.out]; exact HMM.out hq.1)
        have HO2 := Lib.hid (HZ.out.2 ⟨HOK.out, hq⟩)
        clear hq hd
        go_wp2_with fail
        go_roundw
        case rel => exact ⟨k + 1, by omega, by go_num, HW2, HM2, HO2⟩
        case measure => simp [intOf]; omega
      · have hd : (!decide (z ∉ zs.take k ∧ 1 ≤ z)) = true := by simp only [hq, decide_false, Bool.not_false]
        rw [hd]
        have HN := Lib.hid (show ¬ Rp.Once zs from fun h => hq (HZ.out.1 (jonce_cut (k + 1) h)).2)
        clear hq hd
        go_wp2_with fail
        go_ret
        exact ⟨⟨k, rfl, ⟨fun h => by omega, fun h => absurd h HN.out⟩⟩, HW2.out⟩
    · obtain rfl : k = n := by omega
      have HO := Lib.hid (show Rp.Once zs by have := HOK.out; rw [List.take_of_length_le (by omega)] at this; exact this)
      go_wp2_with fail
      go_ret
      exact ⟨⟨-1, rfl, ⟨fun _ => HO.out, fun _ => by decide⟩⟩, HW.out⟩
theorem containsM_any (A : Option Addr) (n c : Nat) (zs : List Int) (mb m : Nat) (w : World) (h : Row w A n c zs) (hn : n ≤ 1000000) (hi : ∀ z ∈ zs, In64 z) (hc : w.cell? ⟨mb, 0, none⟩ = some (.map (some m))) (hM : MetM w m []) (hne : mb ≠ m) (hA : ∀ ad, A = some ad → zs ≠ [] → ad.block ≠ m) :
    Calls Tryz.prog 89 #[.slice A n c, .func (.func 88) #[] #[.pointer (some ⟨mb, 0, none⟩)]] w fun e w' =>
      e = .returned (.bool (!decide (Rp.Once zs))) ∧ Sv m w w' := by
  have HC := Lib.hid (indexM_any A n c zs mb m w h hn hi hc hM hne hA)
  clear h hn hi hc hM hA
  go_enter Tryz.func89, Tryz.ntmps89
  go_wp2_with fail
  refine HC.out.mono ?_
  rintro e w1 ⟨⟨k, rfl, hk⟩, hsv⟩
  have HS := Lib.hid hsv
  have HK := Lib.hid hk
  clear HC hsv hk
  by_cases h0 : k < 0
  · go_wp2_with fail
    go_ret
    exact ⟨ret_bool (by simp [HK.out.1 h0]; omega), HS.out⟩
  · have h1 : 0 ≤ k := by omega
    have hno : ¬ Rp.Once zs := fun h => h0 (HK.out.2 h)
    have HNO := Lib.hid hno
    clear hno
    go_wp2_with fail
    go_ret
    exact ⟨ret_bool (by simp [HNO.out]), HS.out⟩
set_option maxRecDepth 100000 in
theorem eachOnce_any (A : Option Addr) (n c : Nat) (zs : List Int) (w : World) (h : Row w A n c zs) (hn : n ≤ 1000000) (hi : ∀ z ∈ zs, In64 z) :
    Calls Tryz.prog 48 #[.slice A n c] w fun e w' => e = .returned (.bool (decide (Rp.Once zs))) ∧ Below w.heap.size w w' := by
  obtain ⟨V, hV⟩ : ∃ V, V = (w.alloc (.map #[] 0)).alloc (.cells #[.map (some w.heap.size)] 102) := ⟨_, rfl⟩
  have hb1 := below_new w (.map #[] 0)
  have hs1 : (w.alloc (.map #[] 0)).heap.size = w.heap.size + 1 := by simp
  have hb2 := below_new (w.alloc (.map #[] 0)) (.cells #[.map (some w.heap.size)] 102)
  have hbV : Below w.heap.size w V := by rw [hV]; exact hb1.trans (hb2.mono hb1.size)
  have hc : V.cell? ⟨w.heap.size + 1, 0, none⟩ = some (.map (some w.heap.size)) := by rw [hV, ← hs1, World.cell?_alloc_at _ _ _ _ rfl]; rfl
  have hM : MetM V w.heap.size [] := by rw [hV]; exact (MetM.made w).keep (hb2.block _ (by simp))
  have HC := Lib.hid (containsM_any A n c zs (w.heap.size + 1) w.heap.size V (h.below hbV) hn hi hc hM (by omega) (fun ad hA hne => by have := row_block h hne hA; omega))
  have HB := Lib.hid hbV
  have E := Lib.hid hV
  have HSZ := Lib.hid (show w.heap.size ≤ V.heap.size from hbV.size)
  clear h hn hi hc hM hbV hb2 hs1 hb1 hV
  have hmm := @run_makeMap Tryz.prog
  go_enter Tryz.func48, Tryz.ntmps48
  go_wp2_with (rw [← E.out])
  refine HC.out.mono ?_
  rintro e w1 ⟨rfl, hsv⟩
  have HS := Lib.hid (hsv.below HB.out (Nat.le_refl _) HSZ.out)
  clear HC hsv
  go_wp2_with fail
  go_ret
  exact ⟨ret_bool (by simp), HS.out⟩
end Go.Proofs.YtdohnhdjlhaaaaaGreatDoor

