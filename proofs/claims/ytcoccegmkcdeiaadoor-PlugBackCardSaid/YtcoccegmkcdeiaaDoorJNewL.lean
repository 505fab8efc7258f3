/- runs.New, by its contract. (Written by wip/gen/gen_jnew.py: change that.) -/
import Derived.Test.YtcoccegmkcdeiaaDoorM7
import Derived.Test.YtcoccegmkcdeiaaDoorM13
import Derived.Deep.DeepCutAuto
namespace Go.Proofs.YtcoccegmkcdeiaaDoor
open Go.RowKit
set_option linter.unusedVariables false

theorem step_make_full {w : World} {ops : Array Oper} {o : Oper} {a : Act} {K : Act → World → Prop} {Q : Exit → Act → World → Prop} {E : Prop} (hgd : o.guard = none) (l c : Operand) (t : TypeId) (hop : o.op = Op.makeSlice t l c)
    (base : Nat) (e : TypeId) (i : TypeInfo) (z : Value) (size : Nat) (h1 : Tryd.prog.underlying t = some (.slice e)) (h2 : Tryd.prog.info? e = some i) (h3 : i.zero = some z) (h4 : i.size = size)
    (n : Nat) (hl : a.eval l = .int .i64 (n : Int)) (hc : a.eval c = .int .i64 (n : Int)) (b2 : i.bytes * n ≤ 281474976710656) (b3 : n ≤ maxLen) (b4 : base ≤ w.heap.size)
    (hK : ∀ w', w'.ownsRow base e size (.slice (some ⟨w.heap.size, 0, none⟩) n n) n (madeCells z.cells (n * size)).toList → w.grownBy w' none → K (a.put o.dst (.slice (some ⟨w.heap.size, 0, none⟩) n n)) w') :
    if Region.wanted o (yielded ops a.tmps) = true then Oper.wp Tryd.prog o a w K Q else E := by
  obtain ⟨w', hrun, r1, r2⟩ := run_make_full (P := Tryd.prog) w base t e i z size h1 h2 h3 h4 .i64 .i64 n b2 b3 b4
  have hw : Region.wanted o (yielded ops a.tmps) = true := by simp [Region.wanted, hgd]
  rw [if_pos hw]
  unfold Oper.wp
  simp [execOp, hop, hl, hc, hrun, Result.andThen]
  exact hK w' r1 r2
theorem made_rings (n : Nat) : (madeCells (Value.agg #[.int .i64 0, .slice none 0 0]).cells (n * 2)).toList = (List.replicate n noRing).flatMap csG := by
  have hc : (Value.agg #[.int .i64 0, .slice none 0 0]).cells = #[.int .i64 0, .slice none 0 0] := rfl
  rw [hc]
  apply List.ext_getElem?
  intro j
  by_cases hj : j < n * 2
  · have h2 : (List.replicate n noRing)[j / 2]? = some noRing := by rw [List.getElem?_replicate, if_pos (by omega)]
    have h3 := flat_at csG_len (List.replicate n noRing) (j / 2) noRing (j % 2) h2 (by omega)
    rw [show j / 2 * 2 + j % 2 = j by omega] at h3
    rw [h3]
    unfold madeCells
    rw [Array.getElem?_toList, Array.getElem?_map, Array.getElem?_range, if_pos hj]
    rcases Nat.mod_two_eq_zero_or_one j with h | h <;> simp [h, csG, noRing]
  · rw [List.getElem?_eq_none (by simp [madeCells]; omega), List.getElem?_eq_none (by rw [flat_len csG_len]; simp; omega)]
theorem made_rows (n : Nat) : (madeCells (Value.slice none 0 0).cells (n * 1)).toList = (List.replicate n noRing).flatMap csL := by
  have hc : (Value.slice none 0 0).cells = #[.slice none 0 0] := rfl
  rw [hc, Nat.mul_one, toList_madeCells_one]
  induction n with
  | zero => rfl
  | succ n ih => rw [List.replicate_succ, List.replicate_succ, List.flatMap_cons, ← ih]; rfl
/-- What the struct's region leaves. -/
structure NwR (w1 : World) (vs : List (Int × Int)) (nt np nn : Nat) (size : Int) (on : Nat) (A1 : Option Addr) (c1 gR gS N : Nat) (W : World) : Prop where
  tree : VRow W W.heap.size A1 vs
  treeF : From w1.heap.size A1
  rings : XO csG 2 45 w1.heap.size W (.slice (some ⟨gR, 0, none⟩) np np) np (List.replicate np noRing)
  rows : XO csL 1 42 w1.heap.size W (.slice (some ⟨gS, 0, none⟩) nn nn) nn (List.replicate nn noRing)
  box : C5 W N (.slice A1 nt c1) (.int .i64 size) (.slice (some ⟨gR, 0, none⟩) np np) (.slice (some ⟨gS, 0, none⟩) nn nn) (.int .u64 (on : Nat))
  tN : ∀ ad, A1 = some ad → ad.block ≠ N
  rN : gR ≠ N
  sN : gS ≠ N
  low : w1.heap.size ≤ N
  below : Below w1.heap.size w1 W
theorem NwR.of {w1 W : World} {vs : List (Int × Int)} {nt np nn : Nat} {size : Int} {A1 : Option Addr} {c1 gR gS N : Nat} {v0 v1 v2 v3 v4 : Value} (tree : VRow W W.heap.size A1 vs) (treeF : From w1.heap.size A1)
    (rings : XO csG 2 45 w1.heap.size W (.slice (some ⟨gR, 0, none⟩) np np) np (List.replicate np noRing)) (rows : XO csL 1 42 w1.heap.size W (.slice (some ⟨gS, 0, none⟩) nn nn) nn (List.replicate nn noRing))
    (box : C5 W N v0 v1 v2 v3 v4) (tN : ∀ ad, A1 = some ad → ad.block ≠ N) (rN : gR ≠ N) (sN : gS ≠ N) (low : w1.heap.size ≤ N) (below : Below w1.heap.size w1 W) :
    NwR w1 vs nt np nn size 0 A1 c1 gR gS N (put5 W N (.slice A1 nt c1) (.int .i64 size) (.slice (some ⟨gR, 0, none⟩) np np) (.slice (some ⟨gS, 0, none⟩) nn nn) (.int .u64 0)) := by
  have hg := grown_put5 W N (.slice A1 nt c1) (.int .i64 size) (.slice (some ⟨gR, 0, none⟩) np np) (.slice (some ⟨gS, 0, none⟩) nn nn) (.int .u64 0)
  exact ⟨vrow_grown tree hg tN, treeF, xo_kept rings hg (by intro e; injection e with e; exact rN e) (noRing_lie (fun b => b ≠ N) _), xo_kept rows hg (by intro e; injection e with e; exact sN e) (noRing_lie (fun b => b ≠ N) _), box.put _ _ _ _ _, tN, rN, sN, low, below_put below low _ _ _ _ _⟩
theorem NwR.step {w1 W W' : World} {vs : List (Int × Int)} {nt np nn on : Nat} {size : Int} {A1 : Option Addr} {c1 gR gS N : Nat} (h : NwR w1 vs nt np nn size on A1 c1 gR gS N W) (hb : Below W.heap.size W W') : NwR w1 vs nt np nn size on A1 c1 gR gS N W' :=
  ⟨(h.tree.below hb).more hb.size, h.treeF, h.rings.step hb, h.rows.step hb, h.box.step hb, h.tN, h.rN, h.sN, h.low, held_trans h.below hb⟩
theorem NwR.set {w1 W : World} {vs : List (Int × Int)} {nt np nn on : Nat} {size : Int} {A1 : Option Addr} {c1 gR gS N : Nat} (h : NwR w1 vs nt np nn size on A1 c1 gR gS N W) (on' : Nat) : NwR w1 vs nt np nn size on' A1 c1 gR gS N (W.setCell ⟨N, 4, none⟩ (.int .u64 (on' : Nat))) := by
  have hg := grown_one W N 4 (.int .u64 (on' : Nat))
  exact ⟨vrow_grown h.tree hg h.tN, h.treeF, xo_kept h.rings hg (by intro e; injection e with e; exact h.rN e) (noRing_lie (fun b => b ≠ N) _), xo_kept h.rows hg (by intro e; injection e with e; exact h.sN e) (noRing_lie (fun b => b ≠ N) _), h.box.set4 _, h.tN, h.rN, h.sN, h.low, h.below.setCell (by exact h.low) _⟩
/-- What New leaves: Runs and an error; without one the rings and the rows are the call's own. -/
def TellJN (F : Nat → Prop) (w0 : World) (p : Jp.Rn × Int) (e : Ending) (w' : World) : Prop := ∃ d, e = .returned (.tuple #[jv d p.1, .int .i64 p.2]) ∧ RM (More F w0) w' d p.1 ∧ Below w0.heap.size w0 w' ∧ (p.2 = 0 → ∃ es ls, XO csG 2 45 w0.heap.size w' (.slice d.R d.nr d.cr) d.nr es ∧ es.map elG = p.1.rings ∧ XO csL 1 42 w0.heap.size w' (.slice d.S d.ns d.cs) d.ns ls ∧ ls.map elL = p.1.rows)
theorem TellJN.any {F : Nat → Prop} {w0 w' : World} {p : Jp.Rn × Int} {e : Ending} (h : TellJN F w0 p e w') : TellJE F w0 p e w' := by
  obtain ⟨d, h1, h2, h3, _⟩ := h
  exact ⟨d, h1, h2, h3⟩
theorem TellJN.no {F : Nat → Prop} {w0 w' : World} {d : Ad} {r : Jp.Rn} {e : Int} {p : Jp.Rn × Int} (hp : p = (r, e)) (h : RM (More F w0) w' d r) (hb : Below w0.heap.size w0 w') (he : e ≠ 0) : TellJN F w0 p (.returned (.tuple #[jv d r, .int .i64 e])) w' := by
  subst hp
  exact ⟨d, rfl, h, hb, fun h => absurd h he⟩
theorem NwR.tell {F : Nat → Prop} {w w1 W : World} {vs : List (Int × Int)} {nt np nn : Nat} {size : Int} {A1 : Option Addr} {c1 gR gS N : Nat} {p : Jp.Rn × Int} (h : NwR w1 vs nt np nn size (pm np) A1 c1 gR gS N W) (hp : p = (Jp.made vs size, 0)) (hn : vs.length = nt) (hl : nt ≤ 64) (hf : Fit vs) (hnp : (Dp.procs vs).length = np) (hnn : (Dp.nodes vs).length = nn) (hnp64 : np ≤ 64) (hs : In64 size) (hw : w.heap.size < w1.heap.size) (hB : Below w.heap.size w w1) :
    TellJN F w p (.returned (.tuple #[.agg #[.slice A1 nt c1, .int .i64 size, .slice (some ⟨gR, 0, none⟩) np np, .slice (some ⟨gS, 0, none⟩) nn nn, .int .u64 (pm np : Nat)], .int .i64 0])) (put5 W w.heap.size (.slice A1 nt c1) (.int .i64 size) (.slice (some ⟨gR, 0, none⟩) np np) (.slice (some ⟨gS, 0, none⟩) nn nn) (.int .u64 (pm np : Nat))) := by
  have hg := grown_put5 W w.heap.size (.slice A1 nt c1) (.int .i64 size) (.slice (some ⟨gR, 0, none⟩) np np) (.slice (some ⟨gS, 0, none⟩) nn nn) (.int .u64 (pm np : Nat))
  have hgR := (h.rings.own.lt gR rfl).1
  have hgS := (h.rows.own.lt gS rfl).1
  have t1 := vrow_grown h.tree hg (fun ad hA => by have := h.treeF ad hA; omega)
  have x1 := xo_kept h.rings hg (fun e => by injection e with e; exact absurd (show gR = w.heap.size from e) (by omega)) (noRing_lie (fun b => b ≠ w.heap.size) _)
  have x2 := xo_kept h.rows hg (fun e => by injection e with e; exact absurd (show gS = w.heap.size from e) (by omega)) (noRing_lie (fun b => b ≠ w.heap.size) _)
  obtain ⟨y1, f1⟩ := own_slice csG_len (by decide) x1
  obtain ⟨y2, f2⟩ := own_slice csL_len (by decide) x2
  have hbb := below_put (b := w.heap.size) (held_trans hB (h.below)) (Nat.le_refl _) (.slice A1 nt c1) (.int .i64 size) (.slice (some ⟨gR, 0, none⟩) np np) (.slice (some ⟨gS, 0, none⟩) nn nn) (.int .u64 (pm np : Nat))
  have hon : (Jp.made vs size).on = pm np := by unfold Jp.made pm; simp only; rw [hnp]
  have HM : RM (More F w) (put5 W w.heap.size (.slice A1 nt c1) (.int .i64 size) (.slice (some ⟨gR, 0, none⟩) np np) (.slice (some ⟨gS, 0, none⟩) nn nn) (.int .u64 (pm np : Nat))) ⟨A1, nt, c1, some ⟨gR, 0, none⟩, np, np, some ⟨gS, 0, none⟩, nn, nn⟩ (Jp.made vs size) :=
    ⟨hn, by simp only; omega, hf, t1, fun _ ad hA => .inr (by have := h.treeF ad hA; omega),
      ⟨_, y1, by unfold Jp.made; simp only; rw [hnp, List.map_replicate]; rfl, fun _ ad hA => .inr (by have := f1 ad hA; omega), noRing_lie _ _⟩,
      ⟨_, y2, by unfold Jp.made; simp only; rw [hnn, List.map_replicate]; rfl, fun _ ad hA => .inr (by have := f2 ad hA; omega), noRing_lie _ _⟩, by rw [hon]; exact pm_lt hnp64, hs⟩
  subst hp
  exact ⟨⟨A1, nt, c1, some ⟨gR, 0, none⟩, np, np, some ⟨gS, 0, none⟩, nn, nn⟩, by unfold jv; rw [hon]; rfl, HM, hbb, fun _ => ⟨_, _, xo_base x1 (by omega), by unfold Jp.made; simp only; rw [hnp, List.map_replicate]; rfl, xo_base x2 (by omega), by unfold Jp.made; simp only; rw [hnn, List.map_replicate]; rfl⟩⟩
set_option maxRecDepth 100000 in
set_option maxHeartbeats 4000000 in
theorem runsNew_own {F : Nat → Prop} (A0 : Option Addr) (nt ct : Nat) (vs : List (Int × Int)) (size : Int) (w : World) (hn : Hid (vs.length = nt)) (hl : nt ≤ 9223372036854775807) (hf : Hid (Fit vs)) (hv : VRow w w.heap.size A0 vs) (hlie : vs ≠ [] → ∀ ad, A0 = some ad → F ad.block) (hF : ∀ b, F b → b < w.heap.size) (hs : In64 size) (hT : Tab w) :
    Calls Tryd.prog 19 #[.slice A0 nt ct, .int .i64 size] w (TellJN F w (Jp.new vs size)) := by
  have HV := Lib.hid hv
  have HSZ := Lib.hid hs
  have hz := C5.new w (.slice none 0 0) (.int .i64 0) (.slice none 0 0) (.slice none 0 0) (.int .u64 0) 33
  have hb := below_new w (.cells #[.slice none 0 0, .int .i64 0, .slice none 0 0, .slice none 0 0, .int .u64 0] 33)
  obtain ⟨V, hV⟩ : ∃ V, V = w.alloc (.cells #[.slice none 0 0, .int .i64 0, .slice none 0 0, .slice none 0 0, .int .u64 0] 33) := ⟨_, rfl⟩
  rw [← hV] at hz hb
  have E := Lib.hid hV
  have Z0 := Lib.hid hz
  have B0 := Lib.hid hb
  have HC := Lib.hid (check_any A0 nt ct vs V hn hl hf ((hv.below hb).more hb.size))
  clear hV hz hb hv hlie hF hs hT
  go_enter Tryd.func19, Tryd.ntmps19
  go_wp2_with (rw [← E.out])
  clear E
  refine HC.out.mono ?_
  rintro e w1 ⟨rfl, hb1⟩
  have Z1 := Lib.hid (Z0.out.step hb1)
  have B1 := Lib.hid (held_trans B0.out hb1)
  clear hb1 HC Z0 B0
  by_cases hm : ¬ Tp.may vs = true
  · have hm' : Tp.may vs = false := by cases e : Tp.may vs; rfl; exact absurd e hm
    have HP := Lib.hid (show Jp.new vs size = (Jp.zero, 2) by unfold Jp.new; rw [if_pos hm'])
    rw [hm', show Tp.errno false = 2 from rfl]
    obtain ⟨k0, k1, k2, k3, k4⟩ := put5_told Z1.out (.slice none 0 0) (.int .i64 0) (.slice none 0 0) (.slice none 0 0) (.int .u64 0)
    have HF := Lib.hid (TellJN.no (F := F) (w0 := w) (d := ⟨none, 0, 0, none, 0, 0, none, 0, 0⟩) (r := Jp.zero) (e := 2) (HP.out) (rm_zero (More F w) _) (below_put (b := w.heap.size) B1.out (Nat.le_refl _) (.slice none 0 0) (.int .i64 0) (.slice none 0 0) (.slice none 0 0) (.int .u64 0)) (by decide))
    have y0 := Z1.out.b5.c0
    have y1 := Z1.out.b5.c1
    have y2 := Z1.out.b5.c2
    have y3 := Z1.out.b5.c3
    have y4 := Z1.out.b5.c4
    have g0 := Z1.out.f0
    have g1 := Z1.out.f1
    have g2 := Z1.out.f2
    have g3 := Z1.out.f3
    have g4 := Z1.out.f4
    unfold put5 at k0 k1 k2 k3 k4
    go_wp2_with fail
    refine bodyPost_ret ?_ rfl HF.out
    simp [results, Tryd.results19, go_sem, k0, k1, k2, k3, k4, jv, Jp.zero]
  have hm := Classical.not_not.1 hm
  have hmF : ¬ Tp.may vs = false := by rw [hm]; decide
  have TR := (Tp.tree_iff vs).1 hm
  have hne : vs ≠ [] := fun e => by rw [e] at hm; exact absurd hm (by decide)
  rw [hm, show Tp.errno true = 0 from rfl]
  have HIS := Lib.hid (isSize_any size w1)
  clear hm
  go_wp2_with fail
  refine HIS.out.mono ?_
  rintro e w2 ⟨rfl, rfl⟩
  clear HIS
  cases hsz : decide (2 ≤ size ∧ size ≤ 16)
  · have hno := of_decide_eq_false hsz
    have HP := Lib.hid (show Jp.new vs size = (Jp.zero, 1) by unfold Jp.new; rw [if_neg hmF, if_pos (by omega)])
    clear hsz hno
    obtain ⟨k0, k1, k2, k3, k4⟩ := put5_told Z1.out (.slice none 0 0) (.int .i64 0) (.slice none 0 0) (.slice none 0 0) (.int .u64 0)
    have HF := Lib.hid (TellJN.no (F := F) (w0 := w) (d := ⟨none, 0, 0, none, 0, 0, none, 0, 0⟩) (r := Jp.zero) (e := 1) (HP.out) (rm_zero (More F w) _) (below_put (b := w.heap.size) B1.out (Nat.le_refl _) (.slice none 0 0) (.int .i64 0) (.slice none 0 0) (.slice none 0 0) (.int .u64 0)) (by decide))
    have y0 := Z1.out.b5.c0
    have y1 := Z1.out.b5.c1
    have y2 := Z1.out.b5.c2
    have y3 := Z1.out.b5.c3
    have y4 := Z1.out.b5.c4
    have g0 := Z1.out.f0
    have g1 := Z1.out.f1
    have g2 := Z1.out.f2
    have g3 := Z1.out.f3
    have g4 := Z1.out.f4
    unfold put5 at k0 k1 k2 k3 k4
    go_wp2_with fail
    refine bodyPost_ret ?_ rfl HF.out
    simp [results, Tryd.results19, go_sem, k0, k1, k2, k3, k4, jv, Jp.zero]
  have hyes := of_decide_eq_true hsz
  have HP := Lib.hid (show Jp.new vs size = (Jp.made vs size, 0) by unfold Jp.new; rw [if_neg hmF, if_neg (by omega)])
  have hnt : nt ≤ 64 := by have := TR.few; have := hn.out; omega
  have h32 : (Dp.procs vs).length ≤ 32 := by have := TR.procs; simpa [Dp.procs] using this
  have h64 : (Dp.nodes vs).length ≤ 64 := by
    have := Tp.those_le (fun x => x.2 == 1) vs nt
    rw [List.take_of_length_le (by have := hn.out; omega)] at this
    simp only [Dp.nodes]
    omega
  obtain ⟨np, hnp⟩ : ∃ np, np = (Tp.those (levelP 3) vs).length := ⟨_, rfl⟩
  obtain ⟨nn, hnn⟩ : ∃ nn, nn = (Tp.those (levelP 1) vs).length := ⟨_, rfl⟩
  have hnp32 : np ≤ 32 := by rw [hnp]; exact h32
  have hnn64 : nn ≤ 64 := by rw [hnn]; exact h64
  have HNP := Lib.hid hnp
  have HNN := Lib.hid hnn
  have HCL := Lib.hid (fun (W : World) (hv : VRow W W.heap.size A0 vs) => cloneV_any A0 nt ct vs W hn.out hv (by omega))
  have HPR := Lib.hid (fun (W : World) (hv : VRow W W.heap.size A0 vs) => procs_any A0 nt ct vs W hn (by omega) (by omega) hv)
  have HND := Lib.hid (fun (W : World) (hv : VRow W W.heap.size A0 vs) => nodes_any A0 nt ct vs W hn (by omega) (by omega) hv)
  have HVW := Lib.hid (show VRow w2 w2.heap.size A0 vs from (HV.out.below B1.out).more B1.out.size)
  have HTL := Lib.hid (fun (W : World) (B : Nat) (A : Option Addr) (h : VRow W B A vs) => tree_lt h hne)
  obtain ⟨i0, hi0, hz0, hz1, hz2⟩ := info_parts info_ring
  obtain ⟨j0, hj0, hw0, hw1, hw2⟩ := info_parts info_rows
  have hbyR : i0.bytes * np ≤ 281474976710656 := by rw [hz2]; omega
  have hbyS : j0.bytes * nn ≤ 281474976710656 := by rw [hw2]; omega
  have HB0 := Lib.hid (Below.refl w2.heap.size w2)
  have HW := Lib.hid (show w.heap.size < w2.heap.size from Z1.out.lt)
  clear hsz hyes hnp hnn h32 h64 TR hmF HV hne
  go_upto_region 6 with fail
  go_cut [7] (fun v wx => ∃ (A1 : Option Addr) (c1 gR gS N : Nat), v = .pointer (some ⟨N, 0, none⟩) ∧ Hid (NwR w2 vs nt np nn size 0 A1 c1 gR gS N wx))
  case first =>
    refine wp_region_held_drew (S := fun _ => True) (by kernel_rfl) trivial (fun hHeld => ?_)
    refine wpAnyH_takesJ (i := 0) (v := (.slice A0 nt ct)) (some 19) rfl rfl (by kernel_rfl) (by kernel_rfl) (by kernel_rfl) (fun _ _ _ h => h) (Or.inl ⟨by rfl, (by intro W9 hSw; (try dsimp only at hSw); go_simp; first | done | with_reducible rfl)⟩) (by assumption) ?_
    simp only [Act.put, List.setIfInBounds_toArray]; try simp only [List.set_cons_zero, List.set_cons_succ]
    refine wpAnyH_takesJ (i := 2) (v := (.int .i64 size)) (some 21) rfl rfl (by kernel_rfl) (by kernel_rfl) (by kernel_rfl) (fun _ _ _ h => h) (Or.inl ⟨by rfl, (by intro W9 hSw; (try dsimp only at hSw); go_simp; first | done | with_reducible rfl)⟩) (by assumption) ?_
    simp only [Act.put, List.setIfInBounds_toArray]; try simp only [List.set_cons_zero, List.set_cons_succ]
    refine wpAnyH_takesJ (i := 3) (v := (.slice A0 nt ct)) (some 22) rfl rfl (by kernel_rfl) (by kernel_rfl) (by kernel_rfl) (fun _ _ _ h => h) (Or.inl ⟨by rfl, (by intro W9 hSw; (try dsimp only at hSw); go_simp; first | done | with_reducible rfl)⟩) (by assumption) ?_
    simp only [Act.put, List.setIfInBounds_toArray]; try simp only [List.set_cons_zero, List.set_cons_succ]
    refine wpAnyH_takesJ (i := 7) (v := (.slice A0 nt ct)) (some 26) rfl rfl (by kernel_rfl) (by kernel_rfl) (by kernel_rfl) (fun _ _ _ h => h) (Or.inl ⟨by rfl, (by intro W9 hSw; (try dsimp only at hSw); go_simp; first | done | with_reducible rfl)⟩) (by assumption) ?_
    simp only [Act.put, List.setIfInBounds_toArray]; try simp only [List.set_cons_zero, List.set_cons_succ]

    refine wpAnyH_ready (rs := [1, 12]) (by kernel_rfl) (by simp) ?_
    refine AllReadyH.cons rfl (fun K hK => ?_) (AllReadyH.cons rfl (fun K hK => ?_) AllReadyH.nil)
    · skip
      go_simp
      go_at_call 50
      refine (HCL.out _ (by exact HVW.out)).mono ?_
      rintro e u1 ⟨A1, c1, rfl, hv1, hf1, hbq⟩
      have hb1 : Below w2.heap.size w2 u1 := below_of_drew hbq
      clear hbq
      have HB1 := Lib.hid (held_trans HB0.out hb1)
      have HV1 := Lib.hid (((HVW).out.below hb1).more hb1.size)
      have hs1 := hb1.size
      have TR1 := Lib.hid hv1
      have hTF : From w2.heap.size A1 := hf1.mono (by have := HB0.out.size; exact this)
      have hTB : ∀ ad, A1 = some ad → w2.heap.size ≤ ad.block ∧ ad.block < u1.heap.size := fun ad hA => ⟨hf1 ad hA, HTL.out _ _ _ hv1 ad hA⟩
      clear hv1 hf1
      refine hK.out _ _ trivial (fun hHeld => ?_)
      clear hK K
      try dsimp only
      refine wpAnyH_ready (rs := [4, 12]) (by kernel_rfl) (by simp) ?_
      refine AllReadyH.cons rfl (fun K hK => ?_) (AllReadyH.cons rfl (fun K hK => ?_) AllReadyH.nil)
      · skip
        go_simp
        go_at_call 51
        refine (HPR.out _ (by exact HV1.out)).mono ?_
        rintro e u2 hmade
        obtain ⟨A4, c4, rfl, hI2, hbq⟩ := hmade
        rw [← HNP.out]
        have hb2 : Below u1.heap.size u1 u2 := hbq
        clear hbq
        have TR2 := Lib.hid ((TR1.out.below hb2).more hb2.size)
        have HB2 := Lib.hid (held_trans HB1.out hb2)
        have HV2 := Lib.hid (((HV1).out.below hb2).more hb2.size)
        have hs2 := hb2.size
        clear hI2
        refine hK.out _ _ trivial (fun hHeld => ?_)
        clear hK K
        try dsimp only
        refine wpAnyH_takesJ (i := 5) (v := (.int .i64 (np : Nat))) (some 24) rfl rfl (by kernel_rfl) (by kernel_rfl) (by kernel_rfl) (fun _ _ _ h => h) (Or.inl ⟨by rfl, (by intro W9 hSw; (try dsimp only at hSw); go_simp; first | done | with_reducible rfl)⟩) (by assumption) ?_
        simp only [Act.put, List.setIfInBounds_toArray]; try simp only [List.set_cons_zero, List.set_cons_succ]
        refine wpAnyH_ready (rs := [6, 8, 12]) (by kernel_rfl) (by simp) ?_
        refine AllReadyH.cons rfl (fun K hK => ?_) (AllReadyH.cons rfl (fun K hK => ?_) (AllReadyH.cons rfl (fun K hK => ?_) AllReadyH.nil))
        · skip
          refine step_make_full (by rfl) (.tmp 24) (.tmp 24) 30 (by rfl) u2.heap.size 45 i0 (.agg #[.int .i64 0, .slice none 0 0]) 2 Tryd.underlying30 hi0 hz0 hz1 np (by rfl) (by rfl) hbyR (by unfold maxLen; omega) (Nat.le_refl _) ?_
          intro u3 hown hg
          rw [made_rings] at hown
          have hb3 : Below u2.heap.size u2 u3 := (Below.refl _ _).grown hg (Nat.le_refl _) (fun j hj => by cases hj)
          obtain ⟨gR, hgR⟩ : ∃ g, g = u2.heap.size := ⟨_, rfl⟩
          have hltR := (hown.lt _ rfl)
          have XR : XO csG 2 45 w2.heap.size u3 (.slice (some ⟨u2.heap.size, 0, none⟩) np np) np (List.replicate np noRing) := ⟨zown_base' hown (by have := HB2.out.size; exact this), noRing_row _ _, noRing_apart _ _⟩
          rw [← hgR] at XR ⊢
          have b1R : u2.heap.size ≤ gR := by omega
          have b2R : gR < u3.heap.size := by omega
          clear hgR hown hg hltR
          have TR3 := Lib.hid ((TR2.out.below hb3).more hb3.size)
          have HB3 := Lib.hid (held_trans HB2.out hb3)
          have HV3 := Lib.hid (((HV2).out.below hb3).more hb3.size)
          have hs3 := hb3.size
          have RG3 := Lib.hid XR
          clear XR
          refine hK.out _ _ trivial (fun hHeld => ?_)
          clear hK K
          try dsimp only
          refine wpAnyH_ready (rs := [8, 12]) (by kernel_rfl) (by simp) ?_
          refine AllReadyH.cons rfl (fun K hK => ?_) (AllReadyH.cons rfl (fun K hK => ?_) AllReadyH.nil)
          · skip
            go_simp
            go_at_call 52
            refine (HND.out _ (by exact HV3.out)).mono ?_
            rintro e u4 hmade
            obtain ⟨A8, c8, rfl, hI4, hbq⟩ := hmade
            rw [← HNN.out]
            have hb4 : Below u3.heap.size u3 u4 := hbq
            clear hbq
            have TR4 := Lib.hid ((TR3.out.below hb4).more hb4.size)
            have RG4 := Lib.hid (RG3.out.step hb4)
            have HB4 := Lib.hid (held_trans HB3.out hb4)
            have HV4 := Lib.hid (((HV3).out.below hb4).more hb4.size)
            have hs4 := hb4.size
            clear hI4
            refine hK.out _ _ trivial (fun hHeld => ?_)
            clear hK K
            try dsimp only
            refine wpAnyH_takesJ (i := 9) (v := (.int .i64 (nn : Nat))) (some 28) rfl rfl (by kernel_rfl) (by kernel_rfl) (by kernel_rfl) (fun _ _ _ h => h) (Or.inl ⟨by rfl, (by intro W9 hSw; (try dsimp only at hSw); go_simp; first | done | with_reducible rfl)⟩) (by assumption) ?_
            simp only [Act.put, List.setIfInBounds_toArray]; try simp only [List.set_cons_zero, List.set_cons_succ]
            refine wpAnyH_ready (rs := [10, 12]) (by kernel_rfl) (by simp) ?_
            refine AllReadyH.cons rfl (fun K hK => ?_) (AllReadyH.cons rfl (fun K hK => ?_) AllReadyH.nil)
            · skip
              refine step_make_full (by rfl) (.tmp 28) (.tmp 28) 24 (by rfl) u4.heap.size 42 j0 (.slice none 0 0) 1 Tryd.underlying24 hj0 hw0 hw1 nn (by rfl) (by rfl) hbyS (by unfold maxLen; omega) (Nat.le_refl _) ?_
              intro u5 hown hg
              rw [made_rows] at hown
              have hb5 : Below u4.heap.size u4 u5 := (Below.refl _ _).grown hg (Nat.le_refl _) (fun j hj => by cases hj)
              obtain ⟨gS, hgS⟩ : ∃ g, g = u4.heap.size := ⟨_, rfl⟩
              have hltS := (hown.lt _ rfl)
              have XS : XO csL 1 42 w2.heap.size u5 (.slice (some ⟨u4.heap.size, 0, none⟩) nn nn) nn (List.replicate nn noRing) := ⟨zown_base' hown (by have := HB4.out.size; exact this), noRing_row _ _, noRing_apart _ _⟩
              rw [← hgS] at XS ⊢
              have b1S : u4.heap.size ≤ gS := by omega
              have b2S : gS < u5.heap.size := by omega
              clear hgS hown hg hltS
              have TR5 := Lib.hid ((TR4.out.below hb5).more hb5.size)
              have RG5 := Lib.hid (RG4.out.step hb5)
              have HB5 := Lib.hid (held_trans HB4.out hb5)
              have HV5 := Lib.hid (((HV4).out.below hb5).more hb5.size)
              have hs5 := hb5.size
              have RW5 := Lib.hid XS
              clear XS
              refine hK.out _ _ trivial (fun hHeld => ?_)
              clear hK K
              try dsimp only
              refine wpAnyH_takesJ (i := 11) (v := (.agg #[.slice A1 nt c1, .int .i64 size, .slice (some ⟨gR, 0, none⟩) np np, .slice (some ⟨gS, 0, none⟩) nn nn, .int .u64 0])) (some 30) rfl rfl (by kernel_rfl) (by kernel_rfl) (by kernel_rfl) (fun _ _ _ h => h) (Or.inl ⟨by rfl, (by intro W9 hSw; (try dsimp only at hSw); go_simp; first | done | with_reducible rfl)⟩) (by assumption) ?_
              simp only [Act.put, List.setIfInBounds_toArray]; try simp only [List.set_cons_zero, List.set_cons_succ]
              refine wpAnyH_ready (rs := [12]) (by kernel_rfl) (by simp) ?_
              refine AllReadyH.cons rfl (fun K hK => ?_) AllReadyH.nil
              go_simp
              have hb6 : Below u5.heap.size u5 (u5.alloc (.cells #[.slice none 0 0, .int .i64 0, .slice none 0 0, .slice none 0 0, .int .u64 0] 33)) := below_new u5 _
              have hBX := C5.new u5 (.slice none 0 0) (.int .i64 0) (.slice none 0 0) (.slice none 0 0) (.int .u64 0) 33
              obtain ⟨u6, hu⟩ : ∃ u, u = (u5.alloc (.cells #[.slice none 0 0, .int .i64 0, .slice none 0 0, .slice none 0 0, .int .u64 0] 33)) := ⟨_, rfl⟩
              rw [← hu] at hb6 hBX ⊢
              clear hu
              obtain ⟨N, hN⟩ : ∃ N, N = u5.heap.size := ⟨_, rfl⟩
              rw [← hN] at hBX ⊢
              have b1N : u5.heap.size ≤ N := by omega
              have b2N := hBX.lt
              have hNL : w2.heap.size ≤ N := by have := HB5.out.size; omega
              clear hN
              have TR6 := Lib.hid ((TR5.out.below hb6).more hb6.size)
              have RG6 := Lib.hid (RG5.out.step hb6)
              have RW6 := Lib.hid (RW5.out.step hb6)
              have HB6 := Lib.hid (held_trans HB5.out hb6)
              have HV6 := Lib.hid (((HV5).out.below hb6).more hb6.size)
              have hs6 := hb6.size
              have BX6 := Lib.hid hBX
              clear hBX
              refine hK.out _ _ trivial (fun hHeld => ?_)
              clear hK K
              try dsimp only
              refine wpAnyH_ready (rs := [13]) (by kernel_rfl) (by simp) ?_
              refine AllReadyH.cons rfl (fun K hK => ?_) AllReadyH.nil
              have y0 := BX6.out.b5.c0
              have y1 := BX6.out.b5.c1
              have y2 := BX6.out.b5.c2
              have y3 := BX6.out.b5.c3
              have y4 := BX6.out.b5.c4
              have g0 := BX6.out.f0
              have g1 := BX6.out.f1
              have g2 := BX6.out.f2
              have g3 := BX6.out.f3
              have g4 := BX6.out.f4
              go_simp
              refine hK.out _ _ trivial (fun hHeld => ?_)
              clear hK K
              try dsimp only
              refine wpAnyH_done (by kernel_rfl) ?_ _
              go_wp2_with fail
              go_meet
              exact ⟨A1, c1, gR, gS, N, rfl, Lib.hid (NwR.of (nt := nt) (size := size) TR6.out hTF RG6.out RW6.out BX6.out (fun ad hA => by have := hTB ad hA; omega) (by omega) (by omega) hNL HB6.out)⟩
            · skip
              go_simp
              have hb5 : Below u4.heap.size u4 (u4.alloc (.cells #[.slice none 0 0, .int .i64 0, .slice none 0 0, .slice none 0 0, .int .u64 0] 33)) := below_new u4 _
              have hBX := C5.new u4 (.slice none 0 0) (.int .i64 0) (.slice none 0 0) (.slice none 0 0) (.int .u64 0) 33
              obtain ⟨u5, hu⟩ : ∃ u, u = (u4.alloc (.cells #[.slice none 0 0, .int .i64 0, .slice none 0 0, .slice none 0 0, .int .u64 0] 33)) := ⟨_, rfl⟩
              rw [← hu] at hb5 hBX ⊢
              clear hu
              obtain ⟨N, hN⟩ : ∃ N, N = u4.heap.size := ⟨_, rfl⟩
              rw [← hN] at hBX ⊢
              have b1N : u4.heap.size ≤ N := by omega
              have b2N := hBX.lt
              have hNL : w2.heap.size ≤ N := by have := HB4.out.size; omega
              clear hN
              have TR5 := Lib.hid ((TR4.out.below hb5).more hb5.size)
              have RG5 := Lib.hid (RG4.out.step hb5)
              have HB5 := Lib.hid (held_trans HB4.out hb5)
              have HV5 := Lib.hid (((HV4).out.below hb5).more hb5.size)
              have hs5 := hb5.size
              have BX5 := Lib.hid hBX
              clear hBX
              refine hK.out _ _ trivial (fun hHeld => ?_)
              clear hK K
              try dsimp only
              refine wpAnyH_ready (rs := [10]) (by kernel_rfl) (by simp) ?_
              refine AllReadyH.cons rfl (fun K hK => ?_) AllReadyH.nil
              refine step_make_full (by rfl) (.tmp 28) (.tmp 28) 24 (by rfl) u5.heap.size 42 j0 (.slice none 0 0) 1 Tryd.underlying24 hj0 hw0 hw1 nn (by rfl) (by rfl) hbyS (by unfold maxLen; omega) (Nat.le_refl _) ?_
              intro u6 hown hg
              rw [made_rows] at hown
              have hb6 : Below u5.heap.size u5 u6 := (Below.refl _ _).grown hg (Nat.le_refl _) (fun j hj => by cases hj)
              obtain ⟨gS, hgS⟩ : ∃ g, g = u5.heap.size := ⟨_, rfl⟩
              have hltS := (hown.lt _ rfl)
              have XS : XO csL 1 42 w2.heap.size u6 (.slice (some ⟨u5.heap.size, 0, none⟩) nn nn) nn (List.replicate nn noRing) := ⟨zown_base' hown (by have := HB5.out.size; exact this), noRing_row _ _, noRing_apart _ _⟩
              rw [← hgS] at XS ⊢
              have b1S : u5.heap.size ≤ gS := by omega
              have b2S : gS < u6.heap.size := by omega
              clear hgS hown hg hltS
              have TR6 := Lib.hid ((TR5.out.below hb6).more hb6.size)
              have RG6 := Lib.hid (RG5.out.step hb6)
              have BX6 := Lib.hid (BX5.out.step hb6)
              have HB6 := Lib.hid (held_trans HB5.out hb6)
              have HV6 := Lib.hid (((HV5).out.below hb6).more hb6.size)
              have hs6 := hb6.size
              have RW6 := Lib.hid XS
              clear XS
              refine hK.out _ _ trivial (fun hHeld => ?_)
              clear hK K
              try dsimp only
              refine wpAnyH_takesJ (i := 11) (v := (.agg #[.slice A1 nt c1, .int .i64 size, .slice (some ⟨gR, 0, none⟩) np np, .slice (some ⟨gS, 0, none⟩) nn nn, .int .u64 0])) (some 30) rfl rfl (by kernel_rfl) (by kernel_rfl) (by kernel_rfl) (fun _ _ _ h => h) (Or.inl ⟨by rfl, (by intro W9 hSw; (try dsimp only at hSw); go_simp; first | done | with_reducible rfl)⟩) (by assumption) ?_
              simp only [Act.put, List.setIfInBounds_toArray]; try simp only [List.set_cons_zero, List.set_cons_succ]
              refine wpAnyH_ready (rs := [13]) (by kernel_rfl) (by simp) ?_
              refine AllReadyH.cons rfl (fun K hK => ?_) AllReadyH.nil
              have y0 := BX6.out.b5.c0
              have y1 := BX6.out.b5.c1
              have y2 := BX6.out.b5.c2
              have y3 := BX6.out.b5.c3
              have y4 := BX6.out.b5.c4
              have g0 := BX6.out.f0
              have g1 := BX6.out.f1
              have g2 := BX6.out.f2
              have g3 := BX6.out.f3
              have g4 := BX6.out.f4
              go_simp
              refine hK.out _ _ trivial (fun hHeld => ?_)
              clear hK K
              try dsimp only
              refine wpAnyH_done (by kernel_rfl) ?_ _
              go_wp2_with fail
              go_meet
              exact ⟨A1, c1, gR, gS, N, rfl, Lib.hid (NwR.of (nt := nt) (size := size) TR6.out hTF RG6.out RW6.out BX6.out (fun ad hA => by have := hTB ad hA; omega) (by omega) (by omega) hNL HB6.out)⟩
          · skip
            go_simp
            have hb4 : Below u3.heap.size u3 (u3.alloc (.cells #[.slice none 0 0, .int .i64 0, .slice none 0 0, .slice none 0 0, .int .u64 0] 33)) := below_new u3 _
            have hBX := C5.new u3 (.slice none 0 0) (.int .i64 0) (.slice none 0 0) (.slice none 0 0) (.int .u64 0) 33
            obtain ⟨u4, hu⟩ : ∃ u, u = (u3.alloc (.cells #[.slice none 0 0, .int .i64 0, .slice none 0 0, .slice none 0 0, .int .u64 0] 33)) := ⟨_, rfl⟩
            rw [← hu] at hb4 hBX ⊢
            clear hu
            obtain ⟨N, hN⟩ : ∃ N, N = u3.heap.size := ⟨_, rfl⟩
            rw [← hN] at hBX ⊢
            have b1N : u3.heap.size ≤ N := by omega
            have b2N := hBX.lt
            have hNL : w2.heap.size ≤ N := by have := HB3.out.size; omega
            clear hN
            have TR4 := Lib.hid ((TR3.out.below hb4).more hb4.size)
            have RG4 := Lib.hid (RG3.out.step hb4)
            have HB4 := Lib.hid (held_trans HB3.out hb4)
            have HV4 := Lib.hid (((HV3).out.below hb4).more hb4.size)
            have hs4 := hb4.size
            have BX4 := Lib.hid hBX
            clear hBX
            refine hK.out _ _ trivial (fun hHeld => ?_)
            clear hK K
            try dsimp only
            refine wpAnyH_ready (rs := [8]) (by kernel_rfl) (by simp) ?_
            refine AllReadyH.cons rfl (fun K hK => ?_) AllReadyH.nil
            go_simp
            go_at_call 52
            refine (HND.out _ (by exact HV4.out)).mono ?_
            rintro e u5 hmade
            obtain ⟨A8, c8, rfl, hI5, hbq⟩ := hmade
            rw [← HNN.out]
            have hb5 : Below u4.heap.size u4 u5 := hbq
            clear hbq
            have TR5 := Lib.hid ((TR4.out.below hb5).more hb5.size)
            have RG5 := Lib.hid (RG4.out.step hb5)
            have BX5 := Lib.hid (BX4.out.step hb5)
            have HB5 := Lib.hid (held_trans HB4.out hb5)
            have HV5 := Lib.hid (((HV4).out.below hb5).more hb5.size)
            have hs5 := hb5.size
            clear hI5
            refine hK.out _ _ trivial (fun hHeld => ?_)
            clear hK K
            try dsimp only
            refine wpAnyH_takesJ (i := 9) (v := (.int .i64 (nn : Nat))) (some 28) rfl rfl (by kernel_rfl) (by kernel_rfl) (by kernel_rfl) (fun _ _ _ h => h) (Or.inl ⟨by rfl, (by intro W9 hSw; (try dsimp only at hSw); go_simp; first | done | with_reducible rfl)⟩) (by assumption) ?_
            simp only [Act.put, List.setIfInBounds_toArray]; try simp only [List.set_cons_zero, List.set_cons_succ]
            refine wpAnyH_ready (rs := [10]) (by kernel_rfl) (by simp) ?_
            refine AllReadyH.cons rfl (fun K hK => ?_) AllReadyH.nil
            refine step_make_full (by rfl) (.tmp 28) (.tmp 28) 24 (by rfl) u5.heap.size 42 j0 (.slice none 0 0) 1 Tryd.underlying24 hj0 hw0 hw1 nn (by rfl) (by rfl) hbyS (by unfold maxLen; omega) (Nat.le_refl _) ?_
            intro u6 hown hg
            rw [made_rows] at hown
            have hb6 : Below u5.heap.size u5 u6 := (Below.refl _ _).grown hg (Nat.le_refl _) (fun j hj => by cases hj)
            obtain ⟨gS, hgS⟩ : ∃ g, g = u5.heap.size := ⟨_, rfl⟩
            have hltS := (hown.lt _ rfl)
            have XS : XO csL 1 42 w2.heap.size u6 (.slice (some ⟨u5.heap.size, 0, none⟩) nn nn) nn (List.replicate nn noRing) := ⟨zown_base' hown (by have := HB5.out.size; exact this), noRing_row _ _, noRing_apart _ _⟩
            rw [← hgS] at XS ⊢
            have b1S : u5.heap.size ≤ gS := by omega
            have b2S : gS < u6.heap.size := by omega
            clear hgS hown hg hltS
            have TR6 := Lib.hid ((TR5.out.below hb6).more hb6.size)
            have RG6 := Lib.hid (RG5.out.step hb6)
            have BX6 := Lib.hid (BX5.out.step hb6)
            have HB6 := Lib.hid (held_trans HB5.out hb6)
            have HV6 := Lib.hid (((HV5).out.below hb6).more hb6.size)
            have hs6 := hb6.size
            have RW6 := Lib.hid XS
            clear XS
            refine hK.out _ _ trivial (fun hHeld => ?_)
            clear hK K
            try dsimp only
            refine wpAnyH_takesJ (i := 11) (v := (.agg #[.slice A1 nt c1, .int .i64 size, .slice (some ⟨gR, 0, none⟩) np np, .slice (some ⟨gS, 0, none⟩) nn nn, .int .u64 0])) (some 30) rfl rfl (by kernel_rfl) (by kernel_rfl) (by kernel_rfl) (fun _ _ _ h => h) (Or.inl ⟨by rfl, (by intro W9 hSw; (try dsimp only at hSw); go_simp; first | done | with_reducible rfl)⟩) (by assumption) ?_
            simp only [Act.put, List.setIfInBounds_toArray]; try simp only [List.set_cons_zero, List.set_cons_succ]
            refine wpAnyH_ready (rs := [13]) (by kernel_rfl) (by simp) ?_
            refine AllReadyH.cons rfl (fun K hK => ?_) AllReadyH.nil
            have y0 := BX6.out.b5.c0
            have y1 := BX6.out.b5.c1
            have y2 := BX6.out.b5.c2
            have y3 := BX6.out.b5.c3
            have y4 := BX6.out.b5.c4
            have g0 := BX6.out.f0
            have g1 := BX6.out.f1
            have g2 := BX6.out.f2
            have g3 := BX6.out.f3
            have g4 := BX6.out.f4
            go_simp
            refine hK.out _ _ trivial (fun hHeld => ?_)
            clear hK K
            try dsimp only
            refine wpAnyH_done (by kernel_rfl) ?_ _
            go_wp2_with fail
            go_meet
            exact ⟨A1, c1, gR, gS, N, rfl, Lib.hid (NwR.of (nt := nt) (size := size) TR6.out hTF RG6.out RW6.out BX6.out (fun ad hA => by have := hTB ad hA; omega) (by omega) (by omega) hNL HB6.out)⟩
        · skip
          go_simp
          go_at_call 52
          refine (HND.out _ (by exact HV2.out)).mono ?_
          rintro e u3 hmade
          obtain ⟨A8, c8, rfl, hI3, hbq⟩ := hmade
          rw [← HNN.out]
          have hb3 : Below u2.heap.size u2 u3 := hbq
          clear hbq
          have TR3 := Lib.hid ((TR2.out.below hb3).more hb3.size)
          have HB3 := Lib.hid (held_trans HB2.out hb3)
          have HV3 := Lib.hid (((HV2).out.below hb3).more hb3.size)
          have hs3 := hb3.size
          clear hI3
          refine hK.out _ _ trivial (fun hHeld => ?_)
          clear hK K
          try dsimp only
          refine wpAnyH_takesJ (i := 9) (v := (.int .i64 (nn : Nat))) (some 28) rfl rfl (by kernel_rfl) (by kernel_rfl) (by kernel_rfl) (fun _ _ _ h => h) (Or.inl ⟨by rfl, (by intro W9 hSw; (try dsimp only at hSw); go_simp; first | done | with_reducible rfl)⟩) (by assumption) ?_
          simp only [Act.put, List.setIfInBounds_toArray]; try simp only [List.set_cons_zero, List.set_cons_succ]
          refine wpAnyH_ready (rs := [6, 10, 12]) (by kernel_rfl) (by simp) ?_
          refine AllReadyH.cons rfl (fun K hK => ?_) (AllReadyH.cons rfl (fun K hK => ?_) (AllReadyH.cons rfl (fun K hK => ?_) AllReadyH.nil))
          · skip
            refine step_make_full (by rfl) (.tmp 24) (.tmp 24) 30 (by rfl) u3.heap.size 45 i0 (.agg #[.int .i64 0, .slice none 0 0]) 2 Tryd.underlying30 hi0 hz0 hz1 np (by rfl) (by rfl) hbyR (by unfold maxLen; omega) (Nat.le_refl _) ?_
            intro u4 hown hg
            rw [made_rings] at hown
            have hb4 : Below u3.heap.size u3 u4 := (Below.refl _ _).grown hg (Nat.le_refl _) (fun j hj => by cases hj)
            obtain ⟨gR, hgR⟩ : ∃ g, g = u3.heap.size := ⟨_, rfl⟩
            have hltR := (hown.lt _ rfl)
            have XR : XO csG 2 45 w2.heap.size u4 (.slice (some ⟨u3.heap.size, 0, none⟩) np np) np (List.replicate np noRing) := ⟨zown_base' hown (by have := HB3.out.size; exact this), noRing_row _ _, noRing_apart _ _⟩
            rw [← hgR] at XR ⊢
            have b1R : u3.heap.size ≤ gR := by omega
            have b2R : gR < u4.heap.size := by omega
            clear hgR hown hg hltR
            have TR4 := Lib.hid ((TR3.out.below hb4).more hb4.size)
            have HB4 := Lib.hid (held_trans HB3.out hb4)
            have HV4 := Lib.hid (((HV3).out.below hb4).more hb4.size)
            have hs4 := hb4.size
            have RG4 := Lib.hid XR
            clear XR
            refine hK.out _ _ trivial (fun hHeld => ?_)
            clear hK K
            try dsimp only
            refine wpAnyH_ready (rs := [10, 12]) (by kernel_rfl) (by simp) ?_
            refine AllReadyH.cons rfl (fun K hK => ?_) (AllReadyH.cons rfl (fun K hK => ?_) AllReadyH.nil)
            · skip
              refine step_make_full (by rfl) (.tmp 28) (.tmp 28) 24 (by rfl) u4.heap.size 42 j0 (.slice none 0 0) 1 Tryd.underlying24 hj0 hw0 hw1 nn (by rfl) (by rfl) hbyS (by unfold maxLen; omega) (Nat.le_refl _) ?_
              intro u5 hown hg
              rw [made_rows] at hown
              have hb5 : Below u4.heap.size u4 u5 := (Below.refl _ _).grown hg (Nat.le_refl _) (fun j hj => by cases hj)
              obtain ⟨gS, hgS⟩ : ∃ g, g = u4.heap.size := ⟨_, rfl⟩
              have hltS := (hown.lt _ rfl)
              have XS : XO csL 1 42 w2.heap.size u5 (.slice (some ⟨u4.heap.size, 0, none⟩) nn nn) nn (List.replicate nn noRing) := ⟨zown_base' hown (by have := HB4.out.size; exact this), noRing_row _ _, noRing_apart _ _⟩
              rw [← hgS] at XS ⊢
              have b1S : u4.heap.size ≤ gS := by omega
              have b2S : gS < u5.heap.size := by omega
              clear hgS hown hg hltS
              have TR5 := Lib.hid ((TR4.out.below hb5).more hb5.size)
              have RG5 := Lib.hid (RG4.out.step hb5)
              have HB5 := Lib.hid (held_trans HB4.out hb5)
              have HV5 := Lib.hid (((HV4).out.below hb5).more hb5.size)
              have hs5 := hb5.size
              have RW5 := Lib.hid XS
              clear XS
              refine hK.out _ _ trivial (fun hHeld => ?_)
              clear hK K
              try dsimp only
              refine wpAnyH_takesJ (i := 11) (v := (.agg #[.slice A1 nt c1, .int .i64 size, .slice (some ⟨gR, 0, none⟩) np np, .slice (some ⟨gS, 0, none⟩) nn nn, .int .u64 0])) (some 30) rfl rfl (by kernel_rfl) (by kernel_rfl) (by kernel_rfl) (fun _ _ _ h => h) (Or.inl ⟨by rfl, (by intro W9 hSw; (try dsimp only at hSw); go_simp; first | done | with_reducible rfl)⟩) (by assumption) ?_
              simp only [Act.put, List.setIfInBounds_toArray]; try simp only [List.set_cons_zero, List.set_cons_succ]
              refine wpAnyH_ready (rs := [12]) (by kernel_rfl) (by simp) ?_
              refine AllReadyH.cons rfl (fun K hK => ?_) AllReadyH.nil
              go_simp
              have hb6 : Below u5.heap.size u5 (u5.alloc (.cells #[.slice none 0 0, .int .i64 0, .slice none 0 0, .slice none 0 0, .int .u64 0] 33)) := below_new u5 _
              have hBX := C5.new u5 (.slice none 0 0) (.int .i64 0) (.slice none 0 0) (.slice none 0 0) (.int .u64 0) 33
              obtain ⟨u6, hu⟩ : ∃ u, u = (u5.alloc (.cells #[.slice none 0 0, .int .i64 0, .slice none 0 0, .slice none 0 0, .int .u64 0] 33)) := ⟨_, rfl⟩
              rw [← hu] at hb6 hBX ⊢
              clear hu
              obtain ⟨N, hN⟩ : ∃ N, N = u5.heap.size := ⟨_, rfl⟩
              rw [← hN] at hBX ⊢
              have b1N : u5.heap.size ≤ N := by omega
              have b2N := hBX.lt
              have hNL : w2.heap.size ≤ N := by have := HB5.out.size; omega
              clear hN
              have TR6 := Lib.hid ((TR5.out.below hb6).more hb6.size)
              have RG6 := Lib.hid (RG5.out.step hb6)
              have RW6 := Lib.hid (RW5.out.step hb6)
              have HB6 := Lib.hid (held_trans HB5.out hb6)
              have HV6 := Lib.hid (((HV5).out.below hb6).more hb6.size)
              have hs6 := hb6.size
              have BX6 := Lib.hid hBX
              clear hBX
              refine hK.out _ _ trivial (fun hHeld => ?_)
              clear hK K
              try dsimp only
              refine wpAnyH_ready (rs := [13]) (by kernel_rfl) (by simp) ?_
              refine AllReadyH.cons rfl (fun K hK => ?_) AllReadyH.nil
              have y0 := BX6.out.b5.c0
              have y1 := BX6.out.b5.c1
              have y2 := BX6.out.b5.c2
              have y3 := BX6.out.b5.c3
              have y4 := BX6.out.b5.c4
              have g0 := BX6.out.f0
              have g1 := BX6.out.f1
              have g2 := BX6.out.f2
              have g3 := BX6.out.f3
              have g4 := BX6.out.f4
              go_simp
              refine hK.out _ _ trivial (fun hHeld => ?_)
              clear hK K
              try dsimp only
              refine wpAnyH_done (by kernel_rfl) ?_ _
              go_wp2_with fail
              go_meet
              exact ⟨A1, c1, gR, gS, N, rfl, Lib.hid (NwR.of (nt := nt) (size := size) TR6.out hTF RG6.out RW6.out BX6.out (fun ad hA => by have := hTB ad hA; omega) (by omega) (by omega) hNL HB6.out)⟩
            · skip
              go_simp
              have hb5 : Below u4.heap.size u4 (u4.alloc (.cells #[.slice none 0 0, .int .i64 0, .slice none 0 0, .slice none 0 0, .int .u64 0] 33)) := below_new u4 _
              have hBX := C5.new u4 (.slice none 0 0) (.int .i64 0) (.slice none 0 0) (.slice none 0 0) (.int .u64 0) 33
              obtain ⟨u5, hu⟩ : ∃ u, u = (u4.alloc (.cells #[.slice none 0 0, .int .i64 0, .slice none 0 0, .slice none 0 0, .int .u64 0] 33)) := ⟨_, rfl⟩
              rw [← hu] at hb5 hBX ⊢
              clear hu
              obtain ⟨N, hN⟩ : ∃ N, N = u4.heap.size := ⟨_, rfl⟩
              rw [← hN] at hBX ⊢
              have b1N : u4.heap.size ≤ N := by omega
              have b2N := hBX.lt
              have hNL : w2.heap.size ≤ N := by have := HB4.out.size; omega
              clear hN
              have TR5 := Lib.hid ((TR4.out.below hb5).more hb5.size)
              have RG5 := Lib.hid (RG4.out.step hb5)
              have HB5 := Lib.hid (held_trans HB4.out hb5)
              have HV5 := Lib.hid (((HV4).out.below hb5).more hb5.size)
              have hs5 := hb5.size
              have BX5 := Lib.hid hBX
              clear hBX
              refine hK.out _ _ trivial (fun hHeld => ?_)
              clear hK K
              try dsimp only
              refine wpAnyH_ready (rs := [10]) (by kernel_rfl) (by simp) ?_
              refine AllReadyH.cons rfl (fun K hK => ?_) AllReadyH.nil
              refine step_make_full (by rfl) (.tmp 28) (.tmp 28) 24 (by rfl) u5.heap.size 42 j0 (.slice none 0 0) 1 Tryd.underlying24 hj0 hw0 hw1 nn (by rfl) (by rfl) hbyS (by unfold maxLen; omega) (Nat.le_refl _) ?_
              intro u6 hown hg
              rw [made_rows] at hown
              have hb6 : Below u5.heap.size u5 u6 := (Below.refl _ _).grown hg (Nat.le_refl _) (fun j hj => by cases hj)
              obtain ⟨gS, hgS⟩ : ∃ g, g = u5.heap.size := ⟨_, rfl⟩
              have hltS := (hown.lt _ rfl)
              have XS : XO csL 1 42 w2.heap.size u6 (.slice (some ⟨u5.heap.size, 0, none⟩) nn nn) nn (List.replicate nn noRing) := ⟨zown_base' hown (by have := HB5.out.size; exact this), noRing_row _ _, noRing_apart _ _⟩
              rw [← hgS] at XS ⊢
              have b1S : u5.heap.size ≤ gS := by omega
              have b2S : gS < u6.heap.size := by omega
              clear hgS hown hg hltS
              have TR6 := Lib.hid ((TR5.out.below hb6).more hb6.size)
              have RG6 := Lib.hid (RG5.out.step hb6)
              have BX6 := Lib.hid (BX5.out.step hb6)
              have HB6 := Lib.hid (held_trans HB5.out hb6)
              have HV6 := Lib.hid (((HV5).out.below hb6).more hb6.size)
              have hs6 := hb6.size
              have RW6 := Lib.hid XS
              clear XS
              refine hK.out _ _ trivial (fun hHeld => ?_)
              clear hK K
              try dsimp only
              refine wpAnyH_takesJ (i := 11) (v := (.agg #[.slice A1 nt c1, .int .i64 size, .slice (some ⟨gR, 0, none⟩) np np, .slice (some ⟨gS, 0, none⟩) nn nn, .int .u64 0])) (some 30) rfl rfl (by kernel_rfl) (by kernel_rfl) (by kernel_rfl) (fun _ _ _ h => h) (Or.inl ⟨by rfl, (by intro W9 hSw; (try dsimp only at hSw); go_simp; first | done | with_reducible rfl)⟩) (by assumption) ?_
              simp only [Act.put, List.setIfInBounds_toArray]; try simp only [List.set_cons_zero, List.set_cons_succ]
              refine wpAnyH_ready (rs := [13]) (by kernel_rfl) (by simp) ?_
              refine AllReadyH.cons rfl (fun K hK => ?_) AllReadyH.nil
              have y0 := BX6.out.b5.c0
              have y1 := BX6.out.b5.c1
              have y2 := BX6.out.b5.c2
              have y3 := BX6.out.b5.c3
              have y4 := BX6.out.b5.c4
              have g0 := BX6.out.f0
              have g1 := BX6.out.f1
              have g2 := BX6.out.f2
              have g3 := BX6.out.f3
              have g4 := BX6.out.f4
              go_simp
              refine hK.out _ _ trivial (fun hHeld => ?_)
              clear hK K
              try dsimp only
              refine wpAnyH_done (by kernel_rfl) ?_ _
              go_wp2_with fail
              go_meet
              exact ⟨A1, c1, gR, gS, N, rfl, Lib.hid (NwR.of (nt := nt) (size := size) TR6.out hTF RG6.out RW6.out BX6.out (fun ad hA => by have := hTB ad hA; omega) (by omega) (by omega) hNL HB6.out)⟩
          · skip
            refine step_make_full (by rfl) (.tmp 28) (.tmp 28) 24 (by rfl) u3.heap.size 42 j0 (.slice none 0 0) 1 Tryd.underlying24 hj0 hw0 hw1 nn (by rfl) (by rfl) hbyS (by unfold maxLen; omega) (Nat.le_refl _) ?_
            intro u4 hown hg
            rw [made_rows] at hown
            have hb4 : Below u3.heap.size u3 u4 := (Below.refl _ _).grown hg (Nat.le_refl _) (fun j hj => by cases hj)
            obtain ⟨gS, hgS⟩ : ∃ g, g = u3.heap.size := ⟨_, rfl⟩
            have hltS := (hown.lt _ rfl)
            have XS : XO csL 1 42 w2.heap.size u4 (.slice (some ⟨u3.heap.size, 0, none⟩) nn nn) nn (List.replicate nn noRing) := ⟨zown_base' hown (by have := HB3.out.size; exact this), noRing_row _ _, noRing_apart _ _⟩
            rw [← hgS] at XS ⊢
            have b1S : u3.heap.size ≤ gS := by omega
            have b2S : gS < u4.heap.size := by omega
            clear hgS hown hg hltS
            have TR4 := Lib.hid ((TR3.out.below hb4).more hb4.size)
            have HB4 := Lib.hid (held_trans HB3.out hb4)
            have HV4 := Lib.hid (((HV3).out.below hb4).more hb4.size)
            have hs4 := hb4.size
            have RW4 := Lib.hid XS
            clear XS
            refine hK.out _ _ trivial (fun hHeld => ?_)
            clear hK K
            try dsimp only
            refine wpAnyH_ready (rs := [6, 12]) (by kernel_rfl) (by simp) ?_
            refine AllReadyH.cons rfl (fun K hK => ?_) (AllReadyH.cons rfl (fun K hK => ?_) AllReadyH.nil)
            · skip
              refine step_make_full (by rfl) (.tmp 24) (.tmp 24) 30 (by rfl) u4.heap.size 45 i0 (.agg #[.int .i64 0, .slice none 0 0]) 2 Tryd.underlying30 hi0 hz0 hz1 np (by rfl) (by rfl) hbyR (by unfold maxLen; omega) (Nat.le_refl _) ?_
              intro u5 hown hg
              rw [made_rings] at hown
              have hb5 : Below u4.heap.size u4 u5 := (Below.refl _ _).grown hg (Nat.le_refl _) (fun j hj => by cases hj)
              obtain ⟨gR, hgR⟩ : ∃ g, g = u4.heap.size := ⟨_, rfl⟩
              have hltR := (hown.lt _ rfl)
              have XR : XO csG 2 45 w2.heap.size u5 (.slice (some ⟨u4.heap.size, 0, none⟩) np np) np (List.replicate np noRing) := ⟨zown_base' hown (by have := HB4.out.size; exact this), noRing_row _ _, noRing_apart _ _⟩
              rw [← hgR] at XR ⊢
              have b1R : u4.heap.size ≤ gR := by omega
              have b2R : gR < u5.heap.size := by omega
              clear hgR hown hg hltR
              have TR5 := Lib.hid ((TR4.out.below hb5).more hb5.size)
              have RW5 := Lib.hid (RW4.out.step hb5)
              have HB5 := Lib.hid (held_trans HB4.out hb5)
              have HV5 := Lib.hid (((HV4).out.below hb5).more hb5.size)
              have hs5 := hb5.size
              have RG5 := Lib.hid XR
              clear XR
              refine hK.out _ _ trivial (fun hHeld => ?_)
              clear hK K
              try dsimp only
              refine wpAnyH_takesJ (i := 11) (v := (.agg #[.slice A1 nt c1, .int .i64 size, .slice (some ⟨gR, 0, none⟩) np np, .slice (some ⟨gS, 0, none⟩) nn nn, .int .u64 0])) (some 30) rfl rfl (by kernel_rfl) (by kernel_rfl) (by kernel_rfl) (fun _ _ _ h => h) (Or.inl ⟨by rfl, (by intro W9 hSw; (try dsimp only at hSw); go_simp; first | done | with_reducible rfl)⟩) (by assumption) ?_
              simp only [Act.put, List.setIfInBounds_toArray]; try simp only [List.set_cons_zero, List.set_cons_succ]
              refine wpAnyH_ready (rs := [12]) (by kernel_rfl) (by simp) ?_
              refine AllReadyH.cons rfl (fun K hK => ?_) AllReadyH.nil
              go_simp
              have hb6 : Below u5.heap.size u5 (u5.alloc (.cells #[.slice none 0 0, .int .i64 0, .slice none 0 0, .slice none 0 0, .int .u64 0] 33)) := below_new u5 _
              have hBX := C5.new u5 (.slice none 0 0) (.int .i64 0) (.slice none 0 0) (.slice none 0 0) (.int .u64 0) 33
              obtain ⟨u6, hu⟩ : ∃ u, u = (u5.alloc (.cells #[.slice none 0 0, .int .i64 0, .slice none 0 0, .slice none 0 0, .int .u64 0] 33)) := ⟨_, rfl⟩
              rw [← hu] at hb6 hBX ⊢
              clear hu
              obtain ⟨N, hN⟩ : ∃ N, N = u5.heap.size := ⟨_, rfl⟩
              rw [← hN] at hBX ⊢
              have b1N : u5.heap.size ≤ N := by omega
              have b2N := hBX.lt
              have hNL : w2.heap.size ≤ N := by have := HB5.out.size; omega
              clear hN
              have TR6 := Lib.hid ((TR5.out.below hb6).more hb6.size)
              have RG6 := Lib.hid (RG5.out.step hb6)
              have RW6 := Lib.hid (RW5.out.step hb6)
              have HB6 := Lib.hid (held_trans HB5.out hb6)
              have HV6 := Lib.hid (((HV5).out.below hb6).more hb6.size)
              have hs6 := hb6.size
              have BX6 := Lib.hid hBX
              clear hBX
              refine hK.out _ _ trivial (fun hHeld => ?_)
              clear hK K
              try dsimp only
              refine wpAnyH_ready (rs := [13]) (by kernel_rfl) (by simp) ?_
              refine AllReadyH.cons rfl (fun K hK => ?_) AllReadyH.nil
              have y0 := BX6.out.b5.c0
              have y1 := BX6.out.b5.c1
              have y2 := BX6.out.b5.c2
              have y3 := BX6.out.b5.c3
              have y4 := BX6.out.b5.c4
              have g0 := BX6.out.f0
              have g1 := BX6.out.f1
              have g2 := BX6.out.f2
              have g3 := BX6.out.f3
              have g4 := BX6.out.f4
              go_simp
              refine hK.out _ _ trivial (fun hHeld => ?_)
              clear hK K
              try dsimp only
              refine wpAnyH_done (by kernel_rfl) ?_ _
              go_wp2_with fail
              go_meet
              exact ⟨A1, c1, gR, gS, N, rfl, Lib.hid (NwR.of (nt := nt) (size := size) TR6.out hTF RG6.out RW6.out BX6.out (fun ad hA => by have := hTB ad hA; omega) (by omega) (by omega) hNL HB6.out)⟩
            · skip
              go_simp
              have hb5 : Below u4.heap.size u4 (u4.alloc (.cells #[.slice none 0 0, .int .i64 0, .slice none 0 0, .slice none 0 0, .int .u64 0] 33)) := below_new u4 _
              have hBX := C5.new u4 (.slice none 0 0) (.int .i64 0) (.slice none 0 0) (.slice none 0 0) (.int .u64 0) 33
              obtain ⟨u5, hu⟩ : ∃ u, u = (u4.alloc (.cells #[.slice none 0 0, .int .i64 0, .slice none 0 0, .slice none 0 0, .int .u64 0] 33)) := ⟨_, rfl⟩
              rw [← hu] at hb5 hBX ⊢
              clear hu
              obtain ⟨N, hN⟩ : ∃ N, N = u4.heap.size := ⟨_, rfl⟩
              rw [← hN] at hBX ⊢
              have b1N : u4.heap.size ≤ N := by omega
              have b2N := hBX.lt
              have hNL : w2.heap.size ≤ N := by have := HB4.out.size; omega
              clear hN
              have TR5 := Lib.hid ((TR4.out.below hb5).more hb5.size)
              have RW5 := Lib.hid (RW4.out.step hb5)
              have HB5 := Lib.hid (held_trans HB4.out hb5)
              have HV5 := Lib.hid (((HV4).out.below hb5).more hb5.size)
              have hs5 := hb5.size
              have BX5 := Lib.hid hBX
              clear hBX
              refine hK.out _ _ trivial (fun hHeld => ?_)
              clear hK K
              try dsimp only
              refine wpAnyH_ready (rs := [6]) (by kernel_rfl) (by simp) ?_
              refine AllReadyH.cons rfl (fun K hK => ?_) AllReadyH.nil
              refine step_make_full (by rfl) (.tmp 24) (.tmp 24) 30 (by rfl) u5.heap.size 45 i0 (.agg #[.int .i64 0, .slice none 0 0]) 2 Tryd.underlying30 hi0 hz0 hz1 np (by rfl) (by rfl) hbyR (by unfold maxLen; omega) (Nat.le_refl _) ?_
              intro u6 hown hg
              rw [made_rings] at hown
              have hb6 : Below u5.heap.size u5 u6 := (Below.refl _ _).grown hg (Nat.le_refl _) (fun j hj => by cases hj)
              obtain ⟨gR, hgR⟩ : ∃ g, g = u5.heap.size := ⟨_, rfl⟩
              have hltR := (hown.lt _ rfl)
              have XR : XO csG 2 45 w2.heap.size u6 (.slice (some ⟨u5.heap.size, 0, none⟩) np np) np (List.replicate np noRing) := ⟨zown_base' hown (by have := HB5.out.size; exact this), noRing_row _ _, noRing_apart _ _⟩
              rw [← hgR] at XR ⊢
              have b1R : u5.heap.size ≤ gR := by omega
              have b2R : gR < u6.heap.size := by omega
              clear hgR hown hg hltR
              have TR6 := Lib.hid ((TR5.out.below hb6).more hb6.size)
              have RW6 := Lib.hid (RW5.out.step hb6)
              have BX6 := Lib.hid (BX5.out.step hb6)
              have HB6 := Lib.hid (held_trans HB5.out hb6)
              have HV6 := Lib.hid (((HV5).out.below hb6).more hb6.size)
              have hs6 := hb6.size
              have RG6 := Lib.hid XR
              clear XR
              refine hK.out _ _ trivial (fun hHeld => ?_)
              clear hK K
              try dsimp only
              refine wpAnyH_takesJ (i := 11) (v := (.agg #[.slice A1 nt c1, .int .i64 size, .slice (some ⟨gR, 0, none⟩) np np, .slice (some ⟨gS, 0, none⟩) nn nn, .int .u64 0])) (some 30) rfl rfl (by kernel_rfl) (by kernel_rfl) (by kernel_rfl) (fun _ _ _ h => h) (Or.inl ⟨by rfl, (by intro W9 hSw; (try dsimp only at hSw); go_simp; first | done | with_reducible rfl)⟩) (by assumption) ?_
              simp only [Act.put, List.setIfInBounds_toArray]; try simp only [List.set_cons_zero, List.set_cons_succ]
              refine wpAnyH_ready (rs := [13]) (by kernel_rfl) (by simp) ?_
              refine AllReadyH.cons rfl (fun K hK => ?_) AllReadyH.nil
              have y0 := BX6.out.b5.c0
              have y1 := BX6.out.b5.c1
              have y2 := BX6.out.b5.c2
              have y3 := BX6.out.b5.c3
              have y4 := BX6.out.b5.c4
              have g0 := BX6.out.f0
              have g1 := BX6.out.f1
              have g2 := BX6.out.f2
              have g3 := BX6.out.f3
              have g4 := BX6.out.f4
              go_simp
              refine hK.out _ _ trivial (fun hHeld => ?_)
              clear hK K
              try dsimp only
              refine wpAnyH_done (by kernel_rfl) ?_ _
              go_wp2_with fail
              go_meet
              exact ⟨A1, c1, gR, gS, N, rfl, Lib.hid (NwR.of (nt := nt) (size := size) TR6.out hTF RG6.out RW6.out BX6.out (fun ad hA => by have := hTB ad hA; omega) (by omega) (by omega) hNL HB6.out)⟩
          · skip
            go_simp
            have hb4 : Below u3.heap.size u3 (u3.alloc (.cells #[.slice none 0 0, .int .i64 0, .slice none 0 0, .slice none 0 0, .int .u64 0] 33)) := below_new u3 _
            have hBX := C5.new u3 (.slice none 0 0) (.int .i64 0) (.slice none 0 0) (.slice none 0 0) (.int .u64 0) 33
            obtain ⟨u4, hu⟩ : ∃ u, u = (u3.alloc (.cells #[.slice none 0 0, .int .i64 0, .slice none 0 0, .slice none 0 0, .int .u64 0] 33)) := ⟨_, rfl⟩
            rw [← hu] at hb4 hBX ⊢
            clear hu
            obtain ⟨N, hN⟩ : ∃ N, N = u3.heap.size := ⟨_, rfl⟩
            rw [← hN] at hBX ⊢
            have b1N : u3.heap.size ≤ N := by omega
            have b2N := hBX.lt
            have hNL : w2.heap.size ≤ N := by have := HB3.out.size; omega
            clear hN
            have TR4 := Lib.hid ((TR3.out.below hb4).more hb4.size)
            have HB4 := Lib.hid (held_trans HB3.out hb4)
            have HV4 := Lib.hid (((HV3).out.below hb4).more hb4.size)
            have hs4 := hb4.size
            have BX4 := Lib.hid hBX
            clear hBX
            refine hK.out _ _ trivial (fun hHeld => ?_)
            clear hK K
            try dsimp only
            refine wpAnyH_ready (rs := [6, 10]) (by kernel_rfl) (by simp) ?_
            refine AllReadyH.cons rfl (fun K hK => ?_) (AllReadyH.cons rfl (fun K hK => ?_) AllReadyH.nil)
            · skip
              refine step_make_full (by rfl) (.tmp 24) (.tmp 24) 30 (by rfl) u4.heap.size 45 i0 (.agg #[.int .i64 0, .slice none 0 0]) 2 Tryd.underlying30 hi0 hz0 hz1 np (by rfl) (by rfl) hbyR (by unfold maxLen; omega) (Nat.le_refl _) ?_
              intro u5 hown hg
              rw [made_rings] at hown
              have hb5 : Below u4.heap.size u4 u5 := (Below.refl _ _).grown hg (Nat.le_refl _) (fun j hj => by cases hj)
              obtain ⟨gR, hgR⟩ : ∃ g, g = u4.heap.size := ⟨_, rfl⟩
              have hltR := (hown.lt _ rfl)
              have XR : XO csG 2 45 w2.heap.size u5 (.slice (some ⟨u4.heap.size, 0, none⟩) np np) np (List.replicate np noRing) := ⟨zown_base' hown (by have := HB4.out.size; exact this), noRing_row _ _, noRing_apart _ _⟩
              rw [← hgR] at XR ⊢
              have b1R : u4.heap.size ≤ gR := by omega
              have b2R : gR < u5.heap.size := by omega
              clear hgR hown hg hltR
              have TR5 := Lib.hid ((TR4.out.below hb5).more hb5.size)
              have BX5 := Lib.hid (BX4.out.step hb5)
              have HB5 := Lib.hid (held_trans HB4.out hb5)
              have HV5 := Lib.hid (((HV4).out.below hb5).more hb5.size)
              have hs5 := hb5.size
              have RG5 := Lib.hid XR
              clear XR
              refine hK.out _ _ trivial (fun hHeld => ?_)
              clear hK K
              try dsimp only
              refine wpAnyH_ready (rs := [10]) (by kernel_rfl) (by simp) ?_
              refine AllReadyH.cons rfl (fun K hK => ?_) AllReadyH.nil
              refine step_make_full (by rfl) (.tmp 28) (.tmp 28) 24 (by rfl) u5.heap.size 42 j0 (.slice none 0 0) 1 Tryd.underlying24 hj0 hw0 hw1 nn (by rfl) (by rfl) hbyS (by unfold maxLen; omega) (Nat.le_refl _) ?_
              intro u6 hown hg
              rw [made_rows] at hown
              have hb6 : Below u5.heap.size u5 u6 := (Below.refl _ _).grown hg (Nat.le_refl _) (fun j hj => by cases hj)
              obtain ⟨gS, hgS⟩ : ∃ g, g = u5.heap.size := ⟨_, rfl⟩
              have hltS := (hown.lt _ rfl)
              have XS : XO csL 1 42 w2.heap.size u6 (.slice (some ⟨u5.heap.size, 0, none⟩) nn nn) nn (List.replicate nn noRing) := ⟨zown_base' hown (by have := HB5.out.size; exact this), noRing_row _ _, noRing_apart _ _⟩
              rw [← hgS] at XS ⊢
              have b1S : u5.heap.size ≤ gS := by omega
              have b2S : gS < u6.heap.size := by omega
              clear hgS hown hg hltS
              have TR6 := Lib.hid ((TR5.out.below hb6).more hb6.size)
              have RG6 := Lib.hid (RG5.out.step hb6)
              have BX6 := Lib.hid (BX5.out.step hb6)
              have HB6 := Lib.hid (held_trans HB5.out hb6)
              have HV6 := Lib.hid (((HV5).out.below hb6).more hb6.size)
              have hs6 := hb6.size
              have RW6 := Lib.hid XS
              clear XS
              refine hK.out _ _ trivial (fun hHeld => ?_)
              clear hK K
              try dsimp only
              refine wpAnyH_takesJ (i := 11) (v := (.agg #[.slice A1 nt c1, .int .i64 size, .slice (some ⟨gR, 0, none⟩) np np, .slice (some ⟨gS, 0, none⟩) nn nn, .int .u64 0])) (some 30) rfl rfl (by kernel_rfl) (by kernel_rfl) (by kernel_rfl) (fun _ _ _ h => h) (Or.inl ⟨by rfl, (by intro W9 hSw; (try dsimp only at hSw); go_simp; first | done | with_reducible rfl)⟩) (by assumption) ?_
              simp only [Act.put, List.setIfInBounds_toArray]; try simp only [List.set_cons_zero, List.set_cons_succ]
              refine wpAnyH_ready (rs := [13]) (by kernel_rfl) (by simp) ?_
              refine AllReadyH.cons rfl (fun K hK => ?_) AllReadyH.nil
              have y0 := BX6.out.b5.c0
              have y1 := BX6.out.b5.c1
              have y2 := BX6.out.b5.c2
              have y3 := BX6.out.b5.c3
              have y4 := BX6.out.b5.c4
              have g0 := BX6.out.f0
              have g1 := BX6.out.f1
              have g2 := BX6.out.f2
              have g3 := BX6.out.f3
              have g4 := BX6.out.f4
              go_simp
              refine hK.out _ _ trivial (fun hHeld => ?_)
              clear hK K
              try dsimp only
              refine wpAnyH_done (by kernel_rfl) ?_ _
              go_wp2_with fail
              go_meet
              exact ⟨A1, c1, gR, gS, N, rfl, Lib.hid (NwR.of (nt := nt) (size := size) TR6.out hTF RG6.out RW6.out BX6.out (fun ad hA => by have := hTB ad hA; omega) (by omega) (by omega) hNL HB6.out)⟩
            · skip
              refine step_make_full (by rfl) (.tmp 28) (.tmp 28) 24 (by rfl) u4.heap.size 42 j0 (.slice none 0 0) 1 Tryd.underlying24 hj0 hw0 hw1 nn (by rfl) (by rfl) hbyS (by unfold maxLen; omega) (Nat.le_refl _) ?_
              intro u5 hown hg
              rw [made_rows] at hown
              have hb5 : Below u4.heap.size u4 u5 := (Below.refl _ _).grown hg (Nat.le_refl _) (fun j hj => by cases hj)
              obtain ⟨gS, hgS⟩ : ∃ g, g = u4.heap.size := ⟨_, rfl⟩
              have hltS := (hown.lt _ rfl)
              have XS : XO csL 1 42 w2.heap.size u5 (.slice (some ⟨u4.heap.size, 0, none⟩) nn nn) nn (List.replicate nn noRing) := ⟨zown_base' hown (by have := HB4.out.size; exact this), noRing_row _ _, noRing_apart _ _⟩
              rw [← hgS] at XS ⊢
              have b1S : u4.heap.size ≤ gS := by omega
              have b2S : gS < u5.heap.size := by omega
              clear hgS hown hg hltS
              have TR5 := Lib.hid ((TR4.out.below hb5).more hb5.size)
              have BX5 := Lib.hid (BX4.out.step hb5)
              have HB5 := Lib.hid (held_trans HB4.out hb5)
              have HV5 := Lib.hid (((HV4).out.below hb5).more hb5.size)
              have hs5 := hb5.size
              have RW5 := Lib.hid XS
              clear XS
              refine hK.out _ _ trivial (fun hHeld => ?_)
              clear hK K
              try dsimp only
              refine wpAnyH_ready (rs := [6]) (by kernel_rfl) (by simp) ?_
              refine AllReadyH.cons rfl (fun K hK => ?_) AllReadyH.nil
              refine step_make_full (by rfl) (.tmp 24) (.tmp 24) 30 (by rfl) u5.heap.size 45 i0 (.agg #[.int .i64 0, .slice none 0 0]) 2 Tryd.underlying30 hi0 hz0 hz1 np (by rfl) (by rfl) hbyR (by unfold maxLen; omega) (Nat.le_refl _) ?_
              intro u6 hown hg
              rw [made_rings] at hown
              have hb6 : Below u5.heap.size u5 u6 := (Below.refl _ _).grown hg (Nat.le_refl _) (fun j hj => by cases hj)
              obtain ⟨gR, hgR⟩ : ∃ g, g = u5.heap.size := ⟨_, rfl⟩
              have hltR := (hown.lt _ rfl)
              have XR : XO csG 2 45 w2.heap.size u6 (.slice (some ⟨u5.heap.size, 0, none⟩) np np) np (List.replicate np noRing) := ⟨zown_base' hown (by have := HB5.out.size; exact this), noRing_row _ _, noRing_apart _ _⟩
              rw [← hgR] at XR ⊢
              have b1R : u5.heap.size ≤ gR := by omega
              have b2R : gR < u6.heap.size := by omega
              clear hgR hown hg hltR
              have TR6 := Lib.hid ((TR5.out.below hb6).more hb6.size)
              have RW6 := Lib.hid (RW5.out.step hb6)
              have BX6 := Lib.hid (BX5.out.step hb6)
              have HB6 := Lib.hid (held_trans HB5.out hb6)
              have HV6 := Lib.hid (((HV5).out.below hb6).more hb6.size)
              have hs6 := hb6.size
              have RG6 := Lib.hid XR
              clear XR
              refine hK.out _ _ trivial (fun hHeld => ?_)
              clear hK K
              try dsimp only
              refine wpAnyH_takesJ (i := 11) (v := (.agg #[.slice A1 nt c1, .int .i64 size, .slice (some ⟨gR, 0, none⟩) np np, .slice (some ⟨gS, 0, none⟩) nn nn, .int .u64 0])) (some 30) rfl rfl (by kernel_rfl) (by kernel_rfl) (by kernel_rfl) (fun _ _ _ h => h) (Or.inl ⟨by rfl, (by intro W9 hSw; (try dsimp only at hSw); go_simp; first | done | with_reducible rfl)⟩) (by assumption) ?_
              simp only [Act.put, List.setIfInBounds_toArray]; try simp only [List.set_cons_zero, List.set_cons_succ]
              refine wpAnyH_ready (rs := [13]) (by kernel_rfl) (by simp) ?_
              refine AllReadyH.cons rfl (fun K hK => ?_) AllReadyH.nil
              have y0 := BX6.out.b5.c0
              have y1 := BX6.out.b5.c1
              have y2 := BX6.out.b5.c2
              have y3 := BX6.out.b5.c3
              have y4 := BX6.out.b5.c4
              have g0 := BX6.out.f0
              have g1 := BX6.out.f1
              have g2 := BX6.out.f2
              have g3 := BX6.out.f3
              have g4 := BX6.out.f4
              go_simp
              refine hK.out _ _ trivial (fun hHeld => ?_)
              clear hK K
              try dsimp only
              refine wpAnyH_done (by kernel_rfl) ?_ _
              go_wp2_with fail
              go_meet
              exact ⟨A1, c1, gR, gS, N, rfl, Lib.hid (NwR.of (nt := nt) (size := size) TR6.out hTF RG6.out RW6.out BX6.out (fun ad hA => by have := hTB ad hA; omega) (by omega) (by omega) hNL HB6.out)⟩
        · skip
          go_simp
          have hb3 : Below u2.heap.size u2 (u2.alloc (.cells #[.slice none 0 0, .int .i64 0, .slice none 0 0, .slice none 0 0, .int .u64 0] 33)) := below_new u2 _
          have hBX := C5.new u2 (.slice none 0 0) (.int .i64 0) (.slice none 0 0) (.slice none 0 0) (.int .u64 0) 33
          obtain ⟨u3, hu⟩ : ∃ u, u = (u2.alloc (.cells #[.slice none 0 0, .int .i64 0, .slice none 0 0, .slice none 0 0, .int .u64 0] 33)) := ⟨_, rfl⟩
          rw [← hu] at hb3 hBX ⊢
          clear hu
          obtain ⟨N, hN⟩ : ∃ N, N = u2.heap.size := ⟨_, rfl⟩
          rw [← hN] at hBX ⊢
          have b1N : u2.heap.size ≤ N := by omega
          have b2N := hBX.lt
          have hNL : w2.heap.size ≤ N := by have := HB2.out.size; omega
          clear hN
          have TR3 := Lib.hid ((TR2.out.below hb3).more hb3.size)
          have HB3 := Lib.hid (held_trans HB2.out hb3)
          have HV3 := Lib.hid (((HV2).out.below hb3).more hb3.size)
          have hs3 := hb3.size
          have BX3 := Lib.hid hBX
          clear hBX
          refine hK.out _ _ trivial (fun hHeld => ?_)
          clear hK K
          try dsimp only
          refine wpAnyH_ready (rs := [6, 8]) (by kernel_rfl) (by simp) ?_
          refine AllReadyH.cons rfl (fun K hK => ?_) (AllReadyH.cons rfl (fun K hK => ?_) AllReadyH.nil)
          · skip
            refine step_make_full (by rfl) (.tmp 24) (.tmp 24) 30 (by rfl) u3.heap.size 45 i0 (.agg #[.int .i64 0, .slice none 0 0]) 2 Tryd.underlying30 hi0 hz0 hz1 np (by rfl) (by rfl) hbyR (by unfold maxLen; omega) (Nat.le_refl _) ?_
            intro u4 hown hg
            rw [made_rings] at hown
            have hb4 : Below u3.heap.size u3 u4 := (Below.refl _ _).grown hg (Nat.le_refl _) (fun j hj => by cases hj)
            obtain ⟨gR, hgR⟩ : ∃ g, g = u3.heap.size := ⟨_, rfl⟩
            have hltR := (hown.lt _ rfl)
            have XR : XO csG 2 45 w2.heap.size u4 (.slice (some ⟨u3.heap.size, 0, none⟩) np np) np (List.replicate np noRing) := ⟨zown_base' hown (by have := HB3.out.size; exact this), noRing_row _ _, noRing_apart _ _⟩
            rw [← hgR] at XR ⊢
            have b1R : u3.heap.size ≤ gR := by omega
            have b2R : gR < u4.heap.size := by omega
            clear hgR hown hg hltR
            have TR4 := Lib.hid ((TR3.out.below hb4).more hb4.size)
            have BX4 := Lib.hid (BX3.out.step hb4)
            have HB4 := Lib.hid (held_trans HB3.out hb4)
            have HV4 := Lib.hid (((HV3).out.below hb4).more hb4.size)
            have hs4 := hb4.size
            have RG4 := Lib.hid XR
            clear XR
            refine hK.out _ _ trivial (fun hHeld => ?_)
            clear hK K
            try dsimp only
            refine wpAnyH_ready (rs := [8]) (by kernel_rfl) (by simp) ?_
            refine AllReadyH.cons rfl (fun K hK => ?_) AllReadyH.nil
            go_simp
            go_at_call 52
            refine (HND.out _ (by exact HV4.out)).mono ?_
            rintro e u5 hmade
            obtain ⟨A8, c8, rfl, hI5, hbq⟩ := hmade
            rw [← HNN.out]
            have hb5 : Below u4.heap.size u4 u5 := hbq
            clear hbq
            have TR5 := Lib.hid ((TR4.out.below hb5).more hb5.size)
            have RG5 := Lib.hid (RG4.out.step hb5)
            have BX5 := Lib.hid (BX4.out.step hb5)
            have HB5 := Lib.hid (held_trans HB4.out hb5)
            have HV5 := Lib.hid (((HV4).out.below hb5).more hb5.size)
            have hs5 := hb5.size
            clear hI5
            refine hK.out _ _ trivial (fun hHeld => ?_)
            clear hK K
            try dsimp only
            refine wpAnyH_takesJ (i := 9) (v := (.int .i64 (nn : Nat))) (some 28) rfl rfl (by kernel_rfl) (by kernel_rfl) (by kernel_rfl) (fun _ _ _ h => h) (Or.inl ⟨by rfl, (by intro W9 hSw; (try dsimp only at hSw); go_simp; first | done | with_reducible rfl)⟩) (by assumption) ?_
            simp only [Act.put, List.setIfInBounds_toArray]; try simp only [List.set_cons_zero, List.set_cons_succ]
            refine wpAnyH_ready (rs := [10]) (by kernel_rfl) (by simp) ?_
            refine AllReadyH.cons rfl (fun K hK => ?_) AllReadyH.nil
            refine step_make_full (by rfl) (.tmp 28) (.tmp 28) 24 (by rfl) u5.heap.size 42 j0 (.slice none 0 0) 1 Tryd.underlying24 hj0 hw0 hw1 nn (by rfl) (by rfl) hbyS (by unfold maxLen; omega) (Nat.le_refl _) ?_
            intro u6 hown hg
            rw [made_rows] at hown
            have hb6 : Below u5.heap.size u5 u6 := (Below.refl _ _).grown hg (Nat.le_refl _) (fun j hj => by cases hj)
            obtain ⟨gS, hgS⟩ : ∃ g, g = u5.heap.size := ⟨_, rfl⟩
            have hltS := (hown.lt _ rfl)
            have XS : XO csL 1 42 w2.heap.size u6 (.slice (some ⟨u5.heap.size, 0, none⟩) nn nn) nn (List.replicate nn noRing) := ⟨zown_base' hown (by have := HB5.out.size; exact this), noRing_row _ _, noRing_apart _ _⟩
            rw [← hgS] at XS ⊢
            have b1S : u5.heap.size ≤ gS := by omega
            have b2S : gS < u6.heap.size := by omega
            clear hgS hown hg hltS
            have TR6 := Lib.hid ((TR5.out.below hb6).more hb6.size)
            have RG6 := Lib.hid (RG5.out.step hb6)
            have BX6 := Lib.hid (BX5.out.step hb6)
            have HB6 := Lib.hid (held_trans HB5.out hb6)
            have HV6 := Lib.hid (((HV5).out.below hb6).more hb6.size)
            have hs6 := hb6.size
            have RW6 := Lib.hid XS
            clear XS
            refine hK.out _ _ trivial (fun hHeld => ?_)
            clear hK K
            try dsimp only
            refine wpAnyH_takesJ (i := 11) (v := (.agg #[.slice A1 nt c1, .int .i64 size, .slice (some ⟨gR, 0, none⟩) np np, .slice (some ⟨gS, 0, none⟩) nn nn, .int .u64 0])) (some 30) rfl rfl (by kernel_rfl) (by kernel_rfl) (by kernel_rfl) (fun _ _ _ h => h) (Or.inl ⟨by rfl, (by intro W9 hSw; (try dsimp only at hSw); go_simp; first | done | with_reducible rfl)⟩) (by assumption) ?_
            simp only [Act.put, List.setIfInBounds_toArray]; try simp only [List.set_cons_zero, List.set_cons_succ]
            refine wpAnyH_ready (rs := [13]) (by kernel_rfl) (by simp) ?_
            refine AllReadyH.cons rfl (fun K hK => ?_) AllReadyH.nil
            have y0 := BX6.out.b5.c0
            have y1 := BX6.out.b5.c1
            have y2 := BX6.out.b5.c2
            have y3 := BX6.out.b5.c3
            have y4 := BX6.out.b5.c4
            have g0 := BX6.out.f0
            have g1 := BX6.out.f1
            have g2 := BX6.out.f2
            have g3 := BX6.out.f3
            have g4 := BX6.out.f4
            go_simp
            refine hK.out _ _ trivial (fun hHeld => ?_)
            clear hK K
            try dsimp only
            refine wpAnyH_done (by kernel_rfl) ?_ _
            go_wp2_with fail
            go_meet
            exact ⟨A1, c1, gR, gS, N, rfl, Lib.hid (NwR.of (nt := nt) (size := size) TR6.out hTF RG6.out RW6.out BX6.out (fun ad hA => by have := hTB ad hA; omega) (by omega) (by omega) hNL HB6.out)⟩
          · skip
            go_simp
            go_at_call 52
            refine (HND.out _ (by exact HV3.out)).mono ?_
            rintro e u4 hmade
            obtain ⟨A8, c8, rfl, hI4, hbq⟩ := hmade
            rw [← HNN.out]
            have hb4 : Below u3.heap.size u3 u4 := hbq
            clear hbq
            have TR4 := Lib.hid ((TR3.out.below hb4).more hb4.size)
            have BX4 := Lib.hid (BX3.out.step hb4)
            have HB4 := Lib.hid (held_trans HB3.out hb4)
            have HV4 := Lib.hid (((HV3).out.below hb4).more hb4.size)
            have hs4 := hb4.size
            clear hI4
            refine hK.out _ _ trivial (fun hHeld => ?_)
            clear hK K
            try dsimp only
            refine wpAnyH_takesJ (i := 9) (v := (.int .i64 (nn : Nat))) (some 28) rfl rfl (by kernel_rfl) (by kernel_rfl) (by kernel_rfl) (fun _ _ _ h => h) (Or.inl ⟨by rfl, (by intro W9 hSw; (try dsimp only at hSw); go_simp; first | done | with_reducible rfl)⟩) (by assumption) ?_
            simp only [Act.put, List.setIfInBounds_toArray]; try simp only [List.set_cons_zero, List.set_cons_succ]
            refine wpAnyH_ready (rs := [6, 10]) (by kernel_rfl) (by simp) ?_
            refine AllReadyH.cons rfl (fun K hK => ?_) (AllReadyH.cons rfl (fun K hK => ?_) AllReadyH.nil)
            · skip
              refine step_make_full (by rfl) (.tmp 24) (.tmp 24) 30 (by rfl) u4.heap.size 45 i0 (.agg #[.int .i64 0, .slice none 0 0]) 2 Tryd.underlying30 hi0 hz0 hz1 np (by rfl) (by rfl) hbyR (by unfold maxLen; omega) (Nat.le_refl _) ?_
              intro u5 hown hg
              rw [made_rings] at hown
              have hb5 : Below u4.heap.size u4 u5 := (Below.refl _ _).grown hg (Nat.le_refl _) (fun j hj => by cases hj)
              obtain ⟨gR, hgR⟩ : ∃ g, g = u4.heap.size := ⟨_, rfl⟩
              have hltR := (hown.lt _ rfl)
              have XR : XO csG 2 45 w2.heap.size u5 (.slice (some ⟨u4.heap.size, 0, none⟩) np np) np (List.replicate np noRing) := ⟨zown_base' hown (by have := HB4.out.size; exact this), noRing_row _ _, noRing_apart _ _⟩
              rw [← hgR] at XR ⊢
              have b1R : u4.heap.size ≤ gR := by omega
              have b2R : gR < u5.heap.size := by omega
              clear hgR hown hg hltR
              have TR5 := Lib.hid ((TR4.out.below hb5).more hb5.size)
              have BX5 := Lib.hid (BX4.out.step hb5)
              have HB5 := Lib.hid (held_trans HB4.out hb5)
              have HV5 := Lib.hid (((HV4).out.below hb5).more hb5.size)
              have hs5 := hb5.size
              have RG5 := Lib.hid XR
              clear XR
              refine hK.out _ _ trivial (fun hHeld => ?_)
              clear hK K
              try dsimp only
              refine wpAnyH_ready (rs := [10]) (by kernel_rfl) (by simp) ?_
              refine AllReadyH.cons rfl (fun K hK => ?_) AllReadyH.nil
              refine step_make_full (by rfl) (.tmp 28) (.tmp 28) 24 (by rfl) u5.heap.size 42 j0 (.slice none 0 0) 1 Tryd.underlying24 hj0 hw0 hw1 nn (by rfl) (by rfl) hbyS (by unfold maxLen; omega) (Nat.le_refl _) ?_
              intro u6 hown hg
              rw [made_rows] at hown
              have hb6 : Below u5.heap.size u5 u6 := (Below.refl _ _).grown hg (Nat.le_refl _) (fun j hj => by cases hj)
              obtain ⟨gS, hgS⟩ : ∃ g, g = u5.heap.size := ⟨_, rfl⟩
              have hltS := (hown.lt _ rfl)
              have XS : XO csL 1 42 w2.heap.size u6 (.slice (some ⟨u5.heap.size, 0, none⟩) nn nn) nn (List.replicate nn noRing) := ⟨zown_base' hown (by have := HB5.out.size; exact this), noRing_row _ _, noRing_apart _ _⟩
              rw [← hgS] at XS ⊢
              have b1S : u5.heap.size ≤ gS := by omega
              have b2S : gS < u6.heap.size := by omega
              clear hgS hown hg hltS
              have TR6 := Lib.hid ((TR5.out.below hb6).more hb6.size)
              have RG6 := Lib.hid (RG5.out.step hb6)
              have BX6 := Lib.hid (BX5.out.step hb6)
              have HB6 := Lib.hid (held_trans HB5.out hb6)
              have HV6 := Lib.hid (((HV5).out.below hb6).more hb6.size)
              have hs6 := hb6.size
              have RW6 := Lib.hid XS
              clear XS
              refine hK.out _ _ trivial (fun hHeld => ?_)
              clear hK K
              try dsimp only
              refine wpAnyH_takesJ (i := 11) (v := (.agg #[.slice A1 nt c1, .int .i64 size, .slice (some ⟨gR, 0, none⟩) np np, .slice (some ⟨gS, 0, none⟩) nn nn, .int .u64 0])) (some 30) rfl rfl (by kernel_rfl) (by kernel_rfl) (by kernel_rfl) (fun _ _ _ h => h) (Or.inl ⟨by rfl, (by intro W9 hSw; (try dsimp only at hSw); go_simp; first | done | with_reducible rfl)⟩) (by assumption) ?_
              simp only [Act.put, List.setIfInBounds_toArray]; try simp only [List.set_cons_zero, List.set_cons_succ]
              refine wpAnyH_ready (rs := [13]) (by kernel_rfl) (by simp) ?_
              refine AllReadyH.cons rfl (fun K hK => ?_) AllReadyH.nil
              have y0 := BX6.out.b5.c0
              have y1 := BX6.out.b5.c1
              have y2 := BX6.out.b5.c2
              have y3 := BX6.out.b5.c3
              have y4 := BX6.out.b5.c4
              have g0 := BX6.out.f0
              have g1 := BX6.out.f1
              have g2 := BX6.out.f2
              have g3 := BX6.out.f3
              have g4 := BX6.out.f4
              go_simp
              refine hK.out _ _ trivial (fun hHeld => ?_)
              clear hK K
              try dsimp only
              refine wpAnyH_done (by kernel_rfl) ?_ _
              go_wp2_with fail
              go_meet
              exact ⟨A1, c1, gR, gS, N, rfl, Lib.hid (NwR.of (nt := nt) (size := size) TR6.out hTF RG6.out RW6.out BX6.out (fun ad hA => by have := hTB ad hA; omega) (by omega) (by omega) hNL HB6.out)⟩
            · skip
              refine step_make_full (by rfl) (.tmp 28) (.tmp 28) 24 (by rfl) u4.heap.size 42 j0 (.slice none 0 0) 1 Tryd.underlying24 hj0 hw0 hw1 nn (by rfl) (by rfl) hbyS (by unfold maxLen; omega) (Nat.le_refl _) ?_
              intro u5 hown hg
              rw [made_rows] at hown
              have hb5 : Below u4.heap.size u4 u5 := (Below.refl _ _).grown hg (Nat.le_refl _) (fun j hj => by cases hj)
              obtain ⟨gS, hgS⟩ : ∃ g, g = u4.heap.size := ⟨_, rfl⟩
              have hltS := (hown.lt _ rfl)
              have XS : XO csL 1 42 w2.heap.size u5 (.slice (some ⟨u4.heap.size, 0, none⟩) nn nn) nn (List.replicate nn noRing) := ⟨zown_base' hown (by have := HB4.out.size; exact this), noRing_row _ _, noRing_apart _ _⟩
              rw [← hgS] at XS ⊢
              have b1S : u4.heap.size ≤ gS := by omega
              have b2S : gS < u5.heap.size := by omega
              clear hgS hown hg hltS
              have TR5 := Lib.hid ((TR4.out.below hb5).more hb5.size)
              have BX5 := Lib.hid (BX4.out.step hb5)
              have HB5 := Lib.hid (held_trans HB4.out hb5)
              have HV5 := Lib.hid (((HV4).out.below hb5).more hb5.size)
              have hs5 := hb5.size
              have RW5 := Lib.hid XS
              clear XS
              refine hK.out _ _ trivial (fun hHeld => ?_)
              clear hK K
              try dsimp only
              refine wpAnyH_ready (rs := [6]) (by kernel_rfl) (by simp) ?_
              refine AllReadyH.cons rfl (fun K hK => ?_) AllReadyH.nil
              refine step_make_full (by rfl) (.tmp 24) (.tmp 24) 30 (by rfl) u5.heap.size 45 i0 (.agg #[.int .i64 0, .slice none 0 0]) 2 Tryd.underlying30 hi0 hz0 hz1 np (by rfl) (by rfl) hbyR (by unfold maxLen; omega) (Nat.le_refl _) ?_
              intro u6 hown hg
              rw [made_rings] at hown
              have hb6 : Below u5.heap.size u5 u6 := (Below.refl _ _).grown hg (Nat.le_refl _) (fun j hj => by cases hj)
              obtain ⟨gR, hgR⟩ : ∃ g, g = u5.heap.size := ⟨_, rfl⟩
              have hltR := (hown.lt _ rfl)
              have XR : XO csG 2 45 w2.heap.size u6 (.slice (some ⟨u5.heap.size, 0, none⟩) np np) np (List.replicate np noRing) := ⟨zown_base' hown (by have := HB5.out.size; exact this), noRing_row _ _, noRing_apart _ _⟩
              rw [← hgR] at XR ⊢
              have b1R : u5.heap.size ≤ gR := by omega
              have b2R : gR < u6.heap.size := by omega
              clear hgR hown hg hltR
              have TR6 := Lib.hid ((TR5.out.below hb6).more hb6.size)
              have RW6 := Lib.hid (RW5.out.step hb6)
              have BX6 := Lib.hid (BX5.out.step hb6)
              have HB6 := Lib.hid (held_trans HB5.out hb6)
              have HV6 := Lib.hid (((HV5).out.below hb6).more hb6.size)
              have hs6 := hb6.size
              have RG6 := Lib.hid XR
              clear XR
              refine hK.out _ _ trivial (fun hHeld => ?_)
              clear hK K
              try dsimp only
              refine wpAnyH_takesJ (i := 11) (v := (.agg #[.slice A1 nt c1, .int .i64 size, .slice (some ⟨gR, 0, none⟩) np np, .slice (some ⟨gS, 0, none⟩) nn nn, .int .u64 0])) (some 30) rfl rfl (by kernel_rfl) (by kernel_rfl) (by kernel_rfl) (fun _ _ _ h => h) (Or.inl ⟨by rfl, (by intro W9 hSw; (try dsimp only at hSw); go_simp; first | done | with_reducible rfl)⟩) (by assumption) ?_
              simp only [Act.put, List.setIfInBounds_toArray]; try simp only [List.set_cons_zero, List.set_cons_succ]
              refine wpAnyH_ready (rs := [13]) (by kernel_rfl) (by simp) ?_
              refine AllReadyH.cons rfl (fun K hK => ?_) AllReadyH.nil
              have y0 := BX6.out.b5.c0
              have y1 := BX6.out.b5.c1
              have y2 := BX6.out.b5.c2
              have y3 := BX6.out.b5.c3
              have y4 := BX6.out.b5.c4
              have g0 := BX6.out.f0
              have g1 := BX6.out.f1
              have g2 := BX6.out.f2
              have g3 := BX6.out.f3
              have g4 := BX6.out.f4
              go_simp
              refine hK.out _ _ trivial (fun hHeld => ?_)
              clear hK K
              try dsimp only
              refine wpAnyH_done (by kernel_rfl) ?_ _
              go_wp2_with fail
              go_meet
              exact ⟨A1, c1, gR, gS, N, rfl, Lib.hid (NwR.of (nt := nt) (size := size) TR6.out hTF RG6.out RW6.out BX6.out (fun ad hA => by have := hTB ad hA; omega) (by omega) (by omega) hNL HB6.out)⟩
      · skip
        go_simp
        have hb2 : Below u1.heap.size u1 (u1.alloc (.cells #[.slice none 0 0, .int .i64 0, .slice none 0 0, .slice none 0 0, .int .u64 0] 33)) := below_new u1 _
        have hBX := C5.new u1 (.slice none 0 0) (.int .i64 0) (.slice none 0 0) (.slice none 0 0) (.int .u64 0) 33
        obtain ⟨u2, hu⟩ : ∃ u, u = (u1.alloc (.cells #[.slice none 0 0, .int .i64 0, .slice none 0 0, .slice none 0 0, .int .u64 0] 33)) := ⟨_, rfl⟩
        rw [← hu] at hb2 hBX ⊢
        clear hu
        obtain ⟨N, hN⟩ : ∃ N, N = u1.heap.size := ⟨_, rfl⟩
        rw [← hN] at hBX ⊢
        have b1N : u1.heap.size ≤ N := by omega
        have b2N := hBX.lt
        have hNL : w2.heap.size ≤ N := by have := HB1.out.size; omega
        clear hN
        have TR2 := Lib.hid ((TR1.out.below hb2).more hb2.size)
        have HB2 := Lib.hid (held_trans HB1.out hb2)
        have HV2 := Lib.hid (((HV1).out.below hb2).more hb2.size)
        have hs2 := hb2.size
        have BX2 := Lib.hid hBX
        clear hBX
        refine hK.out _ _ trivial (fun hHeld => ?_)
        clear hK K
        try dsimp only
        refine wpAnyH_ready (rs := [4]) (by kernel_rfl) (by simp) ?_
        refine AllReadyH.cons rfl (fun K hK => ?_) AllReadyH.nil
        go_simp
        go_at_call 51
        refine (HPR.out _ (by exact HV2.out)).mono ?_
        rintro e u3 hmade
        obtain ⟨A4, c4, rfl, hI3, hbq⟩ := hmade
        rw [← HNP.out]
        have hb3 : Below u2.heap.size u2 u3 := hbq
        clear hbq
        have TR3 := Lib.hid ((TR2.out.below hb3).more hb3.size)
        have BX3 := Lib.hid (BX2.out.step hb3)
        have HB3 := Lib.hid (held_trans HB2.out hb3)
        have HV3 := Lib.hid (((HV2).out.below hb3).more hb3.size)
        have hs3 := hb3.size
        clear hI3
        refine hK.out _ _ trivial (fun hHeld => ?_)
        clear hK K
        try dsimp only
        refine wpAnyH_takesJ (i := 5) (v := (.int .i64 (np : Nat))) (some 24) rfl rfl (by kernel_rfl) (by kernel_rfl) (by kernel_rfl) (fun _ _ _ h => h) (Or.inl ⟨by rfl, (by intro W9 hSw; (try dsimp only at hSw); go_simp; first | done | with_reducible rfl)⟩) (by assumption) ?_
        simp only [Act.put, List.setIfInBounds_toArray]; try simp only [List.set_cons_zero, List.set_cons_succ]
        refine wpAnyH_ready (rs := [6, 8]) (by kernel_rfl) (by simp) ?_
        refine AllReadyH.cons rfl (fun K hK => ?_) (AllReadyH.cons rfl (fun K hK => ?_) AllReadyH.nil)
        · skip
          refine step_make_full (by rfl) (.tmp 24) (.tmp 24) 30 (by rfl) u3.heap.size 45 i0 (.agg #[.int .i64 0, .slice none 0 0]) 2 Tryd.underlying30 hi0 hz0 hz1 np (by rfl) (by rfl) hbyR (by unfold maxLen; omega) (Nat.le_refl _) ?_
          intro u4 hown hg
          rw [made_rings] at hown
          have hb4 : Below u3.heap.size u3 u4 := (Below.refl _ _).grown hg (Nat.le_refl _) (fun j hj => by cases hj)
          obtain ⟨gR, hgR⟩ : ∃ g, g = u3.heap.size := ⟨_, rfl⟩
          have hltR := (hown.lt _ rfl)
          have XR : XO csG 2 45 w2.heap.size u4 (.slice (some ⟨u3.heap.size, 0, none⟩) np np) np (List.replicate np noRing) := ⟨zown_base' hown (by have := HB3.out.size; exact this), noRing_row _ _, noRing_apart _ _⟩
          rw [← hgR] at XR ⊢
          have b1R : u3.heap.size ≤ gR := by omega
          have b2R : gR < u4.heap.size := by omega
          clear hgR hown hg hltR
          have TR4 := Lib.hid ((TR3.out.below hb4).more hb4.size)
          have BX4 := Lib.hid (BX3.out.step hb4)
          have HB4 := Lib.hid (held_trans HB3.out hb4)
          have HV4 := Lib.hid (((HV3).out.below hb4).more hb4.size)
          have hs4 := hb4.size
          have RG4 := Lib.hid XR
          clear XR
          refine hK.out _ _ trivial (fun hHeld => ?_)
          clear hK K
          try dsimp only
          refine wpAnyH_ready (rs := [8]) (by kernel_rfl) (by simp) ?_
          refine AllReadyH.cons rfl (fun K hK => ?_) AllReadyH.nil
          go_simp
          go_at_call 52
          refine (HND.out _ (by exact HV4.out)).mono ?_
          rintro e u5 hmade
          obtain ⟨A8, c8, rfl, hI5, hbq⟩ := hmade
          rw [← HNN.out]
          have hb5 : Below u4.heap.size u4 u5 := hbq
          clear hbq
          have TR5 := Lib.hid ((TR4.out.below hb5).more hb5.size)
          have RG5 := Lib.hid (RG4.out.step hb5)
          have BX5 := Lib.hid (BX4.out.step hb5)
          have HB5 := Lib.hid (held_trans HB4.out hb5)
          have HV5 := Lib.hid (((HV4).out.below hb5).more hb5.size)
          have hs5 := hb5.size
          clear hI5
          refine hK.out _ _ trivial (fun hHeld => ?_)
          clear hK K
          try dsimp only
          refine wpAnyH_takesJ (i := 9) (v := (.int .i64 (nn : Nat))) (some 28) rfl rfl (by kernel_rfl) (by kernel_rfl) (by kernel_rfl) (fun _ _ _ h => h) (Or.inl ⟨by rfl, (by intro W9 hSw; (try dsimp only at hSw); go_simp; first | done | with_reducible rfl)⟩) (by assumption) ?_
          simp only [Act.put, List.setIfInBounds_toArray]; try simp only [List.set_cons_zero, List.set_cons_succ]
          refine wpAnyH_ready (rs := [10]) (by kernel_rfl) (by simp) ?_
          refine AllReadyH.cons rfl (fun K hK => ?_) AllReadyH.nil
          refine step_make_full (by rfl) (.tmp 28) (.tmp 28) 24 (by rfl) u5.heap.size 42 j0 (.slice none 0 0) 1 Tryd.underlying24 hj0 hw0 hw1 nn (by rfl) (by rfl) hbyS (by unfold maxLen; omega) (Nat.le_refl _) ?_
          intro u6 hown hg
          rw [made_rows] at hown
          have hb6 : Below u5.heap.size u5 u6 := (Below.refl _ _).grown hg (Nat.le_refl _) (fun j hj => by cases hj)
          obtain ⟨gS, hgS⟩ : ∃ g, g = u5.heap.size := ⟨_, rfl⟩
          have hltS := (hown.lt _ rfl)
          have XS : XO csL 1 42 w2.heap.size u6 (.slice (some ⟨u5.heap.size, 0, none⟩) nn nn) nn (List.replicate nn noRing) := ⟨zown_base' hown (by have := HB5.out.size; exact this), noRing_row _ _, noRing_apart _ _⟩
          rw [← hgS] at XS ⊢
          have b1S : u5.heap.size ≤ gS := by omega
          have b2S : gS < u6.heap.size := by omega
          clear hgS hown hg hltS
          have TR6 := Lib.hid ((TR5.out.below hb6).more hb6.size)
          have RG6 := Lib.hid (RG5.out.step hb6)
          have BX6 := Lib.hid (BX5.out.step hb6)
          have HB6 := Lib.hid (held_trans HB5.out hb6)
          have HV6 := Lib.hid (((HV5).out.below hb6).more hb6.size)
          have hs6 := hb6.size
          have RW6 := Lib.hid XS
          clear XS
          refine hK.out _ _ trivial (fun hHeld => ?_)
          clear hK K
          try dsimp only
          refine wpAnyH_takesJ (i := 11) (v := (.agg #[.slice A1 nt c1, .int .i64 size, .slice (some ⟨gR, 0, none⟩) np np, .slice (some ⟨gS, 0, none⟩) nn nn, .int .u64 0])) (some 30) rfl rfl (by kernel_rfl) (by kernel_rfl) (by kernel_rfl) (fun _ _ _ h => h) (Or.inl ⟨by rfl, (by intro W9 hSw; (try dsimp only at hSw); go_simp; first | done | with_reducible rfl)⟩) (by assumption) ?_
          simp only [Act.put, List.setIfInBounds_toArray]; try simp only [List.set_cons_zero, List.set_cons_succ]
          refine wpAnyH_ready (rs := [13]) (by kernel_rfl) (by simp) ?_
          refine AllReadyH.cons rfl (fun K hK => ?_) AllReadyH.nil
          have y0 := BX6.out.b5.c0
          have y1 := BX6.out.b5.c1
          have y2 := BX6.out.b5.c2
          have y3 := BX6.out.b5.c3
          have y4 := BX6.out.b5.c4
          have g0 := BX6.out.f0
          have g1 := BX6.out.f1
          have g2 := BX6.out.f2
          have g3 := BX6.out.f3
          have g4 := BX6.out.f4
          go_simp
          refine hK.out _ _ trivial (fun hHeld => ?_)
          clear hK K
          try dsimp only
          refine wpAnyH_done (by kernel_rfl) ?_ _
          go_wp2_with fail
          go_meet
          exact ⟨A1, c1, gR, gS, N, rfl, Lib.hid (NwR.of (nt := nt) (size := size) TR6.out hTF RG6.out RW6.out BX6.out (fun ad hA => by have := hTB ad hA; omega) (by omega) (by omega) hNL HB6.out)⟩
        · skip
          go_simp
          go_at_call 52
          refine (HND.out _ (by exact HV3.out)).mono ?_
          rintro e u4 hmade
          obtain ⟨A8, c8, rfl, hI4, hbq⟩ := hmade
          rw [← HNN.out]
          have hb4 : Below u3.heap.size u3 u4 := hbq
          clear hbq
          have TR4 := Lib.hid ((TR3.out.below hb4).more hb4.size)
          have BX4 := Lib.hid (BX3.out.step hb4)
          have HB4 := Lib.hid (held_trans HB3.out hb4)
          have HV4 := Lib.hid (((HV3).out.below hb4).more hb4.size)
          have hs4 := hb4.size
          clear hI4
          refine hK.out _ _ trivial (fun hHeld => ?_)
          clear hK K
          try dsimp only
          refine wpAnyH_takesJ (i := 9) (v := (.int .i64 (nn : Nat))) (some 28) rfl rfl (by kernel_rfl) (by kernel_rfl) (by kernel_rfl) (fun _ _ _ h => h) (Or.inl ⟨by rfl, (by intro W9 hSw; (try dsimp only at hSw); go_simp; first | done | with_reducible rfl)⟩) (by assumption) ?_
          simp only [Act.put, List.setIfInBounds_toArray]; try simp only [List.set_cons_zero, List.set_cons_succ]
          refine wpAnyH_ready (rs := [6, 10]) (by kernel_rfl) (by simp) ?_
          refine AllReadyH.cons rfl (fun K hK => ?_) (AllReadyH.cons rfl (fun K hK => ?_) AllReadyH.nil)
          · skip
            refine step_make_full (by rfl) (.tmp 24) (.tmp 24) 30 (by rfl) u4.heap.size 45 i0 (.agg #[.int .i64 0, .slice none 0 0]) 2 Tryd.underlying30 hi0 hz0 hz1 np (by rfl) (by rfl) hbyR (by unfold maxLen; omega) (Nat.le_refl _) ?_
            intro u5 hown hg
            rw [made_rings] at hown
            have hb5 : Below u4.heap.size u4 u5 := (Below.refl _ _).grown hg (Nat.le_refl _) (fun j hj => by cases hj)
            obtain ⟨gR, hgR⟩ : ∃ g, g = u4.heap.size := ⟨_, rfl⟩
            have hltR := (hown.lt _ rfl)
            have XR : XO csG 2 45 w2.heap.size u5 (.slice (some ⟨u4.heap.size, 0, none⟩) np np) np (List.replicate np noRing) := ⟨zown_base' hown (by have := HB4.out.size; exact this), noRing_row _ _, noRing_apart _ _⟩
            rw [← hgR] at XR ⊢
            have b1R : u4.heap.size ≤ gR := by omega
            have b2R : gR < u5.heap.size := by omega
            clear hgR hown hg hltR
            have TR5 := Lib.hid ((TR4.out.below hb5).more hb5.size)
            have BX5 := Lib.hid (BX4.out.step hb5)
            have HB5 := Lib.hid (held_trans HB4.out hb5)
            have HV5 := Lib.hid (((HV4).out.below hb5).more hb5.size)
            have hs5 := hb5.size
            have RG5 := Lib.hid XR
            clear XR
            refine hK.out _ _ trivial (fun hHeld => ?_)
            clear hK K
            try dsimp only
            refine wpAnyH_ready (rs := [10]) (by kernel_rfl) (by simp) ?_
            refine AllReadyH.cons rfl (fun K hK => ?_) AllReadyH.nil
            refine step_make_full (by rfl) (.tmp 28) (.tmp 28) 24 (by rfl) u5.heap.size 42 j0 (.slice none 0 0) 1 Tryd.underlying24 hj0 hw0 hw1 nn (by rfl) (by rfl) hbyS (by unfold maxLen; omega) (Nat.le_refl _) ?_
            intro u6 hown hg
            rw [made_rows] at hown
            have hb6 : Below u5.heap.size u5 u6 := (Below.refl _ _).grown hg (Nat.le_refl _) (fun j hj => by cases hj)
            obtain ⟨gS, hgS⟩ : ∃ g, g = u5.heap.size := ⟨_, rfl⟩
            have hltS := (hown.lt _ rfl)
            have XS : XO csL 1 42 w2.heap.size u6 (.slice (some ⟨u5.heap.size, 0, none⟩) nn nn) nn (List.replicate nn noRing) := ⟨zown_base' hown (by have := HB5.out.size; exact this), noRing_row _ _, noRing_apart _ _⟩
            rw [← hgS] at XS ⊢
            have b1S : u5.heap.size ≤ gS := by omega
            have b2S : gS < u6.heap.size := by omega
            clear hgS hown hg hltS
            have TR6 := Lib.hid ((TR5.out.below hb6).more hb6.size)
            have RG6 := Lib.hid (RG5.out.step hb6)
            have BX6 := Lib.hid (BX5.out.step hb6)
            have HB6 := Lib.hid (held_trans HB5.out hb6)
            have HV6 := Lib.hid (((HV5).out.below hb6).more hb6.size)
            have hs6 := hb6.size
            have RW6 := Lib.hid XS
            clear XS
            refine hK.out _ _ trivial (fun hHeld => ?_)
            clear hK K
            try dsimp only
            refine wpAnyH_takesJ (i := 11) (v := (.agg #[.slice A1 nt c1, .int .i64 size, .slice (some ⟨gR, 0, none⟩) np np, .slice (some ⟨gS, 0, none⟩) nn nn, .int .u64 0])) (some 30) rfl rfl (by kernel_rfl) (by kernel_rfl) (by kernel_rfl) (fun _ _ _ h => h) (Or.inl ⟨by rfl, (by intro W9 hSw; (try dsimp only at hSw); go_simp; first | done | with_reducible rfl)⟩) (by assumption) ?_
            simp only [Act.put, List.setIfInBounds_toArray]; try simp only [List.set_cons_zero, List.set_cons_succ]
            refine wpAnyH_ready (rs := [13]) (by kernel_rfl) (by simp) ?_
            refine AllReadyH.cons rfl (fun K hK => ?_) AllReadyH.nil
            have y0 := BX6.out.b5.c0
            have y1 := BX6.out.b5.c1
            have y2 := BX6.out.b5.c2
            have y3 := BX6.out.b5.c3
            have y4 := BX6.out.b5.c4
            have g0 := BX6.out.f0
            have g1 := BX6.out.f1
            have g2 := BX6.out.f2
            have g3 := BX6.out.f3
            have g4 := BX6.out.f4
            go_simp
            refine hK.out _ _ trivial (fun hHeld => ?_)
            clear hK K
            try dsimp only
            refine wpAnyH_done (by kernel_rfl) ?_ _
            go_wp2_with fail
            go_meet
            exact ⟨A1, c1, gR, gS, N, rfl, Lib.hid (NwR.of (nt := nt) (size := size) TR6.out hTF RG6.out RW6.out BX6.out (fun ad hA => by have := hTB ad hA; omega) (by omega) (by omega) hNL HB6.out)⟩
          · skip
            refine step_make_full (by rfl) (.tmp 28) (.tmp 28) 24 (by rfl) u4.heap.size 42 j0 (.slice none 0 0) 1 Tryd.underlying24 hj0 hw0 hw1 nn (by rfl) (by rfl) hbyS (by unfold maxLen; omega) (Nat.le_refl _) ?_
            intro u5 hown hg
            rw [made_rows] at hown
            have hb5 : Below u4.heap.size u4 u5 := (Below.refl _ _).grown hg (Nat.le_refl _) (fun j hj => by cases hj)
            obtain ⟨gS, hgS⟩ : ∃ g, g = u4.heap.size := ⟨_, rfl⟩
            have hltS := (hown.lt _ rfl)
            have XS : XO csL 1 42 w2.heap.size u5 (.slice (some ⟨u4.heap.size, 0, none⟩) nn nn) nn (List.replicate nn noRing) := ⟨zown_base' hown (by have := HB4.out.size; exact this), noRing_row _ _, noRing_apart _ _⟩
            rw [← hgS] at XS ⊢
            have b1S : u4.heap.size ≤ gS := by omega
            have b2S : gS < u5.heap.size := by omega
            clear hgS hown hg hltS
            have TR5 := Lib.hid ((TR4.out.below hb5).more hb5.size)
            have BX5 := Lib.hid (BX4.out.step hb5)
            have HB5 := Lib.hid (held_trans HB4.out hb5)
            have HV5 := Lib.hid (((HV4).out.below hb5).more hb5.size)
            have hs5 := hb5.size
            have RW5 := Lib.hid XS
            clear XS
            refine hK.out _ _ trivial (fun hHeld => ?_)
            clear hK K
            try dsimp only
            refine wpAnyH_ready (rs := [6]) (by kernel_rfl) (by simp) ?_
            refine AllReadyH.cons rfl (fun K hK => ?_) AllReadyH.nil
            refine step_make_full (by rfl) (.tmp 24) (.tmp 24) 30 (by rfl) u5.heap.size 45 i0 (.agg #[.int .i64 0, .slice none 0 0]) 2 Tryd.underlying30 hi0 hz0 hz1 np (by rfl) (by rfl) hbyR (by unfold maxLen; omega) (Nat.le_refl _) ?_
            intro u6 hown hg
            rw [made_rings] at hown
            have hb6 : Below u5.heap.size u5 u6 := (Below.refl _ _).grown hg (Nat.le_refl _) (fun j hj => by cases hj)
            obtain ⟨gR, hgR⟩ : ∃ g, g = u5.heap.size := ⟨_, rfl⟩
            have hltR := (hown.lt _ rfl)
            have XR : XO csG 2 45 w2.heap.size u6 (.slice (some ⟨u5.heap.size, 0, none⟩) np np) np (List.replicate np noRing) := ⟨zown_base' hown (by have := HB5.out.size; exact this), noRing_row _ _, noRing_apart _ _⟩
            rw [← hgR] at XR ⊢
            have b1R : u5.heap.size ≤ gR := by omega
            have b2R : gR < u6.heap.size := by omega
            clear hgR hown hg hltR
            have TR6 := Lib.hid ((TR5.out.below hb6).more hb6.size)
            have RW6 := Lib.hid (RW5.out.step hb6)
            have BX6 := Lib.hid (BX5.out.step hb6)
            have HB6 := Lib.hid (held_trans HB5.out hb6)
            have HV6 := Lib.hid (((HV5).out.below hb6).more hb6.size)
            have hs6 := hb6.size
            have RG6 := Lib.hid XR
            clear XR
            refine hK.out _ _ trivial (fun hHeld => ?_)
            clear hK K
            try dsimp only
            refine wpAnyH_takesJ (i := 11) (v := (.agg #[.slice A1 nt c1, .int .i64 size, .slice (some ⟨gR, 0, none⟩) np np, .slice (some ⟨gS, 0, none⟩) nn nn, .int .u64 0])) (some 30) rfl rfl (by kernel_rfl) (by kernel_rfl) (by kernel_rfl) (fun _ _ _ h => h) (Or.inl ⟨by rfl, (by intro W9 hSw; (try dsimp only at hSw); go_simp; first | done | with_reducible rfl)⟩) (by assumption) ?_
            simp only [Act.put, List.setIfInBounds_toArray]; try simp only [List.set_cons_zero, List.set_cons_succ]
            refine wpAnyH_ready (rs := [13]) (by kernel_rfl) (by simp) ?_
            refine AllReadyH.cons rfl (fun K hK => ?_) AllReadyH.nil
            have y0 := BX6.out.b5.c0
            have y1 := BX6.out.b5.c1
            have y2 := BX6.out.b5.c2
            have y3 := BX6.out.b5.c3
            have y4 := BX6.out.b5.c4
            have g0 := BX6.out.f0
            have g1 := BX6.out.f1
            have g2 := BX6.out.f2
            have g3 := BX6.out.f3
            have g4 := BX6.out.f4
            go_simp
            refine hK.out _ _ trivial (fun hHeld => ?_)
            clear hK K
            try dsimp only
            refine wpAnyH_done (by kernel_rfl) ?_ _
            go_wp2_with fail
            go_meet
            exact ⟨A1, c1, gR, gS, N, rfl, Lib.hid (NwR.of (nt := nt) (size := size) TR6.out hTF RG6.out RW6.out BX6.out (fun ad hA => by have := hTB ad hA; omega) (by omega) (by omega) hNL HB6.out)⟩
    · skip
      go_simp
      have hb1 : Below w2.heap.size w2 (w2.alloc (.cells #[.slice none 0 0, .int .i64 0, .slice none 0 0, .slice none 0 0, .int .u64 0] 33)).drew := (below_new w2 _).drew
      have hBX := (C5.new w2 (.slice none 0 0) (.int .i64 0) (.slice none 0 0) (.slice none 0 0) (.int .u64 0) 33).drew
      obtain ⟨u1, hu⟩ : ∃ u, u = (w2.alloc (.cells #[.slice none 0 0, .int .i64 0, .slice none 0 0, .slice none 0 0, .int .u64 0] 33)).drew := ⟨_, rfl⟩
      rw [← hu] at hb1 hBX ⊢
      clear hu
      obtain ⟨N, hN⟩ : ∃ N, N = w2.heap.size := ⟨_, rfl⟩
      rw [← hN] at hBX ⊢
      have b1N : w2.heap.size ≤ N := by omega
      have b2N := hBX.lt
      have hNL : w2.heap.size ≤ N := by have := HB0.out.size; omega
      clear hN
      have HB1 := Lib.hid (held_trans HB0.out hb1)
      have HV1 := Lib.hid (((HVW).out.below hb1).more hb1.size)
      have hs1 := hb1.size
      have BX1 := Lib.hid hBX
      clear hBX
      refine hK.out _ _ trivial (fun hHeld => ?_)
      clear hK K
      try dsimp only
      refine wpAnyH_ready (rs := [1]) (by kernel_rfl) (by simp) ?_
      refine AllReadyH.cons rfl (fun K hK => ?_) AllReadyH.nil
      go_simp
      go_at_call 50
      refine (HCL.out _ (by exact HV1.out)).mono ?_
      rintro e u2 ⟨A1, c1, rfl, hv2, hf2, hbq⟩
      have hb2 : Below u1.heap.size u1 u2 := hbq
      clear hbq
      have BX2 := Lib.hid (BX1.out.step hb2)
      have HB2 := Lib.hid (held_trans HB1.out hb2)
      have HV2 := Lib.hid (((HV1).out.below hb2).more hb2.size)
      have hs2 := hb2.size
      have TR2 := Lib.hid hv2
      have hTF : From w2.heap.size A1 := hf2.mono (by have := HB1.out.size; exact this)
      have hTB : ∀ ad, A1 = some ad → u1.heap.size ≤ ad.block ∧ ad.block < u2.heap.size := fun ad hA => ⟨hf2 ad hA, HTL.out _ _ _ hv2 ad hA⟩
      clear hv2 hf2
      refine hK.out _ _ trivial (fun hHeld => ?_)
      clear hK K
      try dsimp only
      refine wpAnyH_ready (rs := [4]) (by kernel_rfl) (by simp) ?_
      refine AllReadyH.cons rfl (fun K hK => ?_) AllReadyH.nil
      go_simp
      go_at_call 51
      refine (HPR.out _ (by exact HV2.out)).mono ?_
      rintro e u3 hmade
      obtain ⟨A4, c4, rfl, hI3, hbq⟩ := hmade
      rw [← HNP.out]
      have hb3 : Below u2.heap.size u2 u3 := hbq
      clear hbq
      have TR3 := Lib.hid ((TR2.out.below hb3).more hb3.size)
      have BX3 := Lib.hid (BX2.out.step hb3)
      have HB3 := Lib.hid (held_trans HB2.out hb3)
      have HV3 := Lib.hid (((HV2).out.below hb3).more hb3.size)
      have hs3 := hb3.size
      clear hI3
      refine hK.out _ _ trivial (fun hHeld => ?_)
      clear hK K
      try dsimp only
      refine wpAnyH_takesJ (i := 5) (v := (.int .i64 (np : Nat))) (some 24) rfl rfl (by kernel_rfl) (by kernel_rfl) (by kernel_rfl) (fun _ _ _ h => h) (Or.inl ⟨by rfl, (by intro W9 hSw; (try dsimp only at hSw); go_simp; first | done | with_reducible rfl)⟩) (by assumption) ?_
      simp only [Act.put, List.setIfInBounds_toArray]; try simp only [List.set_cons_zero, List.set_cons_succ]
      refine wpAnyH_ready (rs := [6, 8]) (by kernel_rfl) (by simp) ?_
      refine AllReadyH.cons rfl (fun K hK => ?_) (AllReadyH.cons rfl (fun K hK => ?_) AllReadyH.nil)
      · skip
        refine step_make_full (by rfl) (.tmp 24) (.tmp 24) 30 (by rfl) u3.heap.size 45 i0 (.agg #[.int .i64 0, .slice none 0 0]) 2 Tryd.underlying30 hi0 hz0 hz1 np (by rfl) (by rfl) hbyR (by unfold maxLen; omega) (Nat.le_refl _) ?_
        intro u4 hown hg
        rw [made_rings] at hown
        have hb4 : Below u3.heap.size u3 u4 := (Below.refl _ _).grown hg (Nat.le_refl _) (fun j hj => by cases hj)
        obtain ⟨gR, hgR⟩ : ∃ g, g = u3.heap.size := ⟨_, rfl⟩
        have hltR := (hown.lt _ rfl)
        have XR : XO csG 2 45 w2.heap.size u4 (.slice (some ⟨u3.heap.size, 0, none⟩) np np) np (List.replicate np noRing) := ⟨zown_base' hown (by have := HB3.out.size; exact this), noRing_row _ _, noRing_apart _ _⟩
        rw [← hgR] at XR ⊢
        have b1R : u3.heap.size ≤ gR := by omega
        have b2R : gR < u4.heap.size := by omega
        clear hgR hown hg hltR
        have TR4 := Lib.hid ((TR3.out.below hb4).more hb4.size)
        have BX4 := Lib.hid (BX3.out.step hb4)
        have HB4 := Lib.hid (held_trans HB3.out hb4)
        have HV4 := Lib.hid (((HV3).out.below hb4).more hb4.size)
        have hs4 := hb4.size
        have RG4 := Lib.hid XR
        clear XR
        refine hK.out _ _ trivial (fun hHeld => ?_)
        clear hK K
        try dsimp only
        refine wpAnyH_ready (rs := [8]) (by kernel_rfl) (by simp) ?_
        refine AllReadyH.cons rfl (fun K hK => ?_) AllReadyH.nil
        go_simp
        go_at_call 52
        refine (HND.out _ (by exact HV4.out)).mono ?_
        rintro e u5 hmade
        obtain ⟨A8, c8, rfl, hI5, hbq⟩ := hmade
        rw [← HNN.out]
        have hb5 : Below u4.heap.size u4 u5 := hbq
        clear hbq
        have TR5 := Lib.hid ((TR4.out.below hb5).more hb5.size)
        have RG5 := Lib.hid (RG4.out.step hb5)
        have BX5 := Lib.hid (BX4.out.step hb5)
        have HB5 := Lib.hid (held_trans HB4.out hb5)
        have HV5 := Lib.hid (((HV4).out.below hb5).more hb5.size)
        have hs5 := hb5.size
        clear hI5
        refine hK.out _ _ trivial (fun hHeld => ?_)
        clear hK K
        try dsimp only
        refine wpAnyH_takesJ (i := 9) (v := (.int .i64 (nn : Nat))) (some 28) rfl rfl (by kernel_rfl) (by kernel_rfl) (by kernel_rfl) (fun _ _ _ h => h) (Or.inl ⟨by rfl, (by intro W9 hSw; (try dsimp only at hSw); go_simp; first | done | with_reducible rfl)⟩) (by assumption) ?_
        simp only [Act.put, List.setIfInBounds_toArray]; try simp only [List.set_cons_zero, List.set_cons_succ]
        refine wpAnyH_ready (rs := [10]) (by kernel_rfl) (by simp) ?_
        refine AllReadyH.cons rfl (fun K hK => ?_) AllReadyH.nil
        refine step_make_full (by rfl) (.tmp 28) (.tmp 28) 24 (by rfl) u5.heap.size 42 j0 (.slice none 0 0) 1 Tryd.underlying24 hj0 hw0 hw1 nn (by rfl) (by rfl) hbyS (by unfold maxLen; omega) (Nat.le_refl _) ?_
        intro u6 hown hg
        rw [made_rows] at hown
        have hb6 : Below u5.heap.size u5 u6 := (Below.refl _ _).grown hg (Nat.le_refl _) (fun j hj => by cases hj)
        obtain ⟨gS, hgS⟩ : ∃ g, g = u5.heap.size := ⟨_, rfl⟩
        have hltS := (hown.lt _ rfl)
        have XS : XO csL 1 42 w2.heap.size u6 (.slice (some ⟨u5.heap.size, 0, none⟩) nn nn) nn (List.replicate nn noRing) := ⟨zown_base' hown (by have := HB5.out.size; exact this), noRing_row _ _, noRing_apart _ _⟩
        rw [← hgS] at XS ⊢
        have b1S : u5.heap.size ≤ gS := by omega
        have b2S : gS < u6.heap.size := by omega
        clear hgS hown hg hltS
        have TR6 := Lib.hid ((TR5.out.below hb6).more hb6.size)
        have RG6 := Lib.hid (RG5.out.step hb6)
        have BX6 := Lib.hid (BX5.out.step hb6)
        have HB6 := Lib.hid (held_trans HB5.out hb6)
        have HV6 := Lib.hid (((HV5).out.below hb6).more hb6.size)
        have hs6 := hb6.size
        have RW6 := Lib.hid XS
        clear XS
        refine hK.out _ _ trivial (fun hHeld => ?_)
        clear hK K
        try dsimp only
        refine wpAnyH_takesJ (i := 11) (v := (.agg #[.slice A1 nt c1, .int .i64 size, .slice (some ⟨gR, 0, none⟩) np np, .slice (some ⟨gS, 0, none⟩) nn nn, .int .u64 0])) (some 30) rfl rfl (by kernel_rfl) (by kernel_rfl) (by kernel_rfl) (fun _ _ _ h => h) (Or.inl ⟨by rfl, (by intro W9 hSw; (try dsimp only at hSw); go_simp; first | done | with_reducible rfl)⟩) (by assumption) ?_
        simp only [Act.put, List.setIfInBounds_toArray]; try simp only [List.set_cons_zero, List.set_cons_succ]
        refine wpAnyH_ready (rs := [13]) (by kernel_rfl) (by simp) ?_
        refine AllReadyH.cons rfl (fun K hK => ?_) AllReadyH.nil
        have y0 := BX6.out.b5.c0
        have y1 := BX6.out.b5.c1
        have y2 := BX6.out.b5.c2
        have y3 := BX6.out.b5.c3
        have y4 := BX6.out.b5.c4
        have g0 := BX6.out.f0
        have g1 := BX6.out.f1
        have g2 := BX6.out.f2
        have g3 := BX6.out.f3
        have g4 := BX6.out.f4
        go_simp
        refine hK.out _ _ trivial (fun hHeld => ?_)
        clear hK K
        try dsimp only
        refine wpAnyH_done (by kernel_rfl) ?_ _
        go_wp2_with fail
        go_meet
        exact ⟨A1, c1, gR, gS, N, rfl, Lib.hid (NwR.of (nt := nt) (size := size) TR6.out hTF RG6.out RW6.out BX6.out (fun ad hA => by have := hTB ad hA; omega) (by omega) (by omega) hNL HB6.out)⟩
      · skip
        go_simp
        go_at_call 52
        refine (HND.out _ (by exact HV3.out)).mono ?_
        rintro e u4 hmade
        obtain ⟨A8, c8, rfl, hI4, hbq⟩ := hmade
        rw [← HNN.out]
        have hb4 : Below u3.heap.size u3 u4 := hbq
        clear hbq
        have TR4 := Lib.hid ((TR3.out.below hb4).more hb4.size)
        have BX4 := Lib.hid (BX3.out.step hb4)
        have HB4 := Lib.hid (held_trans HB3.out hb4)
        have HV4 := Lib.hid (((HV3).out.below hb4).more hb4.size)
        have hs4 := hb4.size
        clear hI4
        refine hK.out _ _ trivial (fun hHeld => ?_)
        clear hK K
        try dsimp only
        refine wpAnyH_takesJ (i := 9) (v := (.int .i64 (nn : Nat))) (some 28) rfl rfl (by kernel_rfl) (by kernel_rfl) (by kernel_rfl) (fun _ _ _ h => h) (Or.inl ⟨by rfl, (by intro W9 hSw; (try dsimp only at hSw); go_simp; first | done | with_reducible rfl)⟩) (by assumption) ?_
        simp only [Act.put, List.setIfInBounds_toArray]; try simp only [List.set_cons_zero, List.set_cons_succ]
        refine wpAnyH_ready (rs := [6, 10]) (by kernel_rfl) (by simp) ?_
        refine AllReadyH.cons rfl (fun K hK => ?_) (AllReadyH.cons rfl (fun K hK => ?_) AllReadyH.nil)
        · skip
          refine step_make_full (by rfl) (.tmp 24) (.tmp 24) 30 (by rfl) u4.heap.size 45 i0 (.agg #[.int .i64 0, .slice none 0 0]) 2 Tryd.underlying30 hi0 hz0 hz1 np (by rfl) (by rfl) hbyR (by unfold maxLen; omega) (Nat.le_refl _) ?_
          intro u5 hown hg
          rw [made_rings] at hown
          have hb5 : Below u4.heap.size u4 u5 := (Below.refl _ _).grown hg (Nat.le_refl _) (fun j hj => by cases hj)
          obtain ⟨gR, hgR⟩ : ∃ g, g = u4.heap.size := ⟨_, rfl⟩
          have hltR := (hown.lt _ rfl)
          have XR : XO csG 2 45 w2.heap.size u5 (.slice (some ⟨u4.heap.size, 0, none⟩) np np) np (List.replicate np noRing) := ⟨zown_base' hown (by have := HB4.out.size; exact this), noRing_row _ _, noRing_apart _ _⟩
          rw [← hgR] at XR ⊢
          have b1R : u4.heap.size ≤ gR := by omega
          have b2R : gR < u5.heap.size := by omega
          clear hgR hown hg hltR
          have TR5 := Lib.hid ((TR4.out.below hb5).more hb5.size)
          have BX5 := Lib.hid (BX4.out.step hb5)
          have HB5 := Lib.hid (held_trans HB4.out hb5)
          have HV5 := Lib.hid (((HV4).out.below hb5).more hb5.size)
          have hs5 := hb5.size
          have RG5 := Lib.hid XR
          clear XR
          refine hK.out _ _ trivial (fun hHeld => ?_)
          clear hK K
          try dsimp only
          refine wpAnyH_ready (rs := [10]) (by kernel_rfl) (by simp) ?_
          refine AllReadyH.cons rfl (fun K hK => ?_) AllReadyH.nil
          refine step_make_full (by rfl) (.tmp 28) (.tmp 28) 24 (by rfl) u5.heap.size 42 j0 (.slice none 0 0) 1 Tryd.underlying24 hj0 hw0 hw1 nn (by rfl) (by rfl) hbyS (by unfold maxLen; omega) (Nat.le_refl _) ?_
          intro u6 hown hg
          rw [made_rows] at hown
          have hb6 : Below u5.heap.size u5 u6 := (Below.refl _ _).grown hg (Nat.le_refl _) (fun j hj => by cases hj)
          obtain ⟨gS, hgS⟩ : ∃ g, g = u5.heap.size := ⟨_, rfl⟩
          have hltS := (hown.lt _ rfl)
          have XS : XO csL 1 42 w2.heap.size u6 (.slice (some ⟨u5.heap.size, 0, none⟩) nn nn) nn (List.replicate nn noRing) := ⟨zown_base' hown (by have := HB5.out.size; exact this), noRing_row _ _, noRing_apart _ _⟩
          rw [← hgS] at XS ⊢
          have b1S : u5.heap.size ≤ gS := by omega
          have b2S : gS < u6.heap.size := by omega
          clear hgS hown hg hltS
          have TR6 := Lib.hid ((TR5.out.below hb6).more hb6.size)
          have RG6 := Lib.hid (RG5.out.step hb6)
          have BX6 := Lib.hid (BX5.out.step hb6)
          have HB6 := Lib.hid (held_trans HB5.out hb6)
          have HV6 := Lib.hid (((HV5).out.below hb6).more hb6.size)
          have hs6 := hb6.size
          have RW6 := Lib.hid XS
          clear XS
          refine hK.out _ _ trivial (fun hHeld => ?_)
          clear hK K
          try dsimp only
          refine wpAnyH_takesJ (i := 11) (v := (.agg #[.slice A1 nt c1, .int .i64 size, .slice (some ⟨gR, 0, none⟩) np np, .slice (some ⟨gS, 0, none⟩) nn nn, .int .u64 0])) (some 30) rfl rfl (by kernel_rfl) (by kernel_rfl) (by kernel_rfl) (fun _ _ _ h => h) (Or.inl ⟨by rfl, (by intro W9 hSw; (try dsimp only at hSw); go_simp; first | done | with_reducible rfl)⟩) (by assumption) ?_
          simp only [Act.put, List.setIfInBounds_toArray]; try simp only [List.set_cons_zero, List.set_cons_succ]
          refine wpAnyH_ready (rs := [13]) (by kernel_rfl) (by simp) ?_
          refine AllReadyH.cons rfl (fun K hK => ?_) AllReadyH.nil
          have y0 := BX6.out.b5.c0
          have y1 := BX6.out.b5.c1
          have y2 := BX6.out.b5.c2
          have y3 := BX6.out.b5.c3
          have y4 := BX6.out.b5.c4
          have g0 := BX6.out.f0
          have g1 := BX6.out.f1
          have g2 := BX6.out.f2
          have g3 := BX6.out.f3
          have g4 := BX6.out.f4
          go_simp
          refine hK.out _ _ trivial (fun hHeld => ?_)
          clear hK K
          try dsimp only
          refine wpAnyH_done (by kernel_rfl) ?_ _
          go_wp2_with fail
          go_meet
          exact ⟨A1, c1, gR, gS, N, rfl, Lib.hid (NwR.of (nt := nt) (size := size) TR6.out hTF RG6.out RW6.out BX6.out (fun ad hA => by have := hTB ad hA; omega) (by omega) (by omega) hNL HB6.out)⟩
        · skip
          refine step_make_full (by rfl) (.tmp 28) (.tmp 28) 24 (by rfl) u4.heap.size 42 j0 (.slice none 0 0) 1 Tryd.underlying24 hj0 hw0 hw1 nn (by rfl) (by rfl) hbyS (by unfold maxLen; omega) (Nat.le_refl _) ?_
          intro u5 hown hg
          rw [made_rows] at hown
          have hb5 : Below u4.heap.size u4 u5 := (Below.refl _ _).grown hg (Nat.le_refl _) (fun j hj => by cases hj)
          obtain ⟨gS, hgS⟩ : ∃ g, g = u4.heap.size := ⟨_, rfl⟩
          have hltS := (hown.lt _ rfl)
          have XS : XO csL 1 42 w2.heap.size u5 (.slice (some ⟨u4.heap.size, 0, none⟩) nn nn) nn (List.replicate nn noRing) := ⟨zown_base' hown (by have := HB4.out.size; exact this), noRing_row _ _, noRing_apart _ _⟩
          rw [← hgS] at XS ⊢
          have b1S : u4.heap.size ≤ gS := by omega
          have b2S : gS < u5.heap.size := by omega
          clear hgS hown hg hltS
          have TR5 := Lib.hid ((TR4.out.below hb5).more hb5.size)
          have BX5 := Lib.hid (BX4.out.step hb5)
          have HB5 := Lib.hid (held_trans HB4.out hb5)
          have HV5 := Lib.hid (((HV4).out.below hb5).more hb5.size)
          have hs5 := hb5.size
          have RW5 := Lib.hid XS
          clear XS
          refine hK.out _ _ trivial (fun hHeld => ?_)
          clear hK K
          try dsimp only
          refine wpAnyH_ready (rs := [6]) (by kernel_rfl) (by simp) ?_
          refine AllReadyH.cons rfl (fun K hK => ?_) AllReadyH.nil
          refine step_make_full (by rfl) (.tmp 24) (.tmp 24) 30 (by rfl) u5.heap.size 45 i0 (.agg #[.int .i64 0, .slice none 0 0]) 2 Tryd.underlying30 hi0 hz0 hz1 np (by rfl) (by rfl) hbyR (by unfold maxLen; omega) (Nat.le_refl _) ?_
          intro u6 hown hg
          rw [made_rings] at hown
          have hb6 : Below u5.heap.size u5 u6 := (Below.refl _ _).grown hg (Nat.le_refl _) (fun j hj => by cases hj)
          obtain ⟨gR, hgR⟩ : ∃ g, g = u5.heap.size := ⟨_, rfl⟩
          have hltR := (hown.lt _ rfl)
          have XR : XO csG 2 45 w2.heap.size u6 (.slice (some ⟨u5.heap.size, 0, none⟩) np np) np (List.replicate np noRing) := ⟨zown_base' hown (by have := HB5.out.size; exact this), noRing_row _ _, noRing_apart _ _⟩
          rw [← hgR] at XR ⊢
          have b1R : u5.heap.size ≤ gR := by omega
          have b2R : gR < u6.heap.size := by omega
          clear hgR hown hg hltR
          have TR6 := Lib.hid ((TR5.out.below hb6).more hb6.size)
          have RW6 := Lib.hid (RW5.out.step hb6)
          have BX6 := Lib.hid (BX5.out.step hb6)
          have HB6 := Lib.hid (held_trans HB5.out hb6)
          have HV6 := Lib.hid (((HV5).out.below hb6).more hb6.size)
          have hs6 := hb6.size
          have RG6 := Lib.hid XR
          clear XR
          refine hK.out _ _ trivial (fun hHeld => ?_)
          clear hK K
          try dsimp only
          refine wpAnyH_takesJ (i := 11) (v := (.agg #[.slice A1 nt c1, .int .i64 size, .slice (some ⟨gR, 0, none⟩) np np, .slice (some ⟨gS, 0, none⟩) nn nn, .int .u64 0])) (some 30) rfl rfl (by kernel_rfl) (by kernel_rfl) (by kernel_rfl) (fun _ _ _ h => h) (Or.inl ⟨by rfl, (by intro W9 hSw; (try dsimp only at hSw); go_simp; first | done | with_reducible rfl)⟩) (by assumption) ?_
          simp only [Act.put, List.setIfInBounds_toArray]; try simp only [List.set_cons_zero, List.set_cons_succ]
          refine wpAnyH_ready (rs := [13]) (by kernel_rfl) (by simp) ?_
          refine AllReadyH.cons rfl (fun K hK => ?_) AllReadyH.nil
          have y0 := BX6.out.b5.c0
          have y1 := BX6.out.b5.c1
          have y2 := BX6.out.b5.c2
          have y3 := BX6.out.b5.c3
          have y4 := BX6.out.b5.c4
          have g0 := BX6.out.f0
          have g1 := BX6.out.f1
          have g2 := BX6.out.f2
          have g3 := BX6.out.f3
          have g4 := BX6.out.f4
          go_simp
          refine hK.out _ _ trivial (fun hHeld => ?_)
          clear hK K
          try dsimp only
          refine wpAnyH_done (by kernel_rfl) ?_ _
          go_wp2_with fail
          go_meet
          exact ⟨A1, c1, gR, gS, N, rfl, Lib.hid (NwR.of (nt := nt) (size := size) TR6.out hTF RG6.out RW6.out BX6.out (fun ad hA => by have := hTB ad hA; omega) (by omega) (by omega) hNL HB6.out)⟩
  case rest =>
    obtain ⟨A1, c1, gR, gS, N, rfl, HN⟩ := hcut
    have q2 := HN.out.box.b5.c2
    go_wp2_with fail
    clear q2
    go_loopw [34] (fun i wr => ∃ k : Nat, k ≤ np ∧ i = .int .i64 k ∧ Hid (NwR w2 vs nt np nn size (pm k) A1 c1 gR gS N wr)) (fun i _ => np - (intOf i).toNat)
    case atStart => exact ⟨0, Nat.zero_le _, rfl, HN⟩
    case round =>
      clear HN
      obtain ⟨k, hk, rfl, HN⟩ := hrel
      by_cases hlt : k < np
      · have q4 := HN.out.box.b5.c4
        have HWT := Lib.hid (with_any (pm k) (k : Int) wr (pm_lt (by omega)))
        have HPM := Lib.hid (wth_pm (k := k) (by omega))
        go_wp2_with fail
        refine HWT.out.mono ?_
        rintro e w4 ⟨rfl, hb4⟩
        rw [HPM.out]
        have HN4 := HN.out.step hb4
        have q4' := HN4.box.b5.c4
        have f4 := HN4.box.f4
        have HN5 := Lib.hid (HN4.set (pm (k + 1)))
        obtain ⟨pq, hpq⟩ : ∃ pq, pq = pm (k + 1) := ⟨_, rfl⟩
        rw [← hpq] at HN5 ⊢
        obtain ⟨w5, hw5⟩ : ∃ w5, w5 = w4.setCell ⟨N, 4, none⟩ (.int .u64 (pq : Nat)) := ⟨_, rfl⟩
        have E5 := Lib.hid hw5
        rw [← hw5] at HN5
        have HPQ := Lib.hid hpq
        clear hb4 HN4 HWT q4 hpq hw5
        go_wp2_with (rw [← E5.out])
        clear E5 q4' f4
        go_roundw
        case rel => exact ⟨k + 1, by omega, by go_num, by rw [← HPQ.out]; exact HN5⟩
        case measure => simp [intOf]; omega
      · obtain rfl : k = np := by omega
        have hZ := Z1.out.step HN.out.below
        obtain ⟨pq, hpq⟩ : ∃ pq, pq = pm k := ⟨_, rfl⟩
        have HF := Lib.hid (HN.out.tell (F := F) HP.out hn.out hnt hf.out HNP.out.symm HNN.out.symm (by omega) HSZ.out HW.out B1.out)
        have d0 := HN.out.box.b5.c0
        have d1 := HN.out.box.b5.c1
        have d2 := HN.out.box.b5.c2
        have d3 := HN.out.box.b5.c3
        have d4 := HN.out.box.b5.c4
        have y0 := hZ.b5.c0
        have y1 := hZ.b5.c1
        have y2 := hZ.b5.c2
        have y3 := hZ.b5.c3
        have y4 := hZ.b5.c4
        have g0 := hZ.f0
        have g1 := hZ.f1
        have g2 := hZ.f2
        have g3 := hZ.f3
        have g4 := hZ.f4
        rw [← hpq] at d4 HF
        obtain ⟨k0, k1, k2, k3, k4⟩ := put5_told hZ (.slice A1 nt c1) (.int .i64 size) (.slice (some ⟨gR, 0, none⟩) k k) (.slice (some ⟨gS, 0, none⟩) nn nn) (.int .u64 (pq : Nat))
        unfold put5 at k0 k1 k2 k3 k4
        clear hZ hpq
        go_wp2_with fail
        refine bodyPost_ret ?_ rfl HF.out
        simp [results, Tryd.results19, go_sem, k0, k1, k2, k3, k4]
theorem runsNew_any {F : Nat → Prop} (A0 : Option Addr) (nt ct : Nat) (vs : List (Int × Int)) (size : Int) (w : World) (hn : Hid (vs.length = nt)) (hl : nt ≤ 9223372036854775807) (hf : Hid (Fit vs)) (hv : VRow w w.heap.size A0 vs) (hlie : vs ≠ [] → ∀ ad, A0 = some ad → F ad.block) (hF : ∀ b, F b → b < w.heap.size) (hs : In64 size) (hT : Tab w) :
    Calls Tryd.prog 19 #[.slice A0 nt ct, .int .i64 size] w (TellJE F w (Jp.new vs size)) := (runsNew_own A0 nt ct vs size w hn hl hf hv hlie hF hs hT).mono fun _ _ h => h.any
end Go.Proofs.YtcoccegmkcdeiaaDoor

