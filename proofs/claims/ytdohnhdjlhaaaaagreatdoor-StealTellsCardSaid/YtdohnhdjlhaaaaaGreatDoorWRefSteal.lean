/- The document's Steal, by its contract. (Written by wip/gen/gen_wref.py out of wip/gen/wref.txt: change those.) -/
import Derived.Test.YtdohnhdjlhaaaaaGreatDoorWRefVict
import Derived.Test.YtdohnhdjlhaaaaaGreatDoorM4
import Derived.Test.YtdohnhdjlhaaaaaGreatDoorM7
import Derived.Test.YtdohnhdjlhaaaaaGreatDoorM6
import Derived.Test.YtdohnhdjlhaaaaaGreatDoorM11
import Derived.Test.YtdohnhdjlhaaaaaGreatDoorM5
namespace Go.Proofs.YtdohnhdjlhaaaaaGreatDoor
open Go.RowKit
set_option linter.unusedVariables false

/-- Old memory of which F holds, or new memory, but for the result's place. -/
def GZ (F : Nat → Prop) (w : World) (b : Nat) : Prop := More F w b ∧ b ≠ w.heap.size + 1
/-- Where the walk stands: the box, the result's place, the Runs. -/
structure WS (F : Nat → Prop) (w : World) (d : Ad) (r : Jp.Rn) (W : World) : Prop where
  box : B5 W w.heap.size (.slice d.T d.nt d.ct) (.int .i64 r.size) (.slice d.R d.nr d.cr) (.slice d.S d.ns d.cs) (.int .u64 (r.on : Nat))
  put : C5 W (w.heap.size + 1) (.slice none 0 0) (.int .i64 0) (.slice none 0 0) (.slice none 0 0) (.int .u64 0)
  mem : RM (GZ F w) W d r
  below : Below w.heap.size w W
  lt : w.heap.size + 1 < W.heap.size
theorem WS.step {F : Nat → Prop} {w : World} {d : Ad} {r : Jp.Rn} {W W' : World} (h : WS F w d r W) (hb : Below W.heap.size W W') : WS F w d r W' :=
  ⟨h.box.step hb, h.put.step hb, h.mem.below hb, held_trans h.below hb, Nat.lt_of_lt_of_le h.lt hb.size⟩
theorem GZ.of {F : Nat → Prop} {w W W' : World} {d : Ad} {r : Jp.Rn} (h : RM (More (GZ F w) W) W' d r) (hl : w.heap.size + 1 < W.heap.size) : RM (GZ F w) W' d r :=
  h.mono (fun b hb => by
    rcases hb with h' | h'
    · exact h'
    · exact ⟨.inr (by omega), by omega⟩)
theorem WS.give {F : Nat → Prop} {w : World} {d d2 : Ad} {r r2 : Jp.Rn} {W : World} {g k s : Int} {o : Nat} {p : Jp.Rn × Int × Int} (hb : Below w.heap.size w W) (hp : p = (r2, g, k)) (hm : RM (GZ F w) W d2 r2) (hs : r2.size = s) (ho : r2.on = o) :
    TellJG F w p (.returned (.tuple #[.agg #[.slice d2.T d2.nt d2.ct, .int .i64 s, .slice d2.R d2.nr d2.cr, .slice d2.S d2.ns d2.cs, .int .u64 (o : Nat)], .int .i64 g, .int .i64 k])) (put5 W (w.heap.size + 1) (.slice d2.T d2.nt d2.ct) (.int .i64 s) (.slice d2.R d2.nr d2.cr) (.slice d2.S d2.ns d2.cs) (.int .u64 (o : Nat))) := by
  subst hs ho
  exact TellJG.is hp ((hm.put (X := w.heap.size + 1) (fun h => h.2 rfl) _ _ _ _ _).mono (fun b h => h.1)) (below_put hb (by omega) _ _ _ _ _)
theorem RM.rowsIn {F : Nat → Prop} {w : World} {d : Ad} {r : Jp.Rn} (h : RM F w d r) {m : Nat} {l : List Int} (hl : r.rows[m]? = some l) : ∀ ad, d.S = some ad → F ad.block := by
  obtain ⟨gs, h1, h2, h3⟩ := h.rows
  refine h3.1 (fun e => ?_)
  rw [h2, e] at hl
  simp at hl
theorem RM.ringsIn {F : Nat → Prop} {w : World} {d : Ad} {r : Jp.Rn} (h : RM F w d r) {m : Nat} {x : Int × List Int} (hx : r.rings[m]? = some x) : ∀ ad, d.R = some ad → F ad.block := by
  obtain ⟨gs, h1, h2, h3⟩ := h.rings
  refine h3.1 (fun e => ?_)
  rw [h2, e] at hx
  simp at hx
theorem half_left {x : Int} {tl : List Int} (h : (Rp.half (x, tl)).1.2 ≠ []) : tl ≠ [] := fun e => by
  subst e
  exact h rfl
theorem rowed_same {r : Jp.Rn} {m : Nat} {l : List Int} (h : r.rows[m]? = some l) : Jp.rowed r m l = r := by
  unfold Jp.rowed
  have : r.rows.set m l = r.rows := by
    apply List.ext_getElem?
    intro j
    rw [List.getElem?_set]
    split
    · rename_i e; subst e; rw [if_pos (List.getElem?_eq_some_iff.1 h).1, h]
    · rfl
  rw [this]
theorem firsts_at {r : Jp.Rn} {n j : Nat} (h0 : ∀ i, i < j → Jp.rowAt r ((n + (i + 1)) % r.rows.length) = []) (hj : j < r.rows.length - 1) (h : Jp.rowAt r ((n + (j + 1)) % r.rows.length) ≠ []) : Jp.firsts r n = some ((n + (j + 1)) % r.rows.length) := by
  unfold Jp.firsts Jp.round
  rw [List.find?_eq_some_iff_getElem]
  refine ⟨by cases e : Jp.rowAt r ((n + (j + 1)) % r.rows.length) with | nil => exact absurd e h | cons a l => rfl, j, by simpa using hj, by simp, fun i hi => ?_⟩
  simp only [List.getElem_map, List.getElem_range]
  rw [h0 i hi]
  rfl
theorem firsts_no {r : Jp.Rn} {n : Nat} (h0 : ∀ i, i < r.rows.length - 1 → Jp.rowAt r ((n + (i + 1)) % r.rows.length) = []) : Jp.firsts r n = none := by
  unfold Jp.firsts Jp.round
  rw [List.find?_eq_none]
  intro m hm
  obtain ⟨i, hi, rfl⟩ := List.mem_map.1 hm
  rw [h0 i (List.mem_range.1 hi)]
  simp
theorem rem_nat {a b : Nat} (hb : 0 < b) : ((a : Int)).tmod (b : Int) = ((a % b : Nat) : Int) := by
  rw [Int.tmod_eq_emod_of_nonneg (by omega)]
  rfl
/-- The document's own ring, as it grows. -/
structure WO (wc w6 : World) (t : List Int) (jj : Nat) (A : Option Addr) (n c : Nat) (wr : World) : Prop where
  c0 : wr.cell? ⟨wc.heap.size, 0, none⟩ = some (.int .i64 0)
  c1 : wr.cell? ⟨wc.heap.size, 1, none⟩ = some (.slice A n c)
  f1 : wr.frozen? ⟨wc.heap.size, 1, none⟩ = false
  own : wr.ownsRow w6.heap.size 3 1 (.slice A n c) n ((t.take jj).map (Value.int .i64))
  up : w6.heap.size ≤ wr.heap.size
  lt : wc.heap.size < w6.heap.size
  below : Below wc.heap.size wc wr
  le : jj ≤ t.length
theorem WO.step {wc w6 : World} {t : List Int} {jj : Nat} {A : Option Addr} {n c : Nat} {wr W : World} (h : WO wc w6 t jj A n c wr) (hb : Below wr.heap.size wr W) : WO wc w6 t jj A n c W :=
  ⟨keepcell hb h.c0, keepcell hb h.c1, keepfree hb h.c1 h.f1, own_below h.own hb, Nat.le_trans h.up hb.size, h.lt, held_trans h.below hb, h.le⟩
theorem WO.add {wc w6 : World} {t : List Int} {jj : Nat} {A A' : Option Addr} {n c c' : Nat} {z : Int} {wr W : World} (h : WO wc w6 t jj A n c wr) (hz : t.take (jj + 1) = t.take jj ++ [z]) (hl : jj < t.length)
    (ho : W.ownsRow w6.heap.size 3 1 (.slice A' (n + 1) c') (n + 1) ((t.take jj ++ [z]).map (Value.int .i64))) (hg : wr.grownBy W (Value.slice A n c).ownBlock) : WO wc w6 t (jj + 1) A' (n + 1) c' (W.setCell ⟨wc.heap.size, 1, none⟩ (.slice A' (n + 1) c')) := by
  have hgb : ∀ g, (Value.slice A n c).ownBlock = some g → w6.heap.size ≤ g := fun g hg => (h.own.lt g hg).1
  have hlt := h.lt
  have hne : some wc.heap.size ≠ (Value.slice A n c).ownBlock := fun e => by have := hgb _ e.symm; omega
  have hk1 := hg.cell h.c1 hne
  have hk0 := hg.cell h.c0 hne
  refine ⟨?_, World.cell?_setCell_same' _ _ _ (by rw [hk1]; rfl), ?_, ?_, by have := hg.size; have := h.up; simp [World.setCell]; omega, h.lt, (h.below.grown hg h.below.size (fun k hk => by have := hgb k hk; omega)).setCell (by simp) _, hl⟩
  · rw [World.cell?_setCell_other _ _ _ _ (fun e => by injection e with _ e; omega)]
    exact hk0
  · rw [World.frozen?_setCell, World.frozen?_of_block (w := wr) (hg.block _ (World.block_lt_of_cell? _ _ h.c1) hne)]
    exact h.f1
  · rw [hz]
    refine ho.kept (grown_one W wc.heap.size 1 (.slice A' (n + 1) c')) ?_
    cases hob : (Value.slice A' (n + 1) c').ownBlock with
    | none => exact .inl rfl
    | some b => exact .inr (fun e => by injection e with e; have := (ho.lt b hob).1; omega)
theorem WO.cells {wc w6 : World} {t : List Int} {jj : Nat} {A : Option Addr} {n c : Nat} {wr W : World} (h : WO wc w6 t jj A n c wr) (hg : wr.grownBy W (Value.slice A n c).ownBlock) : W.cell? ⟨wc.heap.size, 1, none⟩ = some (.slice A n c) ∧ W.frozen? ⟨wc.heap.size, 1, none⟩ = false ∧ ∀ b i v, b < wc.heap.size → wr.cell? ⟨b, i, none⟩ = some v → W.cell? ⟨b, i, none⟩ = some v := by
  have hgb : ∀ g, (Value.slice A n c).ownBlock = some g → w6.heap.size ≤ g := fun g hg => (h.own.lt g hg).1
  have hlt := h.lt
  have hne : some wc.heap.size ≠ (Value.slice A n c).ownBlock := fun e => by have := hgb _ e.symm; omega
  exact ⟨hg.cell h.c1 hne, by rw [World.frozen?_of_block (w := wr) (hg.block _ (World.block_lt_of_cell? _ _ h.c1) hne)]; exact h.f1, fun b i v hb hc => hg.cell hc (fun e => by have := hgb b e.symm; omega)⟩
/-- The same, but for one block more. -/
def GO (F : Nat → Prop) (w : World) (X b : Nat) : Prop := GZ F w b ∧ b ≠ X
theorem GO.of {F : Nat → Prop} {w W W' : World} {X : Nat} {d : Ad} {r : Jp.Rn} (h : RM (More (GO F w X) W) W' d r) (hl : w.heap.size + 1 < W.heap.size) (hX : X < W.heap.size) : RM (GO F w X) W' d r :=
  h.mono (fun b hb => by
    rcases hb with h' | h'
    · exact h'
    · exact ⟨⟨.inr (by omega), by omega⟩, by omega⟩)
theorem GO.new {F : Nat → Prop} {w W : World} {d : Ad} {r : Jp.Rn} (h : RM (GZ F w) W d r) : RM (GO F w W.heap.size) W d r := h.bound.mono (fun b hb => ⟨hb.1, by omega⟩)
set_option maxRecDepth 100000 in
set_option maxHeartbeats 16000000 in
theorem refSteal_any {F : Nat → Prop} (d : Ad) (r : Jp.Rn) (p far : Int) (w : World) (h : RM F w d r) (hF : ∀ b, F b → b < w.heap.size) (hlow : Low r) :
    Calls Tryz.prog 13 #[jv d r, .int .i64 p, .int .i64 far] w (TellJG F w (Jp.steal r p far)) := by
  obtain ⟨A0, nt, ct, R, nr, cr, S, ns, cs⟩ := d
  have HL := Lib.hid hlow
  obtain ⟨hr1, hr2, hr3⟩ := h.nr
  obtain ⟨hs1, hs2, hs3⟩ := h.ns
  simp only at hr1 hr2 hr3 hs1 hs2 hs3
  have hr4 := hlow.rings
  have hs4 := hlow.rows
  obtain ⟨V, hV, hX, hZ, hB, hsz⟩ := boxes2 w (.slice A0 nt ct) (.int .i64 r.size) (.slice R nr cr) (.slice S ns cs) (.int .u64 (r.on : Nat)) (.slice none 0 0) (.int .i64 0) (.slice none 0 0) (.slice none 0 0) (.int .u64 0) 27 27
  have E := Lib.hid hV
  have S0 := Lib.hid (⟨hX, hZ, (h.below hB).mono (fun b hb => ⟨.inl hb, by have := hF b hb; omega⟩), hB, hsz⟩ : WS F w ⟨A0, nt, ct, R, nr, cr, S, ns, cs⟩ r V)
  obtain ⟨Tb, hTb⟩ : ∃ Tb : Bool, (Tb = true ↔ Jp.Thief r p) := by
    by_cases h : Jp.Thief r p
    · exact ⟨true, by simp [h]⟩
    · exact ⟨false, by simp [h]⟩
  have HTB := Lib.hid hTb
  have hTH := refThief_any ⟨A0, nt, ct, R, nr, cr, S, ns, cs⟩ r p Tb V HTB S0.out.mem HL.out
  unfold jv at hTH
  simp only at hTH
  have TH := Lib.hid hTH
  have q0 := hX.c0
  have q1 := hX.c1
  have q2 := hX.c2
  have q3 := hX.c3
  have q4 := hX.c4
  clear hV hX hZ hB hsz hTb hTH h hF hlow
  unfold jv
  go_enter Tryz.func13, Tryz.ntmps13
  go_wp2_with (rw [← E.out])
  clear E
  refine TH.out.mono ?_
  rintro e w1 ⟨rfl, hb1⟩
  have S1 := Lib.hid (S0.out.step hb1)
  clear q0 q1 q2 q3 q4 TH S0 hb1
  cases Tb
  · have HP := Lib.hid (Jp.steal_no (r := r) (p := p) (far := far) (fun h => by have := HTB.out.2 h; cases this))
    have q0 := ((S1.out)).box.c0
    have q1 := ((S1.out)).box.c1
    have q2 := ((S1.out)).box.c2
    have q3 := ((S1.out)).box.c3
    have q4 := ((S1.out)).box.c4
    have y0 := ((S1.out)).put.b5.c0
    have y1 := ((S1.out)).put.b5.c1
    have y2 := ((S1.out)).put.b5.c2
    have y3 := ((S1.out)).put.b5.c3
    have y4 := ((S1.out)).put.b5.c4
    have g0 := ((S1.out)).put.f0
    have g1 := ((S1.out)).put.f1
    have g2 := ((S1.out)).put.f2
    have g3 := ((S1.out)).put.f3
    have g4 := ((S1.out)).put.f4
    have HF := Lib.hid (WS.give (F := F) (d := ⟨A0, nt, ct, R, nr, cr, S, ns, cs⟩) (r := r) (g := 0) (k := -1) ((S1.out)).below HP.out ((S1.out)).mem rfl rfl)
    obtain ⟨k0, k1, k2, k3, k4⟩ := put5_told ((S1.out)).put (.slice A0 nt ct) (.int .i64 r.size) (.slice R nr cr) (.slice S ns cs) (.int .u64 (r.on : Nat))
    unfold put5 at k0 k1 k2 k3 k4
    go_wp2_with fail
    refine bodyPost_ret ?_ rfl HF.out
    simp [results, Tryz.results13, go_sem, k0, k1, k2, k3, k4]
  have HTF := Lib.hid (HTB.out.1 rfl)
  obtain ⟨k, rfl, hk⟩ := Jp.thief_lt HTF.out
  obtain ⟨m0, hnd, hm0⟩ := Jp.node_at HTF.out.may.tree (k := k) (by rw [← HTF.out.may.rings]; exact hk)
  have hmn : m0 < ns := by rw [← hs1, HTF.out.may.rows]; exact hm0
  have HNO := Lib.hid (show Jp.nodeOf r k = m0 by unfold Jp.nodeOf; rw [hnd]; rfl)
  have hNN := refNode_any A0 nt ct r.tree (k : Int) w1 (Lib.hid S1.out.mem.tlen) S1.out.mem.tmax (Lib.hid S1.out.mem.fit) S1.out.mem.tree
  rw [hnd] at hNN
  have NN := Lib.hid hNN
  have q0 := S1.out.box.c0
  clear hnd hm0 hNN HTB
  go_wp2_with fail
  refine NN.out.mono ?_
  rintro e w2 ⟨rfl, hb2⟩
  have S2 := Lib.hid (S1.out.step hb2)
  have hVI := refVict_any ⟨A0, nt, ct, R, nr, cr, S, ns, cs⟩ r (k : Int) far w2 S2.out.mem HL.out
  unfold jv at hVI
  simp only at hVI
  obtain ⟨vs, hvs⟩ : ∃ vs, vs = Jp.victims r k far := ⟨_, rfl⟩
  rw [← hvs] at hVI
  have VI := Lib.hid hVI
  have HVS := Lib.hid hvs
  clear q0 hb2 NN S1 hVI hvs
  have q0 := ((S2.out)).box.c0
  have q1 := ((S2.out)).box.c1
  have q2 := ((S2.out)).box.c2
  have q3 := ((S2.out)).box.c3
  have q4 := ((S2.out)).box.c4
  go_wp2_with fail
  refine VI.out.mono ?_
  rintro e w3 ⟨Av, L, cv, rfl, hrv, hfv, hb3⟩
  have S3 := Lib.hid (S2.out.step hb3)
  have RV := Lib.hid hrv
  have FV := Lib.hid (show ∀ ad, Av = some ad → w.heap.size + 1 < ad.block from fun ad hA => Nat.lt_of_lt_of_le S2.out.lt (hfv ad hA))
  have hL := hrv.len
  clear hb3 VI S2 hrv hfv q0 q1 q2 q3 q4
  have i0 : (0 : Int) ≤ (k : Int) := by omega
  have i1 : (k : Int) < (nr : Int) := by omega
  have i2 : (0 : Int) ≤ (m0 : Int) := by omega
  have i3 : (m0 : Int) < (ns : Int) := by omega
  cases vs with
  | nil =>
    have hL0 : L = 0 := by rw [← hL]; rfl
    subst hL0
    clear hL
    have q3 := S3.out.box.c3
    go_wp2_with fail
    go_loop [17] (fun i => ∃ j : Nat, j ≤ ns ∧ i = .int .i64 ((j : Int) + 1) ∧ Hid (∀ i', i' < j → Jp.rowAt r ((m0 + (i' + 1)) % ns) = [])) (fun i => ns + 1 - (intOf i).toNat)
    case atStart => exact ⟨0, Nat.zero_le _, rfl, Lib.hid (fun i hi => by omega)⟩
    case round =>
      obtain ⟨j, hj, rfl, HA⟩ := hrel
      by_cases hlt : j + 1 < ns ∧ 3 ≤ far
      · obtain ⟨hlt, hfar⟩ := hlt
        have l1 : (j : Int) + 1 < (ns : Int) := by omega
        have l2 : ¬ far < 3 := by omega
        obtain ⟨mm, hmm⟩ : ∃ mm, mm = (m0 + (j + 1)) % ns := ⟨_, rfl⟩
        have hml : mm < ns := by rw [hmm]; exact Nat.mod_lt _ (by omega)
        have w1' : IntKind.i64.wrap ((m0 : Int) + ((j : Int) + 1)) = (m0 : Int) + ((j : Int) + 1) := IntWalk.i64_in _ (by omega)
        have w2' : ((m0 : Int) + ((j : Int) + 1)).tmod (ns : Int) = (mm : Int) := by
          rw [show (m0 : Int) + ((j : Int) + 1) = ((m0 + (j + 1) : Nat) : Int) by omega, rem_nat (by omega), hmm]
        have w3' : IntKind.i64.wrap (mm : Int) = (mm : Int) := IntWalk.i64_in _ (by omega)
        have wz : ((ns : Int) == 0) = false := by rw [beq_eq_false_iff_ne]; omega
        have wz2 : ¬ (ns : Int) = 0 := by omega
        have wk : IntKind.i64.wrap ((j : Int) + 1 + 1) = ((j + 1 : Nat) : Int) + 1 := by
          rw [show (j : Int) + 1 + 1 = ((j + 1 : Nat) : Int) + 1 by omega]
          exact IntWalk.i64_in _ (by omega)
        obtain ⟨l, hl⟩ : ∃ l, r.rows[mm]? = some l := ⟨_, List.getElem?_eq_getElem (by omega)⟩
        obtain ⟨bS, oS, AL, nl, cl, hS, _, cS, hrowL, hFL⟩ := S3.out.mem.rowAt2 hl
        have HSB := S3.out.mem.rowsIn hl
        simp only at hS HSB
        subst hS
        have HSZ9 := Lib.hid (show bS ≠ w.heap.size + 1 from (HSB ⟨bS, oS, none⟩ rfl).2)
        clear HSB
        have hll := hrowL.len
        have j0 : (0 : Int) ≤ (mm : Int) := by omega
        have j1 : (mm : Int) < (ns : Int) := by omega
        have HRA := Lib.hid (Jp.rowAt_some hl)
        have HRL := Lib.hid hrowL
        have HFL := Lib.hid hFL
        have HMM := Lib.hid hmm
        clear hl hrowL hFL hmm
        by_cases hn : nl = 0
        · have l3 : ¬ (0 : Int) < (nl : Int) := by omega
          have HA2 := Lib.hid (show ∀ i', i' < j + 1 → Jp.rowAt r ((m0 + (i' + 1)) % ns) = [] from fun i' hi' => by
            by_cases e : i' = j
            · subst e; rw [← HMM.out, HRA.out]; exact List.length_eq_zero_iff.1 (by omega)
            · exact HA.out i' (by omega))
          clear hll hn
          go_wp2_with fail
          go_round
          case rel => exact ⟨j + 1, by omega, by first | exact wk | rw [wk] | go_num, HA2⟩
          case measure => simp [intOf]; omega
        · have l3 : (0 : Int) < (nl : Int) := by omega
          have l4 : l ≠ [] := fun e => by rw [e] at hll; simp at hll; omega
          obtain ⟨gg, l', hcons⟩ := List.exists_cons_of_ne_nil l4
          obtain ⟨bL, oL, hAL, hbL, hcL⟩ := HRL.out.cells (by omega)
          have cg := hcL 0 gg (by rw [hcons]; rfl)
          rw [Nat.add_zero] at cg
          have hfi := firsts_at (r := r) (n := m0) (j := j) (fun i hi => by rw [hs1]; exact HA.out i hi) (by omega) (by rw [hs1, ← HMM.out, HRA.out]; exact l4)
          rw [hs1, ← HMM.out] at hfi
          have HP0 := Lib.hid (show Jp.steal r k far = (Jp.rowed r mm l', gg, 3) by
            rw [Jp.steal_on HTF.out]
            unfold Jp.stealOn
            rw [← HVS.out]
            simp only
            rw [if_neg l2, HNO.out, hfi]
            simp only
            rw [HRA.out, hcons]
            rfl)
          subst hAL hcons
          have HBZ := Lib.hid (show bL ≠ w.heap.size + 1 from (HFL.out (by simp) ⟨bL, oL, none⟩ rfl).2)
          have s1 : (1 : Int) ≤ (nl : Int) := by omega
          have s2 : ¬ ((nl : Int) < 1) := by omega
          have hncl := HRL.out.cap
          have s5 : ¬ cl < 1 := by omega
          have s6 : 1 ≤ nl := by omega
          have q0 := ((S3.out)).box.c0
          have q1 := ((S3.out)).box.c1
          have q2 := ((S3.out)).box.c2
          have q3 := ((S3.out)).box.c3
          have q4 := ((S3.out)).box.c4
          clear hcL hbL l4 hfi HA hn hll
          go_wp2_with fail
          by_cases hc1 : cl = 1
          · obtain rfl : nl = 1 := by omega
            subst hc1
            refine wp_region_held_drew (S := fun w' => w'.cell? ⟨w.heap.size, 0, none⟩ = some (.slice A0 nt ct) ∧ w'.cell? ⟨w.heap.size, 1, none⟩ = some (.int .i64 r.size) ∧ w'.cell? ⟨w.heap.size, 2, none⟩ = some (.slice R nr cr) ∧ w'.cell? ⟨w.heap.size, 3, none⟩ = some (.slice (some ⟨bS, oS, none⟩) ns cs) ∧ w'.cell? ⟨w.heap.size, 4, none⟩ = some (.int .u64 (r.on : Nat)) ∧ w'.cell? ⟨bS, oS + mm, none⟩ = some (.slice (some ⟨bL, oL, none⟩) 1 1) ∧ w'.cell? ⟨bL, oL, none⟩ = some (.int .i64 gg)) (by kernel_rfl) ⟨q0, q1, q2, q3, q4, cS, cg⟩ (fun hHeld => ?_)
            have hb1 := (Below.refl w3.heap.size w3).drew
            obtain ⟨x1, hx1⟩ : ∃ x1, x1 = w3.drew := ⟨_, rfl⟩
            rw [← hx1] at hb1 hHeld ⊢
            clear hx1
            refine wpAnyH_takesJ (i := 0) (v := (.agg #[.slice A0 nt ct, .int .i64 r.size, .slice R nr cr, .slice (some ⟨bS, oS, none⟩) ns cs, .int .u64 (r.on : Nat)])) (some 123) rfl rfl (by kernel_rfl) (by kernel_rfl) (by kernel_rfl) (fun _ _ _ h => h) (Or.inl ⟨by rfl, (by intro W9 hSw; (try dsimp only at hSw); go_simp; first | done | with_reducible rfl)⟩) (by assumption) ?_
            simp only [Act.put, List.setIfInBounds_toArray]; try simp only [List.set_cons_zero, List.set_cons_succ]
            refine wpAnyH_takesJ (i := 1) (v := (.int .i64 (mm : Nat))) (some 124) rfl rfl (by kernel_rfl) (by kernel_rfl) (by kernel_rfl) (fun _ _ _ h => h) (Or.inl ⟨by rfl, (by intro W9 hSw; (try dsimp only at hSw); go_simp; first | done | with_reducible rfl)⟩) (by assumption) ?_
            simp only [Act.put, List.setIfInBounds_toArray]; try simp only [List.set_cons_zero, List.set_cons_succ]
            refine wpAnyH_takesJ (i := 2) (v := (.pointer (some ⟨w.heap.size, 3, none⟩))) (some 125) rfl rfl (by kernel_rfl) (by kernel_rfl) (by kernel_rfl) (fun _ _ _ h => h) (Or.inl ⟨by rfl, (by intro W9 hSw; (try dsimp only at hSw); go_simp; first | done | with_reducible rfl)⟩) (by assumption) ?_
            simp only [Act.put, List.setIfInBounds_toArray]; try simp only [List.set_cons_zero, List.set_cons_succ]
            refine wpAnyH_takesJ (i := 3) (v := (.slice (some ⟨bS, oS, none⟩) ns cs)) (some 126) rfl rfl (by kernel_rfl) (by kernel_rfl) (by kernel_rfl) (fun _ _ _ h => h) (Or.inl ⟨by rfl, (by intro W9 hSw; (try dsimp only at hSw); go_simp; first | done | with_reducible rfl)⟩) (by assumption) ?_
            simp only [Act.put, List.setIfInBounds_toArray]; try simp only [List.set_cons_zero, List.set_cons_succ]
            refine wpAnyH_takesJ (i := 4) (v := (.int .i64 (mm : Nat))) (some 127) rfl rfl (by kernel_rfl) (by kernel_rfl) (by kernel_rfl) (fun _ _ _ h => h) (Or.inl ⟨by rfl, (by intro W9 hSw; (try dsimp only at hSw); go_simp; first | done | with_reducible rfl)⟩) (by assumption) ?_
            simp only [Act.put, List.setIfInBounds_toArray]; try simp only [List.set_cons_zero, List.set_cons_succ]
            refine wpAnyH_takesJ (i := 5) (v := (.pointer (some ⟨bS, oS + mm, none⟩))) (some 128) rfl rfl (by kernel_rfl) (by kernel_rfl) (by kernel_rfl) (fun _ _ _ h => h) (Or.inl ⟨by rfl, (by intro W9 hSw; (try dsimp only at hSw); go_simp; first | done | with_reducible rfl)⟩) (by assumption) ?_
            simp only [Act.put, List.setIfInBounds_toArray]; try simp only [List.set_cons_zero, List.set_cons_succ]
            refine wpAnyH_takesJ (i := 6) (v := (.slice (some ⟨bL, oL, none⟩) 1 1)) (some 129) rfl rfl (by kernel_rfl) (by kernel_rfl) (by kernel_rfl) (fun _ _ _ h => h) (Or.inl ⟨by rfl, (by intro W9 hSw; (try dsimp only at hSw); go_simp; first | done | with_reducible rfl)⟩) (by assumption) ?_
            simp only [Act.put, List.setIfInBounds_toArray]; try simp only [List.set_cons_zero, List.set_cons_succ]
            refine wpAnyH_takesJ (i := 7) (v := (.slice (some ⟨bL, oL, none⟩) 0 0)) (some 130) rfl rfl (by kernel_rfl) (by kernel_rfl) (by kernel_rfl) (fun _ _ _ h => h) (Or.inl ⟨by rfl, (by intro W9 hSw; (try dsimp only at hSw); go_simp; first | done | with_reducible rfl)⟩) (by assumption) ?_
            simp only [Act.put, List.setIfInBounds_toArray]; try simp only [List.set_cons_zero, List.set_cons_succ]
            refine wpAnyH_takesJ (i := 9) (v := (.pointer (some ⟨w.heap.size, 3, none⟩))) (some 132) rfl rfl (by kernel_rfl) (by kernel_rfl) (by kernel_rfl) (fun _ _ _ h => h) (Or.inl ⟨by rfl, (by intro W9 hSw; (try dsimp only at hSw); go_simp; first | done | with_reducible rfl)⟩) (by assumption) ?_
            simp only [Act.put, List.setIfInBounds_toArray]; try simp only [List.set_cons_zero, List.set_cons_succ]
            refine wpAnyH_takesJ (i := 10) (v := (.slice (some ⟨bS, oS, none⟩) ns cs)) (some 133) rfl rfl (by kernel_rfl) (by kernel_rfl) (by kernel_rfl) (fun _ _ _ h => h) (Or.inl ⟨by rfl, (by intro W9 hSw; (try dsimp only at hSw); go_simp; first | done | with_reducible rfl)⟩) (by assumption) ?_
            simp only [Act.put, List.setIfInBounds_toArray]; try simp only [List.set_cons_zero, List.set_cons_succ]
            refine wpAnyH_takesJ (i := 11) (v := (.int .i64 (mm : Nat))) (some 134) rfl rfl (by kernel_rfl) (by kernel_rfl) (by kernel_rfl) (fun _ _ _ h => h) (Or.inl ⟨by rfl, (by intro W9 hSw; (try dsimp only at hSw); go_simp; first | done | with_reducible rfl)⟩) (by assumption) ?_
            simp only [Act.put, List.setIfInBounds_toArray]; try simp only [List.set_cons_zero, List.set_cons_succ]
            refine wpAnyH_takesJ (i := 12) (v := (.pointer (some ⟨bS, oS + mm, none⟩))) (some 135) rfl rfl (by kernel_rfl) (by kernel_rfl) (by kernel_rfl) (fun _ _ _ h => h) (Or.inl ⟨by rfl, (by intro W9 hSw; (try dsimp only at hSw); go_simp; first | done | with_reducible rfl)⟩) (by assumption) ?_
            simp only [Act.put, List.setIfInBounds_toArray]; try simp only [List.set_cons_zero, List.set_cons_succ]
            refine wpAnyH_takesJ (i := 13) (v := (.slice (some ⟨bL, oL, none⟩) 1 1)) (some 136) rfl rfl (by kernel_rfl) (by kernel_rfl) (by kernel_rfl) (fun _ _ _ h => h) (Or.inl ⟨by rfl, (by intro W9 hSw; (try dsimp only at hSw); go_simp; first | done | with_reducible rfl)⟩) (by assumption) ?_
            simp only [Act.put, List.setIfInBounds_toArray]; try simp only [List.set_cons_zero, List.set_cons_succ]
            refine wpAnyH_takesJ (i := 14) (v := (.pointer (some ⟨bL, oL, none⟩))) (some 137) rfl rfl (by kernel_rfl) (by kernel_rfl) (by kernel_rfl) (fun _ _ _ h => h) (Or.inl ⟨by rfl, (by intro W9 hSw; (try dsimp only at hSw); go_simp; first | done | with_reducible rfl)⟩) (by assumption) ?_
            simp only [Act.put, List.setIfInBounds_toArray]; try simp only [List.set_cons_zero, List.set_cons_succ]
            refine wpAnyH_takesJ (i := 15) (v := (.int .i64 gg)) (some 138) rfl rfl (by kernel_rfl) (by kernel_rfl) (by kernel_rfl) (fun _ _ _ h => h) (Or.inl ⟨by rfl, (by intro W9 hSw; (try dsimp only at hSw); go_simp; first | done | with_reducible rfl)⟩) (by assumption) ?_
            simp only [Act.put, List.setIfInBounds_toArray]; try simp only [List.set_cons_zero, List.set_cons_succ]
            refine wpAnyH_ready (rs := [8]) (by kernel_rfl) (by simp) ?_
            refine AllReadyH.cons rfl (fun K hK => ?_) AllReadyH.nil
            go_simp
            go_at_call 35
            have hsl := (HRL.out.below hb1).slice 1 (by omega)
            rw [(if_pos rfl), List.drop_one, List.tail_cons] at hsl
            have hrw := jrowed_any ⟨A0, nt, ct, R, nr, cr, some ⟨bS, oS, none⟩, ns, cs⟩ r mm l' (some ⟨bL, oL, none⟩) 0 0 x1 (S3.out.mem.below hb1) hml (by simp only; omega) hsl (fun _ ad e => by injection e with e; subst e; exact HFL.out (by simp) ⟨bL, oL, none⟩ rfl)
            obtain ⟨q, hq⟩ : ∃ q, q = Jp.rowed r mm l' := ⟨_, rfl⟩
            have HSZ := Lib.hid (show q.size = r.size by rw [hq]; rfl)
            have HON := Lib.hid (show q.on = r.on by rw [hq]; rfl)
            rw [← hq] at hrw
            have HP := Lib.hid (show Jp.steal r k far = (q, gg, 3) by rw [HP0.out, hq])
            clear hq hsl
            refine hrw.mono ?_
            rintro e x2 ⟨⟨T6, nt6, ct6, R6, nr6, cr6, S6, ns6, cs6⟩, rfl, hm6, hb6⟩
            have hb2 := hb1.trans (hb6.mono hb1.size)
            have S6h := Lib.hid (S3.out.step hb2)
            have M6 := Lib.hid (GZ.of hm6 (Nat.lt_of_lt_of_le S3.out.lt hb1.size))
            unfold jv
            simp only
            rw [HSZ.out, HON.out]
            refine hK.out _ _ (by exact ⟨keepcell hb2 q0, keepcell hb2 q1, keepcell hb2 q2, keepcell hb2 q3, keepcell hb2 q4, keepcell hb2 cS, keepcell hb2 cg⟩) (fun hHeld => ?_)
            clear hK K hm6 hb6 hrw
            try dsimp only
            have y0 := ((S6h.out)).put.b5.c0
            have y1 := ((S6h.out)).put.b5.c1
            have y2 := ((S6h.out)).put.b5.c2
            have y3 := ((S6h.out)).put.b5.c3
            have y4 := ((S6h.out)).put.b5.c4
            have g0 := ((S6h.out)).put.f0
            have g1 := ((S6h.out)).put.f1
            have g2 := ((S6h.out)).put.f2
            have g3 := ((S6h.out)).put.f3
            have g4 := ((S6h.out)).put.f4
            refine wpAnyH_ready (rs := [16]) (by kernel_rfl) (by simp) ?_
            refine AllReadyH.cons rfl (fun K hK => ?_) AllReadyH.nil
            go_simp
            have hX9 : w.heap.size ≠ w.heap.size + 1 := by omega
            have hb9 : bL ≠ w.heap.size + 1 := HBZ.out
            have hS9 : bS ≠ w.heap.size + 1 := HSZ9.out
            refine hK.out _ _ (by exact ⟨far5 hX9 (keepcell hb2 q0), far5 hX9 (keepcell hb2 q1), far5 hX9 (keepcell hb2 q2), far5 hX9 (keepcell hb2 q3), far5 hX9 (keepcell hb2 q4), far5 hS9 (keepcell hb2 cS), far5 hb9 (keepcell hb2 cg)⟩) (fun hHeld => ?_)
            clear hK K y0 y1 y2 y3 y4 g0 g1 g2 g3 g4
            try dsimp only
            refine wpAnyH_takesJ (i := 17) (v := (.int .i64 gg)) (some 7) rfl rfl (by kernel_rfl) (by kernel_rfl) (by kernel_rfl) (fun _ _ _ h => h) (Or.inl ⟨by rfl, (by intro W9 hSw; (try dsimp only at hSw); go_simp; first | done | with_reducible rfl)⟩) (by assumption) ?_
            simp only [Act.put, List.setIfInBounds_toArray]; try simp only [List.set_cons_zero, List.set_cons_succ]
            refine wpAnyH_takesJ (i := 18) (v := (.int .i64 3)) (some 8) rfl rfl (by kernel_rfl) (by kernel_rfl) (by kernel_rfl) (fun _ _ _ h => h) (Or.inl ⟨by rfl, (by intro W9 hSw; (try dsimp only at hSw); go_simp; first | done | with_reducible rfl)⟩) (by assumption) ?_
            simp only [Act.put, List.setIfInBounds_toArray]; try simp only [List.set_cons_zero, List.set_cons_succ]
            refine wpAnyH_done (by kernel_rfl) ?_ _
            obtain ⟨k0, k1, k2, k3, k4⟩ := put5_told S6h.out.put (.slice T6 nt6 ct6) (.int .i64 r.size) (.slice R6 nr6 cr6) (.slice S6 ns6 cs6) (.int .u64 (r.on : Nat))
            have HF := Lib.hid (WS.give (F := F) (d := ⟨A0, nt, ct, R, nr, cr, some ⟨bS, oS, none⟩, ns, cs⟩) (r := r) S6h.out.below HP.out M6.out HSZ.out HON.out)
            unfold put5 at k0 k1 k2 k3 k4
            clear q0 q1 q2 q3 q4 cS cg hb1 hb2
            go_wp2_with fail
            refine bodyPost_ret ?_ rfl HF.out
            simp [results, Tryz.results13, go_sem, k0, k1, k2, k3, k4]
          · skip
            refine wp_region_held_drew (S := fun w' => w'.cell? ⟨w.heap.size, 0, none⟩ = some (.slice A0 nt ct) ∧ w'.cell? ⟨w.heap.size, 1, none⟩ = some (.int .i64 r.size) ∧ w'.cell? ⟨w.heap.size, 2, none⟩ = some (.slice R nr cr) ∧ w'.cell? ⟨w.heap.size, 3, none⟩ = some (.slice (some ⟨bS, oS, none⟩) ns cs) ∧ w'.cell? ⟨w.heap.size, 4, none⟩ = some (.int .u64 (r.on : Nat)) ∧ w'.cell? ⟨bS, oS + mm, none⟩ = some (.slice (some ⟨bL, oL, none⟩) nl cl) ∧ w'.cell? ⟨bL, oL, none⟩ = some (.int .i64 gg)) (by kernel_rfl) ⟨q0, q1, q2, q3, q4, cS, cg⟩ (fun hHeld => ?_)
            have hb1 := (Below.refl w3.heap.size w3).drew
            obtain ⟨x1, hx1⟩ : ∃ x1, x1 = w3.drew := ⟨_, rfl⟩
            rw [← hx1] at hb1 hHeld ⊢
            clear hx1
            refine wpAnyH_takesJ (i := 0) (v := (.agg #[.slice A0 nt ct, .int .i64 r.size, .slice R nr cr, .slice (some ⟨bS, oS, none⟩) ns cs, .int .u64 (r.on : Nat)])) (some 123) rfl rfl (by kernel_rfl) (by kernel_rfl) (by kernel_rfl) (fun _ _ _ h => h) (Or.inl ⟨by rfl, (by intro W9 hSw; (try dsimp only at hSw); go_simp; first | done | with_reducible rfl)⟩) (by assumption) ?_
            simp only [Act.put, List.setIfInBounds_toArray]; try simp only [List.set_cons_zero, List.set_cons_succ]
            refine wpAnyH_takesJ (i := 1) (v := (.int .i64 (mm : Nat))) (some 124) rfl rfl (by kernel_rfl) (by kernel_rfl) (by kernel_rfl) (fun _ _ _ h => h) (Or.inl ⟨by rfl, (by intro W9 hSw; (try dsimp only at hSw); go_simp; first | done | with_reducible rfl)⟩) (by assumption) ?_
            simp only [Act.put, List.setIfInBounds_toArray]; try simp only [List.set_cons_zero, List.set_cons_succ]
            refine wpAnyH_takesJ (i := 2) (v := (.pointer (some ⟨w.heap.size, 3, none⟩))) (some 125) rfl rfl (by kernel_rfl) (by kernel_rfl) (by kernel_rfl) (fun _ _ _ h => h) (Or.inl ⟨by rfl, (by intro W9 hSw; (try dsimp only at hSw); go_simp; first | done | with_reducible rfl)⟩) (by assumption) ?_
            simp only [Act.put, List.setIfInBounds_toArray]; try simp only [List.set_cons_zero, List.set_cons_succ]
            refine wpAnyH_takesJ (i := 3) (v := (.slice (some ⟨bS, oS, none⟩) ns cs)) (some 126) rfl rfl (by kernel_rfl) (by kernel_rfl) (by kernel_rfl) (fun _ _ _ h => h) (Or.inl ⟨by rfl, (by intro W9 hSw; (try dsimp only at hSw); go_simp; first | done | with_reducible rfl)⟩) (by assumption) ?_
            simp only [Act.put, List.setIfInBounds_toArray]; try simp only [List.set_cons_zero, List.set_cons_succ]
            refine wpAnyH_takesJ (i := 4) (v := (.int .i64 (mm : Nat))) (some 127) rfl rfl (by kernel_rfl) (by kernel_rfl) (by kernel_rfl) (fun _ _ _ h => h) (Or.inl ⟨by rfl, (by intro W9 hSw; (try dsimp only at hSw); go_simp; first | done | with_reducible rfl)⟩) (by assumption) ?_
            simp only [Act.put, List.setIfInBounds_toArray]; try simp only [List.set_cons_zero, List.set_cons_succ]
            refine wpAnyH_takesJ (i := 5) (v := (.pointer (some ⟨bS, oS + mm, none⟩))) (some 128) rfl rfl (by kernel_rfl) (by kernel_rfl) (by kernel_rfl) (fun _ _ _ h => h) (Or.inl ⟨by rfl, (by intro W9 hSw; (try dsimp only at hSw); go_simp; first | done | with_reducible rfl)⟩) (by assumption) ?_
            simp only [Act.put, List.setIfInBounds_toArray]; try simp only [List.set_cons_zero, List.set_cons_succ]
            refine wpAnyH_takesJ (i := 6) (v := (.slice (some ⟨bL, oL, none⟩) nl cl)) (some 129) rfl rfl (by kernel_rfl) (by kernel_rfl) (by kernel_rfl) (fun _ _ _ h => h) (Or.inl ⟨by rfl, (by intro W9 hSw; (try dsimp only at hSw); go_simp; first | done | with_reducible rfl)⟩) (by assumption) ?_
            simp only [Act.put, List.setIfInBounds_toArray]; try simp only [List.set_cons_zero, List.set_cons_succ]
            refine wpAnyH_takesJ (i := 7) (v := (.slice (some ⟨bL, (oL + 1), none⟩) (nl - 1) (cl - 1))) (some 130) rfl rfl (by kernel_rfl) (by kernel_rfl) (by kernel_rfl) (fun _ _ _ h => h) (Or.inl ⟨by rfl, (by intro W9 hSw; (try dsimp only at hSw); go_simp; first | done | with_reducible rfl)⟩) (by assumption) ?_
            simp only [Act.put, List.setIfInBounds_toArray]; try simp only [List.set_cons_zero, List.set_cons_succ]
            refine wpAnyH_takesJ (i := 9) (v := (.pointer (some ⟨w.heap.size, 3, none⟩))) (some 132) rfl rfl (by kernel_rfl) (by kernel_rfl) (by kernel_rfl) (fun _ _ _ h => h) (Or.inl ⟨by rfl, (by intro W9 hSw; (try dsimp only at hSw); go_simp; first | done | with_reducible rfl)⟩) (by assumption) ?_
            simp only [Act.put, List.setIfInBounds_toArray]; try simp only [List.set_cons_zero, List.set_cons_succ]
            refine wpAnyH_takesJ (i := 10) (v := (.slice (some ⟨bS, oS, none⟩) ns cs)) (some 133) rfl rfl (by kernel_rfl) (by kernel_rfl) (by kernel_rfl) (fun _ _ _ h => h) (Or.inl ⟨by rfl, (by intro W9 hSw; (try dsimp only at hSw); go_simp; first | done | with_reducible rfl)⟩) (by assumption) ?_
            simp only [Act.put, List.setIfInBounds_toArray]; try simp only [List.set_cons_zero, List.set_cons_succ]
            refine wpAnyH_takesJ (i := 11) (v := (.int .i64 (mm : Nat))) (some 134) rfl rfl (by kernel_rfl) (by kernel_rfl) (by kernel_rfl) (fun _ _ _ h => h) (Or.inl ⟨by rfl, (by intro W9 hSw; (try dsimp only at hSw); go_simp; first | done | with_reducible rfl)⟩) (by assumption) ?_
            simp only [Act.put, List.setIfInBounds_toArray]; try simp only [List.set_cons_zero, List.set_cons_succ]
            refine wpAnyH_takesJ (i := 12) (v := (.pointer (some ⟨bS, oS + mm, none⟩))) (some 135) rfl rfl (by kernel_rfl) (by kernel_rfl) (by kernel_rfl) (fun _ _ _ h => h) (Or.inl ⟨by rfl, (by intro W9 hSw; (try dsimp only at hSw); go_simp; first | done | with_reducible rfl)⟩) (by assumption) ?_
            simp only [Act.put, List.setIfInBounds_toArray]; try simp only [List.set_cons_zero, List.set_cons_succ]
            refine wpAnyH_takesJ (i := 13) (v := (.slice (some ⟨bL, oL, none⟩) nl cl)) (some 136) rfl rfl (by kernel_rfl) (by kernel_rfl) (by kernel_rfl) (fun _ _ _ h => h) (Or.inl ⟨by rfl, (by intro W9 hSw; (try dsimp only at hSw); go_simp; first | done | with_reducible rfl)⟩) (by assumption) ?_
            simp only [Act.put, List.setIfInBounds_toArray]; try simp only [List.set_cons_zero, List.set_cons_succ]
            refine wpAnyH_takesJ (i := 14) (v := (.pointer (some ⟨bL, oL, none⟩))) (some 137) rfl rfl (by kernel_rfl) (by kernel_rfl) (by kernel_rfl) (fun _ _ _ h => h) (Or.inl ⟨by rfl, (by intro W9 hSw; (try dsimp only at hSw); go_simp; first | done | with_reducible rfl)⟩) (by assumption) ?_
            simp only [Act.put, List.setIfInBounds_toArray]; try simp only [List.set_cons_zero, List.set_cons_succ]
            refine wpAnyH_takesJ (i := 15) (v := (.int .i64 gg)) (some 138) rfl rfl (by kernel_rfl) (by kernel_rfl) (by kernel_rfl) (fun _ _ _ h => h) (Or.inl ⟨by rfl, (by intro W9 hSw; (try dsimp only at hSw); go_simp; first | done | with_reducible rfl)⟩) (by assumption) ?_
            simp only [Act.put, List.setIfInBounds_toArray]; try simp only [List.set_cons_zero, List.set_cons_succ]
            refine wpAnyH_ready (rs := [8]) (by kernel_rfl) (by simp) ?_
            refine AllReadyH.cons rfl (fun K hK => ?_) AllReadyH.nil
            go_simp
            go_at_call 35
            have hsl := (HRL.out.below hb1).slice 1 (by omega)
            rw [(if_neg hc1), List.drop_one, List.tail_cons] at hsl
            have hrw := jrowed_any ⟨A0, nt, ct, R, nr, cr, some ⟨bS, oS, none⟩, ns, cs⟩ r mm l' (some ⟨bL, (oL + 1), none⟩) (nl - 1) (cl - 1) x1 (S3.out.mem.below hb1) hml (by simp only; omega) hsl (fun _ ad e => by injection e with e; subst e; exact HFL.out (by simp) ⟨bL, oL, none⟩ rfl)
            obtain ⟨q, hq⟩ : ∃ q, q = Jp.rowed r mm l' := ⟨_, rfl⟩
            have HSZ := Lib.hid (show q.size = r.size by rw [hq]; rfl)
            have HON := Lib.hid (show q.on = r.on by rw [hq]; rfl)
            rw [← hq] at hrw
            have HP := Lib.hid (show Jp.steal r k far = (q, gg, 3) by rw [HP0.out, hq])
            clear hq hsl
            refine hrw.mono ?_
            rintro e x2 ⟨⟨T6, nt6, ct6, R6, nr6, cr6, S6, ns6, cs6⟩, rfl, hm6, hb6⟩
            have hb2 := hb1.trans (hb6.mono hb1.size)
            have S6h := Lib.hid (S3.out.step hb2)
            have M6 := Lib.hid (GZ.of hm6 (Nat.lt_of_lt_of_le S3.out.lt hb1.size))
            unfold jv
            simp only
            rw [HSZ.out, HON.out]
            refine hK.out _ _ (by exact ⟨keepcell hb2 q0, keepcell hb2 q1, keepcell hb2 q2, keepcell hb2 q3, keepcell hb2 q4, keepcell hb2 cS, keepcell hb2 cg⟩) (fun hHeld => ?_)
            clear hK K hm6 hb6 hrw
            try dsimp only
            have y0 := ((S6h.out)).put.b5.c0
            have y1 := ((S6h.out)).put.b5.c1
            have y2 := ((S6h.out)).put.b5.c2
            have y3 := ((S6h.out)).put.b5.c3
            have y4 := ((S6h.out)).put.b5.c4
            have g0 := ((S6h.out)).put.f0
            have g1 := ((S6h.out)).put.f1
            have g2 := ((S6h.out)).put.f2
            have g3 := ((S6h.out)).put.f3
            have g4 := ((S6h.out)).put.f4
            refine wpAnyH_ready (rs := [16]) (by kernel_rfl) (by simp) ?_
            refine AllReadyH.cons rfl (fun K hK => ?_) AllReadyH.nil
            go_simp
            have hX9 : w.heap.size ≠ w.heap.size + 1 := by omega
            have hb9 : bL ≠ w.heap.size + 1 := HBZ.out
            have hS9 : bS ≠ w.heap.size + 1 := HSZ9.out
            refine hK.out _ _ (by exact ⟨far5 hX9 (keepcell hb2 q0), far5 hX9 (keepcell hb2 q1), far5 hX9 (keepcell hb2 q2), far5 hX9 (keepcell hb2 q3), far5 hX9 (keepcell hb2 q4), far5 hS9 (keepcell hb2 cS), far5 hb9 (keepcell hb2 cg)⟩) (fun hHeld => ?_)
            clear hK K y0 y1 y2 y3 y4 g0 g1 g2 g3 g4
            try dsimp only
            refine wpAnyH_takesJ (i := 17) (v := (.int .i64 gg)) (some 7) rfl rfl (by kernel_rfl) (by kernel_rfl) (by kernel_rfl) (fun _ _ _ h => h) (Or.inl ⟨by rfl, (by intro W9 hSw; (try dsimp only at hSw); go_simp; first | done | with_reducible rfl)⟩) (by assumption) ?_
            simp only [Act.put, List.setIfInBounds_toArray]; try simp only [List.set_cons_zero, List.set_cons_succ]
            refine wpAnyH_takesJ (i := 18) (v := (.int .i64 3)) (some 8) rfl rfl (by kernel_rfl) (by kernel_rfl) (by kernel_rfl) (fun _ _ _ h => h) (Or.inl ⟨by rfl, (by intro W9 hSw; (try dsimp only at hSw); go_simp; first | done | with_reducible rfl)⟩) (by assumption) ?_
            simp only [Act.put, List.setIfInBounds_toArray]; try simp only [List.set_cons_zero, List.set_cons_succ]
            refine wpAnyH_done (by kernel_rfl) ?_ _
            obtain ⟨k0, k1, k2, k3, k4⟩ := put5_told S6h.out.put (.slice T6 nt6 ct6) (.int .i64 r.size) (.slice R6 nr6 cr6) (.slice S6 ns6 cs6) (.int .u64 (r.on : Nat))
            have HF := Lib.hid (WS.give (F := F) (d := ⟨A0, nt, ct, R, nr, cr, some ⟨bS, oS, none⟩, ns, cs⟩) (r := r) S6h.out.below HP.out M6.out HSZ.out HON.out)
            unfold put5 at k0 k1 k2 k3 k4
            clear q0 q1 q2 q3 q4 cS cg hb1 hb2
            go_wp2_with fail
            refine bodyPost_ret ?_ rfl HF.out
            simp [results, Tryz.results13, go_sem, k0, k1, k2, k3, k4]
      · have HP := Lib.hid (show Jp.steal r k far = (r, 0, -1) by
          rw [Jp.steal_on HTF.out]
          unfold Jp.stealOn
          rw [← HVS.out]
          simp only
          by_cases hf : far < 3
          · rw [if_pos hf]
          · rw [if_neg hf, HNO.out, firsts_no (fun i hi => by rw [hs1]; exact HA.out i (by omega))])
        clear HA
        by_cases hj1 : j + 1 < ns
        · have l1 : (j : Int) + 1 < (ns : Int) := by omega
          have l2 : far < 3 := by omega
          have q0 := ((S3.out)).box.c0
          have q1 := ((S3.out)).box.c1
          have q2 := ((S3.out)).box.c2
          have q3 := ((S3.out)).box.c3
          have q4 := ((S3.out)).box.c4
          have y0 := ((S3.out)).put.b5.c0
          have y1 := ((S3.out)).put.b5.c1
          have y2 := ((S3.out)).put.b5.c2
          have y3 := ((S3.out)).put.b5.c3
          have y4 := ((S3.out)).put.b5.c4
          have g0 := ((S3.out)).put.f0
          have g1 := ((S3.out)).put.f1
          have g2 := ((S3.out)).put.f2
          have g3 := ((S3.out)).put.f3
          have g4 := ((S3.out)).put.f4
          have HF := Lib.hid (WS.give (F := F) (d := ⟨A0, nt, ct, R, nr, cr, S, ns, cs⟩) (r := r) (g := 0) (k := -1) ((S3.out)).below HP.out ((S3.out)).mem rfl rfl)
          obtain ⟨k0, k1, k2, k3, k4⟩ := put5_told ((S3.out)).put (.slice A0 nt ct) (.int .i64 r.size) (.slice R nr cr) (.slice S ns cs) (.int .u64 (r.on : Nat))
          unfold put5 at k0 k1 k2 k3 k4
          go_wp2_with fail
          refine bodyPost_ret ?_ rfl HF.out
          simp [results, Tryz.results13, go_sem, k0, k1, k2, k3, k4]
        · have l1 : ¬ (j : Int) + 1 < (ns : Int) := by omega
          have q0 := ((S3.out)).box.c0
          have q1 := ((S3.out)).box.c1
          have q2 := ((S3.out)).box.c2
          have q3 := ((S3.out)).box.c3
          have q4 := ((S3.out)).box.c4
          have y0 := ((S3.out)).put.b5.c0
          have y1 := ((S3.out)).put.b5.c1
          have y2 := ((S3.out)).put.b5.c2
          have y3 := ((S3.out)).put.b5.c3
          have y4 := ((S3.out)).put.b5.c4
          have g0 := ((S3.out)).put.f0
          have g1 := ((S3.out)).put.f1
          have g2 := ((S3.out)).put.f2
          have g3 := ((S3.out)).put.f3
          have g4 := ((S3.out)).put.f4
          have HF := Lib.hid (WS.give (F := F) (d := ⟨A0, nt, ct, R, nr, cr, S, ns, cs⟩) (r := r) (g := 0) (k := -1) ((S3.out)).below HP.out ((S3.out)).mem rfl rfl)
          obtain ⟨k0, k1, k2, k3, k4⟩ := put5_told ((S3.out)).put (.slice A0 nt ct) (.int .i64 r.size) (.slice R nr cr) (.slice S ns cs) (.int .u64 (r.on : Nat))
          unfold put5 at k0 k1 k2 k3 k4
          go_wp2_with fail
          refine bodyPost_ret ?_ rfl HF.out
          simp [results, Tryz.results13, go_sem, k0, k1, k2, k3, k4]
  | cons q rest =>
    obtain ⟨j, ⟨x, tl⟩, g, t, rfl, hj, hjk, hx, hb, hso⟩ := Jp.steal_first HTF.out hk (far := far) (q := q) (l := rest) HVS.out.symm
    obtain ⟨hf, hhf⟩ : ∃ hf, hf = Rp.half (x, tl) := ⟨_, rfl⟩
    have hL1 : 0 < L := by rw [← hL]; simp
    have l0 : (0 : Int) < (L : Int) := by omega
    obtain ⟨bV, oV, hAv, hbV, hcV⟩ := RV.out.cells hL1
    have cV := hcV 0 (j : Int) rfl
    rw [Nat.add_zero] at cV
    have HBV0 := Lib.hid (show w.heap.size + 1 < bV from FV.out ⟨bV, oV, none⟩ hAv)
    subst hAv
    have HSB := S3.out.mem.ringsIn hx
    obtain ⟨bR, oR, AT, na, ca, hR, _, cR0, cR1, hrowT, hFT⟩ := S3.out.mem.ringAt2 hx
    simp only at hR hrowT HSB
    subst hR
    have hna : na ≤ 400 := by rw [← hrowT.len]; exact HL.out.ring (x, tl) (List.mem_of_getElem? hx)
    have HA := Lib.hid (fun W (hb : Below w3.heap.size w3 W) => refHalf_at x AT na ca tl W (hrowT.below hb) (by omega))
    rw [← hhf] at HA hb hso
    have hts : (t.length : Int) ≤ r.size := by
      have h1 := Jp.may_size HTF.out.may.low (HTF.out.may.ring j _ hx).1
      have h2 := Rp.half_len (x, tl)
      rw [← hhf, hb, List.length_cons] at h2
      have h3 := HTF.out.may.low
      simp only at h1 h2
      omega
    have HP0 := Lib.hid (show Jp.steal r k far = (Jp.ringed (Jp.ringed r j hf.1) k (0, t), g, Dp.far r.tree k j) by rw [Jp.steal_on HTF.out, hso])
    have HB2 := Lib.hid hb
    have HFT3 := Lib.hid (show hf.1.2 ≠ [] → ∀ ad, AT = some ad → ad.block < w3.heap.size from fun hne ad hA => row_block hrowT (half_left (by rw [← hhf]; exact hne)) hA)
    have HFG := Lib.hid (show hf.1.2 ≠ [] → ∀ ad, AT = some ad → GZ F w ad.block from fun hne ad hA => hFT (half_left (by rw [← hhf]; exact hne)) ad hA)
    have j0 : (0 : Int) ≤ (j : Int) := by omega
    have j1 : (j : Int) < (nr : Int) := by omega
    have q2 := S3.out.box.c2
    clear hb hhf hso hFT hrowT hcV hbV HSB
    go_upto_region 6 with fail
    go_cut [11, 12] (fun v11 v12 wx => ∃ (Y : Nat) (A1 : Option Addr) (n1 c1 : Nat) (Bb : Option Addr) (m1 d1 : Nat), v11 = .pointer (some ⟨Y, 0, none⟩) ∧ v12 = .slice Bb m1 d1 ∧ Hid (wx.cell? ⟨Y, 0, none⟩ = some (.int .i64 hf.1.1)) ∧ Hid (wx.cell? ⟨Y, 1, none⟩ = some (.slice A1 n1 c1)) ∧ Hid (Row wx A1 n1 c1 hf.1.2) ∧ Hid (hf.1.2 ≠ [] → ∀ ad, A1 = some ad → ∃ ad0, AT = some ad0 ∧ ad.block = ad0.block) ∧ Hid (Row wx Bb m1 d1 (g :: t)) ∧ Hid (From w3.heap.size Bb) ∧ Hid (w3.heap.size ≤ Y) ∧ Hid (Below w3.heap.size w3 wx))
    case first =>
      go_wp2_with fail
      refine wp_region_held_drew (S := fun w' => w'.cell? ⟨w.heap.size, 2, none⟩ = some (.slice (some ⟨bR, oR, none⟩) nr cr) ∧ w'.cell? ⟨bV, oV, none⟩ = some (.int .i64 (j : Nat)) ∧ w'.cell? ⟨bR, oR + j * 2, none⟩ = some (.int .i64 x) ∧ w'.cell? ⟨bR, oR + j * 2 + 1, none⟩ = some (.slice AT na ca)) (by kernel_rfl) ⟨q2, cV, cR0, cR1⟩ (fun hHeld => ?_)
      have hb1 := (Below.refl w3.heap.size w3).drew
      obtain ⟨x1, hx1⟩ : ∃ x1, x1 = w3.drew := ⟨_, rfl⟩
      rw [← hx1] at hb1 hHeld ⊢
      clear hx1
      refine wpAnyH_takesJ (i := 0) (v := (.pointer (some ⟨w.heap.size, 2, none⟩))) (some 36) rfl rfl (by kernel_rfl) (by kernel_rfl) (by kernel_rfl) (fun _ _ _ h => h) (Or.inl ⟨by rfl, (by intro W9 hSw; (try dsimp only at hSw); go_simp; first | done | with_reducible rfl)⟩) (by assumption) ?_
      simp only [Act.put, List.setIfInBounds_toArray]; try simp only [List.set_cons_zero, List.set_cons_succ]
      refine wpAnyH_takesJ (i := 1) (v := (.slice (some ⟨bR, oR, none⟩) nr cr)) (some 37) rfl rfl (by kernel_rfl) (by kernel_rfl) (by kernel_rfl) (fun _ _ _ h => h) (Or.inl ⟨by rfl, (by intro W9 hSw; (try dsimp only at hSw); go_simp; first | done | with_reducible rfl)⟩) (by assumption) ?_
      simp only [Act.put, List.setIfInBounds_toArray]; try simp only [List.set_cons_zero, List.set_cons_succ]
      refine wpAnyH_takesJ (i := 2) (v := (.slice (some ⟨bV, oV, none⟩) L cv)) (some 38) rfl rfl (by kernel_rfl) (by kernel_rfl) (by kernel_rfl) (fun _ _ _ h => h) (Or.inl ⟨by rfl, (by intro W9 hSw; (try dsimp only at hSw); go_simp; first | done | with_reducible rfl)⟩) (by assumption) ?_
      simp only [Act.put, List.setIfInBounds_toArray]; try simp only [List.set_cons_zero, List.set_cons_succ]
      refine wpAnyH_takesJ (i := 3) (v := (.pointer (some ⟨bV, oV, none⟩))) (some 39) rfl rfl (by kernel_rfl) (by kernel_rfl) (by kernel_rfl) (fun _ _ _ h => h) (Or.inl ⟨by rfl, (by intro W9 hSw; (try dsimp only at hSw); go_simp; first | done | with_reducible rfl)⟩) (by assumption) ?_
      simp only [Act.put, List.setIfInBounds_toArray]; try simp only [List.set_cons_zero, List.set_cons_succ]
      refine wpAnyH_takesJ (i := 4) (v := (.int .i64 (j : Nat))) (some 40) rfl rfl (by kernel_rfl) (by kernel_rfl) (by kernel_rfl) (fun _ _ _ h => h) (Or.inl ⟨by rfl, (by intro W9 hSw; (try dsimp only at hSw); go_simp; first | done | with_reducible rfl)⟩) (by assumption) ?_
      simp only [Act.put, List.setIfInBounds_toArray]; try simp only [List.set_cons_zero, List.set_cons_succ]
      refine wpAnyH_takesJ (i := 5) (v := (.pointer (some ⟨bR, oR + j * 2, none⟩))) (some 41) rfl rfl (by kernel_rfl) (by kernel_rfl) (by kernel_rfl) (fun _ _ _ h => h) (Or.inl ⟨by rfl, (by intro W9 hSw; (try dsimp only at hSw); go_simp; first | done | with_reducible rfl)⟩) (by assumption) ?_
      simp only [Act.put, List.setIfInBounds_toArray]; try simp only [List.set_cons_zero, List.set_cons_succ]
      refine wpAnyH_takesJ (i := 6) (v := (.agg #[.int .i64 x, .slice AT na ca])) (some 42) rfl rfl (by kernel_rfl) (by kernel_rfl) (by kernel_rfl) (fun _ _ _ h => h) (Or.inl ⟨by rfl, (by intro W9 hSw; (try dsimp only at hSw); go_simp; first | done | with_reducible rfl)⟩) (by assumption) ?_
      simp only [Act.put, List.setIfInBounds_toArray]; try simp only [List.set_cons_zero, List.set_cons_succ]
      refine wpAnyH_ready (rs := [7, 11]) (by kernel_rfl) (by simp) ?_
      refine AllReadyH.cons rfl (fun K hK => ?_) (AllReadyH.cons rfl (fun K hK => ?_) AllReadyH.nil)
      · go_simp
        go_at_call 33
        refine (HA.out _ (by exact hb1)).mono ?_
        rintro e x2 ⟨A1, n1, c1, Bb, m1, d1, rfl, hr1, hl1, hrB, hfB, hbx⟩
        have hb2 := hb1.trans (hbx.mono hb1.size)
        have hfB3 := hfB.mono hb1.size
        refine hK.out _ _ (by exact ⟨keepcell hb2 q2, keepcell hb2 cV, keepcell hb2 cR0, keepcell hb2 cR1⟩) (fun hHeld => ?_)
        clear hK K
        try dsimp only
        refine wpAnyH_takesJ (i := 8) (v := (.tuple #[.agg #[.int .i64 hf.1.1, .slice A1 n1 c1], .slice Bb m1 d1])) (some 35) rfl rfl (by kernel_rfl) (by kernel_rfl) (by kernel_rfl) (fun _ _ _ h => h) (Or.inl ⟨by rfl, (by intro W9 hSw; (try dsimp only at hSw); go_simp; first | done | with_reducible rfl)⟩) (by assumption) ?_
        simp only [Act.put, List.setIfInBounds_toArray]; try simp only [List.set_cons_zero, List.set_cons_succ]
        refine wpAnyH_takesJ (i := 9) (v := (.agg #[.int .i64 hf.1.1, .slice A1 n1 c1])) (some 44) rfl rfl (by kernel_rfl) (by kernel_rfl) (by kernel_rfl) (fun _ _ _ h => h) (Or.inl ⟨by rfl, (by intro W9 hSw; (try dsimp only at hSw); go_simp; first | done | with_reducible rfl)⟩) (by assumption) ?_
        simp only [Act.put, List.setIfInBounds_toArray]; try simp only [List.set_cons_zero, List.set_cons_succ]
        refine wpAnyH_takesJ (i := 10) (v := (.slice Bb m1 d1)) (some 45) rfl rfl (by kernel_rfl) (by kernel_rfl) (by kernel_rfl) (fun _ _ _ h => h) (Or.inl ⟨by rfl, (by intro W9 hSw; (try dsimp only at hSw); go_simp; first | done | with_reducible rfl)⟩) (by assumption) ?_
        simp only [Act.put, List.setIfInBounds_toArray]; try simp only [List.set_cons_zero, List.set_cons_succ]
        have hrB0 : ∀ ad, Bb = some ad → ad.block < x2.heap.size := fun ad hA => row_block hrB (by rw [HB2.out]; simp) hA
        refine wpAnyH_ready (rs := [11]) (by kernel_rfl) (by simp) ?_
        refine AllReadyH.cons rfl (fun K hK => ?_) AllReadyH.nil
        go_simp
        have hbl := below_new x2 (.cells #[.int .i64 0, .slice none 0 0] 58)
        have z0 : (x2.alloc (.cells #[.int .i64 0, .slice none 0 0] 58)).cell? ⟨x2.heap.size, 0, none⟩ = some (.int .i64 0) := by rw [World.cell?_alloc_at _ _ _ _ rfl]; rfl
        have z1 : (x2.alloc (.cells #[.int .i64 0, .slice none 0 0] 58)).cell? ⟨x2.heap.size, 1, none⟩ = some (.slice none 0 0) := by rw [World.cell?_alloc_at _ _ _ _ rfl]; rfl
        have zf0 : (x2.alloc (.cells #[.int .i64 0, .slice none 0 0] 58)).frozen? ⟨x2.heap.size, 0, none⟩ = false := by rw [World.frozen?_alloc_at _ _ _ _ rfl]
        have zf1 : (x2.alloc (.cells #[.int .i64 0, .slice none 0 0] 58)).frozen? ⟨x2.heap.size, 1, none⟩ = false := by rw [World.frozen?_alloc_at _ _ _ _ rfl]
        obtain ⟨x3, hx⟩ : ∃ x3, x3 = x2.alloc (.cells #[.int .i64 0, .slice none 0 0] 58) := ⟨_, rfl⟩
        rw [← hx] at hbl z0 z1 zf0 zf1 ⊢
        have hYs : x2.heap.size < x3.heap.size := by rw [hx]; simp
        have hb3 := hb2.trans (hbl.mono hb2.size)
        have hY3 := hb2.size
        obtain ⟨Y, hY⟩ : ∃ Y, Y = x2.heap.size := ⟨_, rfl⟩
        rw [← hY] at z0 z1 zf0 zf1 hYs hY3 ⊢
        have hYe : x2.heap.size ≤ Y := by omega
        clear hY
        refine hK.out _ _ (by exact ⟨keepcell hb3 q2, keepcell hb3 cV, keepcell hb3 cR0, keepcell hb3 cR1⟩) (fun hHeld => ?_)
        clear hK K hx
        try dsimp only
        have hr1 := hr1.below hbl
        have hrB := hrB.below hbl
        have hyA : hf.1.2 ≠ [] → ∀ ad, A1 = some ad → ad.block ≠ Y := fun hne ad hA e => by obtain ⟨ad0, h1, h2⟩ := hl1 hne ad hA; have := HFT3.out hne ad0 h1; omega
        have hyB : ∀ ad, Bb = some ad → ad.block ≠ Y := fun ad hA => by have := hrB0 ad hA; omega
        refine wpAnyH_ready (rs := [12]) (by kernel_rfl) (by simp) ?_
        refine AllReadyH.cons rfl (fun K hK => ?_) AllReadyH.nil
        go_simp
        have hne : ∀ {bb : Nat} {i : Nat} {v : Value}, w3.cell? ⟨bb, i, none⟩ = some v → bb ≠ Y := fun h e => by have := World.block_lt_of_cell? _ _ h; simp only at this; omega
        refine hK.out _ _ (by exact ⟨farcell (hne q2) (farcell (hne q2) (keepcell hb3 q2)), farcell (hne cV) (farcell (hne cV) (keepcell hb3 cV)), farcell (hne cR0) (farcell (hne cR0) (keepcell hb3 cR0)), farcell (hne cR1) (farcell (hne cR1) (keepcell hb3 cR1))⟩) (fun hHeld => ?_)
        clear hK K
        try dsimp only
        refine wpAnyH_takesJ (i := 13) (v := (.slice Bb m1 d1)) (some 12) rfl rfl (by kernel_rfl) (by kernel_rfl) (by kernel_rfl) (fun _ _ _ h => h) (Or.inl ⟨by rfl, (by intro W9 hSw; (try dsimp only at hSw); go_simp; first | done | with_reducible rfl)⟩) (by assumption) ?_
        simp only [Act.put, List.setIfInBounds_toArray]; try simp only [List.set_cons_zero, List.set_cons_succ]
        refine wpAnyH_done (by kernel_rfl) ?_ _
        obtain ⟨W4, hW4⟩ : ∃ W4, W4 = (x3.setCell ⟨Y, 0, none⟩ (.int .i64 hf.1.1)).setCell ⟨Y, 1, none⟩ (.slice A1 n1 c1) := ⟨_, rfl⟩
        have YC0 := Lib.hid (show W4.cell? ⟨Y, 0, none⟩ = some (.int .i64 hf.1.1) by rw [hW4, World.cell?_setCell_other _ _ _ _ (fun e => by injection e with _ e; omega)]; exact World.cell?_setCell_same' _ _ _ (by rw [z0]; rfl))
        have YC1 := Lib.hid (show W4.cell? ⟨Y, 1, none⟩ = some (.slice A1 n1 c1) by rw [hW4]; exact World.cell?_setCell_same' _ _ _ (by rw [World.cell?_setCell_other _ _ _ _ (fun e => by injection e with _ e; omega), z1]; rfl))
        have RL := Lib.hid hl1
        have RR := Lib.hid (show Row W4 A1 n1 c1 hf.1.2 by rw [hW4]; exact row_farj (row_farj hr1 (fun hne ad hA => hyA hne ad hA)) (fun hne ad hA => hyA hne ad hA))
        have RB := Lib.hid (show Row W4 Bb m1 d1 (g :: t) by rw [hW4, ← HB2.out]; exact row_farj (row_farj hrB (fun hne ad hA => hyB ad hA)) (fun hne ad hA => hyB ad hA))
        have BX := Lib.hid (show Below w3.heap.size w3 W4 by rw [hW4]; exact (hb3.setCell hY3 _).setCell hY3 _)
        have FB := Lib.hid hfB3
        have HYh := Lib.hid hY3
        try rw [← hW4]
        clear hW4
        go_wp2_with fail
        go_meet
        exact ⟨Y, A1, n1, c1, Bb, m1, d1, rfl, rfl, YC0, YC1, RR, RL, RB, FB, HYh, BX⟩
      · go_simp
        have hbl := below_new x1 (.cells #[.int .i64 0, .slice none 0 0] 58)
        have z0 : (x1.alloc (.cells #[.int .i64 0, .slice none 0 0] 58)).cell? ⟨x1.heap.size, 0, none⟩ = some (.int .i64 0) := by rw [World.cell?_alloc_at _ _ _ _ rfl]; rfl
        have z1 : (x1.alloc (.cells #[.int .i64 0, .slice none 0 0] 58)).cell? ⟨x1.heap.size, 1, none⟩ = some (.slice none 0 0) := by rw [World.cell?_alloc_at _ _ _ _ rfl]; rfl
        have zf0 : (x1.alloc (.cells #[.int .i64 0, .slice none 0 0] 58)).frozen? ⟨x1.heap.size, 0, none⟩ = false := by rw [World.frozen?_alloc_at _ _ _ _ rfl]
        have zf1 : (x1.alloc (.cells #[.int .i64 0, .slice none 0 0] 58)).frozen? ⟨x1.heap.size, 1, none⟩ = false := by rw [World.frozen?_alloc_at _ _ _ _ rfl]
        obtain ⟨x2, hx⟩ : ∃ x2, x2 = x1.alloc (.cells #[.int .i64 0, .slice none 0 0] 58) := ⟨_, rfl⟩
        rw [← hx] at hbl z0 z1 zf0 zf1 ⊢
        have hYs : x1.heap.size < x2.heap.size := by rw [hx]; simp
        have hb2 := hb1.trans (hbl.mono hb1.size)
        have hY3 := hb1.size
        obtain ⟨Y, hY⟩ : ∃ Y, Y = x1.heap.size := ⟨_, rfl⟩
        rw [← hY] at z0 z1 zf0 zf1 hYs hY3 ⊢
        have hYe : x1.heap.size ≤ Y := by omega
        clear hY
        refine hK.out _ _ (by exact ⟨keepcell hb2 q2, keepcell hb2 cV, keepcell hb2 cR0, keepcell hb2 cR1⟩) (fun hHeld => ?_)
        clear hK K hx
        try dsimp only
        refine wpAnyH_ready (rs := [7]) (by kernel_rfl) (by simp) ?_
        refine AllReadyH.cons rfl (fun K hK => ?_) AllReadyH.nil
        go_simp
        go_at_call 33
        refine (HA.out _ (by exact hb2)).mono ?_
        rintro e x3 ⟨A1, n1, c1, Bb, m1, d1, rfl, hr1, hl1, hrB, hfB, hbx⟩
        have hb3 := hb2.trans (hbx.mono hb2.size)
        have hfB3 := hfB.mono hb2.size
        refine hK.out _ _ (by exact ⟨keepcell hb3 q2, keepcell hb3 cV, keepcell hb3 cR0, keepcell hb3 cR1⟩) (fun hHeld => ?_)
        clear hK K
        try dsimp only
        refine wpAnyH_takesJ (i := 8) (v := (.tuple #[.agg #[.int .i64 hf.1.1, .slice A1 n1 c1], .slice Bb m1 d1])) (some 35) rfl rfl (by kernel_rfl) (by kernel_rfl) (by kernel_rfl) (fun _ _ _ h => h) (Or.inl ⟨by rfl, (by intro W9 hSw; (try dsimp only at hSw); go_simp; first | done | with_reducible rfl)⟩) (by assumption) ?_
        simp only [Act.put, List.setIfInBounds_toArray]; try simp only [List.set_cons_zero, List.set_cons_succ]
        refine wpAnyH_takesJ (i := 9) (v := (.agg #[.int .i64 hf.1.1, .slice A1 n1 c1])) (some 44) rfl rfl (by kernel_rfl) (by kernel_rfl) (by kernel_rfl) (fun _ _ _ h => h) (Or.inl ⟨by rfl, (by intro W9 hSw; (try dsimp only at hSw); go_simp; first | done | with_reducible rfl)⟩) (by assumption) ?_
        simp only [Act.put, List.setIfInBounds_toArray]; try simp only [List.set_cons_zero, List.set_cons_succ]
        refine wpAnyH_takesJ (i := 10) (v := (.slice Bb m1 d1)) (some 45) rfl rfl (by kernel_rfl) (by kernel_rfl) (by kernel_rfl) (fun _ _ _ h => h) (Or.inl ⟨by rfl, (by intro W9 hSw; (try dsimp only at hSw); go_simp; first | done | with_reducible rfl)⟩) (by assumption) ?_
        simp only [Act.put, List.setIfInBounds_toArray]; try simp only [List.set_cons_zero, List.set_cons_succ]
        have zf0 := keepfree hbx z0 zf0
        have zf1 := keepfree hbx z1 zf1
        have z0 := keepcell hbx z0
        have z1 := keepcell hbx z1
        have hyA := hbx.size
        have hyA : hf.1.2 ≠ [] → ∀ ad, A1 = some ad → ad.block ≠ Y := fun hne ad hA e => by obtain ⟨ad0, h1, h2⟩ := hl1 hne ad hA; have := HFT3.out hne ad0 h1; omega
        have hyB : ∀ ad, Bb = some ad → ad.block ≠ Y := fun ad hA => by have := hfB ad hA; omega
        refine wpAnyH_ready (rs := [12]) (by kernel_rfl) (by simp) ?_
        refine AllReadyH.cons rfl (fun K hK => ?_) AllReadyH.nil
        go_simp
        have hne : ∀ {bb : Nat} {i : Nat} {v : Value}, w3.cell? ⟨bb, i, none⟩ = some v → bb ≠ Y := fun h e => by have := World.block_lt_of_cell? _ _ h; simp only at this; omega
        refine hK.out _ _ (by exact ⟨farcell (hne q2) (farcell (hne q2) (keepcell hb3 q2)), farcell (hne cV) (farcell (hne cV) (keepcell hb3 cV)), farcell (hne cR0) (farcell (hne cR0) (keepcell hb3 cR0)), farcell (hne cR1) (farcell (hne cR1) (keepcell hb3 cR1))⟩) (fun hHeld => ?_)
        clear hK K
        try dsimp only
        refine wpAnyH_takesJ (i := 13) (v := (.slice Bb m1 d1)) (some 12) rfl rfl (by kernel_rfl) (by kernel_rfl) (by kernel_rfl) (fun _ _ _ h => h) (Or.inl ⟨by rfl, (by intro W9 hSw; (try dsimp only at hSw); go_simp; first | done | with_reducible rfl)⟩) (by assumption) ?_
        simp only [Act.put, List.setIfInBounds_toArray]; try simp only [List.set_cons_zero, List.set_cons_succ]
        refine wpAnyH_done (by kernel_rfl) ?_ _
        obtain ⟨W4, hW4⟩ : ∃ W4, W4 = (x3.setCell ⟨Y, 0, none⟩ (.int .i64 hf.1.1)).setCell ⟨Y, 1, none⟩ (.slice A1 n1 c1) := ⟨_, rfl⟩
        have YC0 := Lib.hid (show W4.cell? ⟨Y, 0, none⟩ = some (.int .i64 hf.1.1) by rw [hW4, World.cell?_setCell_other _ _ _ _ (fun e => by injection e with _ e; omega)]; exact World.cell?_setCell_same' _ _ _ (by rw [z0]; rfl))
        have YC1 := Lib.hid (show W4.cell? ⟨Y, 1, none⟩ = some (.slice A1 n1 c1) by rw [hW4]; exact World.cell?_setCell_same' _ _ _ (by rw [World.cell?_setCell_other _ _ _ _ (fun e => by injection e with _ e; omega), z1]; rfl))
        have RL := Lib.hid hl1
        have RR := Lib.hid (show Row W4 A1 n1 c1 hf.1.2 by rw [hW4]; exact row_farj (row_farj hr1 (fun hne ad hA => hyA hne ad hA)) (fun hne ad hA => hyA hne ad hA))
        have RB := Lib.hid (show Row W4 Bb m1 d1 (g :: t) by rw [hW4, ← HB2.out]; exact row_farj (row_farj hrB (fun hne ad hA => hyB ad hA)) (fun hne ad hA => hyB ad hA))
        have BX := Lib.hid (show Below w3.heap.size w3 W4 by rw [hW4]; exact (hb3.setCell hY3 _).setCell hY3 _)
        have FB := Lib.hid hfB3
        have HYh := Lib.hid hY3
        try rw [← hW4]
        clear hW4
        go_wp2_with fail
        go_meet
        exact ⟨Y, A1, n1, c1, Bb, m1, d1, rfl, rfl, YC0, YC1, RR, RL, RB, FB, HYh, BX⟩
    case rest =>
      obtain ⟨wA, rfl⟩ : ∃ wA : World, wA = wc := ⟨_, rfl⟩
      obtain ⟨Y, A1, n1, c1, Bb, m1, d1, rfl, rfl, YC0, YC1, RR, RL, RB, FB, HY, BX⟩ := hcut
      have S4 := Lib.hid (S3.out.step BX.out)
      have cV4 := keepcell BX.out cV
      have hm1 := RB.out.len
      rw [List.length_cons] at hm1
      obtain ⟨bB, oB, hBb, hbB, hcB⟩ := RB.out.cells (by omega)
      subst hBb
      have cB0 := hcB 0 g rfl
      rw [Nat.add_zero] at cB0
      have HCB := Lib.hid hcB
      have HBB := Lib.hid hbB
      obtain ⟨w5, hw5⟩ : ∃ w5, w5 = wA.alloc (.cells #[.int .i64 0, .slice none 0 0] 58) := ⟨_, rfl⟩
      have hb5 : Below wA.heap.size wA w5 := by rw [hw5]; exact below_new _ _
      have o0 : w5.cell? ⟨wA.heap.size, 0, none⟩ = some (.int .i64 0) := by rw [hw5, World.cell?_alloc_at _ _ _ _ rfl]; rfl
      have o1 : w5.cell? ⟨wA.heap.size, 1, none⟩ = some (.slice none 0 0) := by rw [hw5, World.cell?_alloc_at _ _ _ _ rfl]; rfl
      have f0 : w5.frozen? ⟨wA.heap.size, 0, none⟩ = false := by rw [hw5, World.frozen?_alloc_at _ _ _ _ rfl]
      have f1 : w5.frozen? ⟨wA.heap.size, 1, none⟩ = false := by rw [hw5, World.frozen?_alloc_at _ _ _ _ rfl]
      have hs5 : wA.heap.size < w5.heap.size := by rw [hw5]; simp
      obtain ⟨w6, hw6⟩ : ∃ w6, w6 = (w5.setCell ⟨wA.heap.size, 0, none⟩ (.int .i64 0)).setCell ⟨wA.heap.size, 1, none⟩ (.slice none 0 0) := ⟨_, rfl⟩
      have OB0 := Lib.hid (⟨by rw [hw6, World.cell?_setCell_other _ _ _ _ (fun e => by injection e with _ e; omega)]; exact World.cell?_setCell_same' _ _ _ (by rw [o0]; rfl), by rw [hw6]; exact World.cell?_setCell_same' _ _ _ (by rw [World.cell?_setCell_other _ _ _ _ (fun e => by injection e with _ e; omega), o1]; rfl), by rw [hw6, World.frozen?_setCell, World.frozen?_setCell]; exact f1, World.ownsRow_nil _ _ _ _, Nat.le_refl _, by rw [hw6]; simpa [World.setCell] using hs5, by rw [hw6]; exact (hb5.setCell (by simp) _).setCell (by simp) _, Nat.zero_le _⟩ : WO wA w6 t 0 none 0 0 w6)
      have E5 := Lib.hid hw5
      have E6 := Lib.hid hw6
      clear hw5 hw6 hb5 hs5 hcB hbB cR0 cR1 q2 cV
      go_upto_region 8 with (rw [← E5.out])
      rw [← E6.out]
      clear E5 E6 o0 o1 f0 f1
      go_wp2_with fail
      go_loopw [14, 15] (fun sp i wr => sp = .slice none 0 0 ∧ ∃ jj : Nat, jj ≤ t.length ∧ i = .int .i64 ((jj : Int) + 1) ∧ ∃ A n c, Hid (WO wA w6 t jj A n c wr)) (fun _ i _ => m1 + 1 - (intOf i).toNat)
      case atStart => exact ⟨rfl, 0, Nat.zero_le _, rfl, none, 0, 0, OB0⟩
      case round =>
        clear OB0
        obtain ⟨rfl, jj, hjj, rfl, A, n, c, HO⟩ := hrel
        by_cases hlt : jj < t.length
        · have e1 : (jj : Int) + 1 < (m1 : Int) := by omega
          have e2 : (0 : Int) ≤ (jj : Int) + 1 := by omega
          have hn := (Row.of_own HO.out.own)
          obtain ⟨_, _, ea, hrow⟩ := hn
          injection ea with ea1 _ ea2
          subst ea1 ea2
          have hnl := hrow.len
          rw [List.length_take] at hnl
          have e3 : (n : Int) < r.size := by omega
          have hn16 : n ≤ 16 := by have := HTF.out.may.high; omega
          have x1 := (S4.out.step HO.out.below).box.c1
          have oc1 := HO.out.c1
          obtain ⟨z, hz⟩ : ∃ z, t[jj]? = some z := ⟨_, List.getElem?_eq_getElem hlt⟩
          have cz := keepcell HO.out.below (HCB.out (jj + 1) z hz)
          have HZT := Lib.hid (show t.take (jj + 1) = t.take jj ++ [z] by rw [List.take_add_one, hz]; rfl)
          have wk : IntKind.i64.wrap ((jj : Int) + 1 + 1) = ((jj + 1 : Nat) : Int) + 1 := by
            rw [show (jj : Int) + 1 + 1 = ((jj + 1 : Nat) : Int) + 1 by omega]
            have := HL.out.ring (x, tl) (List.mem_of_getElem? hx)
            exact IntWalk.i64_in _ (by have h3 := HTF.out.may.high; omega)
          clear hrow hz
          go_wp2_with fail
          have et : ((jj : Int) + 1).toNat = jj + 1 := by omega
          refine wp_region_held_drew (S := fun w' => w'.cell? ⟨bB, oB + (jj + 1), none⟩ = some (.int .i64 z)) (by kernel_rfl) cz (fun hHeld => ?_)
          have hb1 := (Below.refl wr.heap.size wr).drew
          obtain ⟨x1, hx1⟩ : ∃ x1, x1 = wr.drew := ⟨_, rfl⟩
          rw [← hx1] at hb1 hHeld ⊢
          clear hx1
          have H1 := Lib.hid (HO.out.step hb1)
          have k1 := keepcell hb1 cz
          have p1 := H1.out.c1
          refine wpAnyH_takesJ (i := 0) (v := (.pointer (some ⟨wA.heap.size, 1, none⟩))) (some 59) rfl rfl (by kernel_rfl) (by kernel_rfl) (by kernel_rfl) (fun _ _ _ h => h) (Or.inl ⟨by rfl, (by intro W9 hSw; (try dsimp only at hSw); go_simp; first | done | with_reducible rfl)⟩) (by assumption) ?_
          simp only [Act.put, List.setIfInBounds_toArray]; try simp only [List.set_cons_zero, List.set_cons_succ]
          refine wpAnyH_takesJ (i := 2) (v := (.slice (some ⟨bB, oB, none⟩) m1 d1)) (some 61) rfl rfl (by kernel_rfl) (by kernel_rfl) (by kernel_rfl) (fun _ _ _ h => h) (Or.inl ⟨by rfl, (by intro W9 hSw; (try dsimp only at hSw); go_simp; first | done | with_reducible rfl)⟩) (by assumption) ?_
          simp only [Act.put, List.setIfInBounds_toArray]; try simp only [List.set_cons_zero, List.set_cons_succ]
          refine wpAnyH_takesJ (i := 3) (v := (.int .i64 ((jj : Int) + 1))) (some 62) rfl rfl (by kernel_rfl) (by kernel_rfl) (by kernel_rfl) (fun _ _ _ h => h) (Or.inl ⟨by rfl, (by intro W9 hSw; (try dsimp only at hSw); go_simp; first | done | with_reducible rfl)⟩) (by assumption) ?_
          simp only [Act.put, List.setIfInBounds_toArray]; try simp only [List.set_cons_zero, List.set_cons_succ]
          refine wpAnyH_takesJ (i := 4) (v := (.pointer (some ⟨bB, oB + (jj + 1), none⟩))) (some 63) rfl rfl (by kernel_rfl) (by kernel_rfl) (by kernel_rfl) (fun _ _ _ h => h) (Or.inl ⟨by rfl, (by intro W9 hSw; (try dsimp only at hSw); go_simp; first | done | with_reducible rfl)⟩) (by assumption) ?_
          simp only [Act.put, List.setIfInBounds_toArray]; try simp only [List.set_cons_zero, List.set_cons_succ]
          refine wpAnyH_takesJ (i := 5) (v := (.int .i64 z)) (some 64) rfl rfl (by kernel_rfl) (by kernel_rfl) (by kernel_rfl) (fun _ _ _ h => h) (Or.inl ⟨by rfl, (by intro W9 hSw; (try dsimp only at hSw); go_simp; first | done | with_reducible rfl)⟩) (by assumption) ?_
          simp only [Act.put, List.setIfInBounds_toArray]; try simp only [List.set_cons_zero, List.set_cons_succ]
          refine wpAnyH_ready (rs := [1, 6]) (by kernel_rfl) (by simp) ?_
          refine AllReadyH.cons rfl (fun K hK => ?_) (AllReadyH.cons rfl (fun K hK => ?_) AllReadyH.nil)
          · go_simp
            refine hK.out _ _ (by exact k1) (fun hHeld => ?_)
            clear hK K
            try dsimp only
            refine wpAnyH_ready (rs := [6]) (by kernel_rfl) (by simp) ?_
            refine AllReadyH.cons rfl (fun K hK => ?_) AllReadyH.nil
            go_simp
            have hbl := below_new x1 (.cells #[.int .i64 z] 3)
            have RLt := Lib.hid (row_at x1 z x1.heap.size rfl)
            have H2 := Lib.hid (H1.out.step hbl)
            have k2 := keepcell hbl k1
            obtain ⟨LB, hLB⟩ : ∃ LB, LB = x1.heap.size := ⟨_, rfl⟩
            obtain ⟨x2, hx⟩ : ∃ x2, x2 = x1.alloc (.cells #[.int .i64 z] 3) := ⟨_, rfl⟩
            rw [← hx] at hbl RLt H2 k2 ⊢
            rw [← hLB] at RLt
            try rw [← hLB]
            have p2 := H2.out.c1
            refine hK.out _ _ (by exact k2) (fun hHeld => ?_)
            clear hK K hx hLB
            try dsimp only
            refine wpAnyH_ready (rs := [7]) (by kernel_rfl) (by simp) ?_
            refine AllReadyH.cons rfl (fun K hK => ?_) AllReadyH.nil
            refine step_append_rowat (by rfl) (.tmp 60) (.tmp 65) (by rfl) w6.heap.size (.slice A n c) n (t.take jj) (by rfl) H2.out.own (some ⟨LB, 0, none⟩) 1 1 [z] (by rfl) RLt.out (by omega) H2.out.up ?_
            intro v3 x3 ho3 hg3 _
            obtain ⟨A3, c3, rfl⟩ := own_form ho3
            obtain ⟨p3, f3, hkk⟩ := H2.out.cells hg3
            have k3 := hkk _ _ _ HBB.out k2
            have HO3 := Lib.hid (H2.out.add HZT.out hlt ho3 hg3)
            show K (Act.put _ (some 66) _) _
            refine hK.out _ _ (by exact k3) (fun hHeld => ?_)
            clear hK K ho3 hg3 hkk
            try dsimp only
            refine wpAnyH_takesJ (i := 8) (v := (.pointer (some ⟨wA.heap.size, 1, none⟩))) (some 67) rfl rfl (by kernel_rfl) (by kernel_rfl) (by kernel_rfl) (fun _ _ _ h => h) (Or.inl ⟨by rfl, (by intro W9 hSw; (try dsimp only at hSw); go_simp; first | done | with_reducible rfl)⟩) (by assumption) ?_
            simp only [Act.put, List.setIfInBounds_toArray]; try simp only [List.set_cons_zero, List.set_cons_succ]
            refine wpAnyH_ready (rs := [9]) (by kernel_rfl) (by simp) ?_
            refine AllReadyH.cons rfl (fun K hK => ?_) AllReadyH.nil
            go_simp
            have hbA : bB ≠ wA.heap.size := by have := HBB.out; omega
            refine hK.out _ _ (by exact farcell hbA k3) (fun hHeld => ?_)
            clear hK K
            try dsimp only
            refine wpAnyH_done (by kernel_rfl) ?_ _
            obtain ⟨W4, hW4⟩ : ∃ W4, W4 = x3.setCell ⟨wA.heap.size, 1, none⟩ (.slice A3 (n + 1) c3) := ⟨_, rfl⟩
            rw [← hW4] at HO3 ⊢
            clear hW4 p3 f3 k3 p2 k2 p1 k1 oc1 cz
            go_wp2_with fail
            go_roundw
            case rel => exact ⟨rfl, jj + 1, by omega, by first | exact wk | rw [wk] | go_num, _, _, _, HO3⟩
            case measure => simp [intOf]; omega
          · go_simp
            have hbl := below_new x1 (.cells #[.int .i64 z] 3)
            have RLt := Lib.hid (row_at x1 z x1.heap.size rfl)
            have H2 := Lib.hid (H1.out.step hbl)
            have k2 := keepcell hbl k1
            obtain ⟨LB, hLB⟩ : ∃ LB, LB = x1.heap.size := ⟨_, rfl⟩
            obtain ⟨x2, hx⟩ : ∃ x2, x2 = x1.alloc (.cells #[.int .i64 z] 3) := ⟨_, rfl⟩
            rw [← hx] at hbl RLt H2 k2 ⊢
            rw [← hLB] at RLt
            try rw [← hLB]
            have p2 := H2.out.c1
            refine hK.out _ _ (by exact k2) (fun hHeld => ?_)
            clear hK K hx hLB
            try dsimp only
            refine wpAnyH_ready (rs := [1]) (by kernel_rfl) (by simp) ?_
            refine AllReadyH.cons rfl (fun K hK => ?_) AllReadyH.nil
            go_simp
            refine hK.out _ _ (by exact k2) (fun hHeld => ?_)
            clear hK K
            try dsimp only
            refine wpAnyH_ready (rs := [7]) (by kernel_rfl) (by simp) ?_
            refine AllReadyH.cons rfl (fun K hK => ?_) AllReadyH.nil
            refine step_append_rowat (by rfl) (.tmp 60) (.tmp 65) (by rfl) w6.heap.size (.slice A n c) n (t.take jj) (by rfl) H2.out.own (some ⟨LB, 0, none⟩) 1 1 [z] (by rfl) RLt.out (by omega) H2.out.up ?_
            intro v3 x3 ho3 hg3 _
            obtain ⟨A3, c3, rfl⟩ := own_form ho3
            obtain ⟨p3, f3, hkk⟩ := H2.out.cells hg3
            have k3 := hkk _ _ _ HBB.out k2
            have HO3 := Lib.hid (H2.out.add HZT.out hlt ho3 hg3)
            show K (Act.put _ (some 66) _) _
            refine hK.out _ _ (by exact k3) (fun hHeld => ?_)
            clear hK K ho3 hg3 hkk
            try dsimp only
            refine wpAnyH_takesJ (i := 8) (v := (.pointer (some ⟨wA.heap.size, 1, none⟩))) (some 67) rfl rfl (by kernel_rfl) (by kernel_rfl) (by kernel_rfl) (fun _ _ _ h => h) (Or.inl ⟨by rfl, (by intro W9 hSw; (try dsimp only at hSw); go_simp; first | done | with_reducible rfl)⟩) (by assumption) ?_
            simp only [Act.put, List.setIfInBounds_toArray]; try simp only [List.set_cons_zero, List.set_cons_succ]
            refine wpAnyH_ready (rs := [9]) (by kernel_rfl) (by simp) ?_
            refine AllReadyH.cons rfl (fun K hK => ?_) AllReadyH.nil
            go_simp
            have hbA : bB ≠ wA.heap.size := by have := HBB.out; omega
            refine hK.out _ _ (by exact farcell hbA k3) (fun hHeld => ?_)
            clear hK K
            try dsimp only
            refine wpAnyH_done (by kernel_rfl) ?_ _
            obtain ⟨W4, hW4⟩ : ∃ W4, W4 = x3.setCell ⟨wA.heap.size, 1, none⟩ (.slice A3 (n + 1) c3) := ⟨_, rfl⟩
            rw [← hW4] at HO3 ⊢
            clear hW4 p3 f3 k3 p2 k2 p1 k1 oc1 cz
            go_wp2_with fail
            go_roundw
            case rel => exact ⟨rfl, jj + 1, by omega, by first | exact wk | rw [wk] | go_num, _, _, _, HO3⟩
            case measure => simp [intOf]; omega
        · have hje : jj = t.length := by omega
          have e1 : ¬ (jj : Int) + 1 < (m1 : Int) := by omega
          have HTT := Lib.hid (show t.take jj = t by rw [hje, List.take_length])
          have hown := HO.out.own
          rw [HTT.out] at hown
          obtain ⟨_, _, ea, hrow, hfo⟩ := Row.of_own' hown
          injection ea with ea1 _ ea2
          subst ea1 ea2
          have RO := Lib.hid hrow
          have FO := Lib.hid hfo
          have S5 := Lib.hid (S4.out.step HO.out.below)
          have q0 := S5.out.box.c0
          have q1 := S5.out.box.c1
          have q2 := S5.out.box.c2
          have q3 := S5.out.box.c3
          have q4 := S5.out.box.c4
          have cV5 := keepcell HO.out.below cV4
          have y0 := keepcell HO.out.below YC0.out
          have y1 := keepcell HO.out.below YC1.out
          have o0 := HO.out.c0
          have o1 := HO.out.c1
          have HR1 := Lib.hid (RR.out.below HO.out.below)
          have HG1 := Lib.hid (show hf.1.2 ≠ [] → ∀ ad, A1 = some ad → GZ F w ad.block ∧ ad.block < wr.heap.size from fun hne ad hA => by
            obtain ⟨ad0, h1, h2⟩ := RL.out hne ad hA
            rw [h2]
            refine ⟨HFG.out hne ad0 h1, ?_⟩
            have h3 := HFT3.out hne ad0 h1
            have h4 := BX.out.size
            have h5 := HO.out.below.size
            omega)
          have HG2 := Lib.hid (show t ≠ [] → ∀ ad, A = some ad → GZ F w ad.block ∧ ad.block < wr.heap.size from fun hne ad hA => by
            have h1 := FO.out ad hA
            have h2 := row_block RO.out hne hA
            have h3 := HO.out.lt
            have h4 := S4.out.lt
            exact ⟨⟨.inr (by omega), by omega⟩, h2⟩)
          have cB1 := keepcell HO.out.below cB0
          have HBV := Lib.hid (show bV ≠ w.heap.size + 1 from by have := HBV0.out; omega)
          have HBB1 := Lib.hid (show bB ≠ w.heap.size + 1 from by have h1 := FB.out ⟨bB, oB, none⟩ rfl; have h2 := S3.out.lt; simp only at h1; omega)
          have SZ1 := Lib.hid S5.out.lt
          clear hown hrow hfo HO HCB HTT RR RL FO cB0 cV4 YC0 YC1 RB S4 hlt hje
          go_upto_region 15 with fail
          go_cut [16] (fun v16 wx => ∃ (O2 : Nat) (T2 : Option Addr) (nt2 ct2 : Nat) (R2 : Option Addr) (nr2 cr2 : Nat) (S2 : Option Addr) (ns2 cs2 : Nat), v16 = .pointer (some ⟨O2, 0, none⟩) ∧ Hid (B5 wx O2 (.slice T2 nt2 ct2) (.int .i64 r.size) (.slice R2 nr2 cr2) (.slice S2 ns2 cs2) (.int .u64 (r.on : Nat))) ∧ Hid (RM (GZ F w) wx ⟨T2, nt2, ct2, R2, nr2, cr2, S2, ns2, cs2⟩ (Jp.ringed (Jp.ringed r j hf.1) k (0, t))) ∧ Hid (wr.heap.size ≤ O2) ∧ Hid (Below wr.heap.size wr wx))
          case first =>
            go_wp2_with fail
            refine wp_region_held_drew (S := fun w' => w'.cell? ⟨w.heap.size, 0, none⟩ = some (.slice A0 nt ct) ∧ w'.cell? ⟨w.heap.size, 1, none⟩ = some (.int .i64 r.size) ∧ w'.cell? ⟨w.heap.size, 2, none⟩ = some (.slice (some ⟨bR, oR, none⟩) nr cr) ∧ w'.cell? ⟨w.heap.size, 3, none⟩ = some (.slice S ns cs) ∧ w'.cell? ⟨w.heap.size, 4, none⟩ = some (.int .u64 (r.on : Nat)) ∧ w'.cell? ⟨bV, oV, none⟩ = some (.int .i64 (j : Nat)) ∧ w'.cell? ⟨Y, 0, none⟩ = some (.int .i64 hf.1.1) ∧ w'.cell? ⟨Y, 1, none⟩ = some (.slice A1 n1 c1) ∧ w'.cell? ⟨wA.heap.size, 0, none⟩ = some (.int .i64 0) ∧ w'.cell? ⟨wA.heap.size, 1, none⟩ = some (.slice A n c)) (by kernel_rfl) ⟨q0, q1, q2, q3, q4, cV5, y0, y1, o0, o1⟩ (fun hHeld => ?_)
            have hb1 := (Below.refl wr.heap.size wr).drew
            obtain ⟨x1, hx1⟩ : ∃ x1, x1 = wr.drew := ⟨_, rfl⟩
            rw [← hx1] at hb1 hHeld ⊢
            clear hx1
            refine wpAnyH_takesJ (i := 0) (v := (.agg #[.slice A0 nt ct, .int .i64 r.size, .slice (some ⟨bR, oR, none⟩) nr cr, .slice S ns cs, .int .u64 (r.on : Nat)])) (some 75) rfl rfl (by kernel_rfl) (by kernel_rfl) (by kernel_rfl) (fun _ _ _ h => h) (Or.inl ⟨by rfl, (by intro W9 hSw; (try dsimp only at hSw); go_simp; first | done | with_reducible rfl)⟩) (by assumption) ?_
            simp only [Act.put, List.setIfInBounds_toArray]; try simp only [List.set_cons_zero, List.set_cons_succ]
            refine wpAnyH_takesJ (i := 1) (v := (.slice (some ⟨bV, oV, none⟩) L cv)) (some 76) rfl rfl (by kernel_rfl) (by kernel_rfl) (by kernel_rfl) (fun _ _ _ h => h) (Or.inl ⟨by rfl, (by intro W9 hSw; (try dsimp only at hSw); go_simp; first | done | with_reducible rfl)⟩) (by assumption) ?_
            simp only [Act.put, List.setIfInBounds_toArray]; try simp only [List.set_cons_zero, List.set_cons_succ]
            refine wpAnyH_takesJ (i := 2) (v := (.pointer (some ⟨bV, oV, none⟩))) (some 77) rfl rfl (by kernel_rfl) (by kernel_rfl) (by kernel_rfl) (fun _ _ _ h => h) (Or.inl ⟨by rfl, (by intro W9 hSw; (try dsimp only at hSw); go_simp; first | done | with_reducible rfl)⟩) (by assumption) ?_
            simp only [Act.put, List.setIfInBounds_toArray]; try simp only [List.set_cons_zero, List.set_cons_succ]
            refine wpAnyH_takesJ (i := 3) (v := (.int .i64 (j : Nat))) (some 78) rfl rfl (by kernel_rfl) (by kernel_rfl) (by kernel_rfl) (fun _ _ _ h => h) (Or.inl ⟨by rfl, (by intro W9 hSw; (try dsimp only at hSw); go_simp; first | done | with_reducible rfl)⟩) (by assumption) ?_
            simp only [Act.put, List.setIfInBounds_toArray]; try simp only [List.set_cons_zero, List.set_cons_succ]
            refine wpAnyH_takesJ (i := 4) (v := (.agg #[.int .i64 hf.1.1, .slice A1 n1 c1])) (some 79) rfl rfl (by kernel_rfl) (by kernel_rfl) (by kernel_rfl) (fun _ _ _ h => h) (Or.inl ⟨by rfl, (by intro W9 hSw; (try dsimp only at hSw); go_simp; first | done | with_reducible rfl)⟩) (by assumption) ?_
            simp only [Act.put, List.setIfInBounds_toArray]; try simp only [List.set_cons_zero, List.set_cons_succ]
            refine wpAnyH_takesJ (i := 6) (v := (.int .i64 (k : Nat))) (some 81) rfl rfl (by kernel_rfl) (by kernel_rfl) (by kernel_rfl) (fun _ _ _ h => h) (Or.inl ⟨by rfl, (by intro W9 hSw; (try dsimp only at hSw); go_simp; first | done | with_reducible rfl)⟩) (by assumption) ?_
            simp only [Act.put, List.setIfInBounds_toArray]; try simp only [List.set_cons_zero, List.set_cons_succ]
            refine wpAnyH_takesJ (i := 7) (v := (.agg #[.int .i64 0, .slice A n c])) (some 82) rfl rfl (by kernel_rfl) (by kernel_rfl) (by kernel_rfl) (fun _ _ _ h => h) (Or.inl ⟨by rfl, (by intro W9 hSw; (try dsimp only at hSw); go_simp; first | done | with_reducible rfl)⟩) (by assumption) ?_
            simp only [Act.put, List.setIfInBounds_toArray]; try simp only [List.set_cons_zero, List.set_cons_succ]
            have MR1 := Lib.hid (S5.out.mem.below hb1)
            have RO1 := Lib.hid (RO.out.below hb1)
            refine wpAnyH_ready (rs := [5, 9]) (by kernel_rfl) (by simp) ?_
            refine AllReadyH.cons rfl (fun K hK => ?_) (AllReadyH.cons rfl (fun K hK => ?_) AllReadyH.nil)
            · go_simp
              go_at_call 34
              have hrw := jringed_any (F := GZ F w) ⟨A0, nt, ct, some ⟨bR, oR, none⟩, nr, cr, S, ns, cs⟩ r j hf.1.1 hf.1.2 A1 n1 c1 x1 MR1.out (by simp only; omega) (by simp only; omega) (HR1.out.below hb1) (fun hne ad hA => (HG1.out hne ad hA).1)
              obtain ⟨ra, hra⟩ : ∃ ra, ra = Jp.ringed r j hf.1 := ⟨_, rfl⟩
              rw [show Jp.ringed r j (hf.1.1, hf.1.2) = Jp.ringed r j hf.1 from rfl, ← hra] at hrw
              have HRA := Lib.hid hra
              clear hra
              refine hrw.mono ?_
              rintro e x2 ⟨⟨T6, nt6, ct6, R6, nr6, cr6, S6, ns6, cs6⟩, rfl, hm6, hb6⟩
              have hb2 := hb1.trans (hb6.mono hb1.size)
              have MA2 := Lib.hid (GZ.of hm6 (Nat.lt_of_lt_of_le SZ1.out hb1.size))
              have RO2 := Lib.hid (RO.out.below hb2)
              have hs6 : ra.size = r.size := by rw [HRA.out]; rfl
              have ho6 : ra.on = r.on := by rw [HRA.out]; rfl
              have HN6 := Lib.hid (show nr6 = nr by have h1 : ra.rings.length = nr6 := hm6.nr.1; rw [← h1, HRA.out]; simpa [Jp.ringed] using hr1)
              unfold jv
              simp only
              rw [hs6, ho6]
              refine hK.out _ _ (by exact ⟨keepcell hb2 q0, keepcell hb2 q1, keepcell hb2 q2, keepcell hb2 q3, keepcell hb2 q4, keepcell hb2 cV5, keepcell hb2 y0, keepcell hb2 y1, keepcell hb2 o0, keepcell hb2 o1⟩) (fun hHeld => ?_)
              clear hK K hm6 hb6 hrw
              try dsimp only
              refine wpAnyH_ready (rs := [8, 9]) (by kernel_rfl) (by simp) ?_
              refine AllReadyH.cons rfl (fun K hK => ?_) (AllReadyH.cons rfl (fun K hK => ?_) AllReadyH.nil)
              · go_simp
                go_at_call 34
                have hrw := jringed_any (F := GZ F w) ⟨T6, nt6, ct6, R6, nr6, cr6, S6, ns6, cs6⟩ ra k 0 t A n c x2 MA2.out (by have := HN6.out; simp only; omega) (by have := HN6.out; simp only; omega) (RO.out.below hb2) (fun hne ad hA => (HG2.out hne ad hA).1)
                obtain ⟨rb, hrb⟩ : ∃ rb, rb = Jp.ringed ra k (0, t) := ⟨_, rfl⟩
                rw [← hrb] at hrw
                have HRB := Lib.hid hrb
                clear hrb
                unfold jv at hrw
                simp only at hrw
                rw [hs6, ho6] at hrw
                refine hrw.mono ?_
                rintro e x3 ⟨⟨T2, nt2, ct2, R2, nr2, cr2, S2, ns2, cs2⟩, rfl, hm6, hb6⟩
                have hb3 := hb2.trans (hb6.mono hb2.size)
                have MB3 := Lib.hid (GZ.of hm6 (Nat.lt_of_lt_of_le SZ1.out hb2.size))
                have hs7 : rb.size = r.size := by rw [HRB.out]; exact hs6
                have ho7 : rb.on = r.on := by rw [HRB.out]; exact ho6
                unfold jv
                simp only
                rw [hs7, ho7]
                refine hK.out _ _ (by exact ⟨keepcell hb3 q0, keepcell hb3 q1, keepcell hb3 q2, keepcell hb3 q3, keepcell hb3 q4, keepcell hb3 cV5, keepcell hb3 y0, keepcell hb3 y1, keepcell hb3 o0, keepcell hb3 o1⟩) (fun hHeld => ?_)
                clear hK K hm6 hb6 hrw
                try dsimp only
                refine wpAnyH_ready (rs := [9]) (by kernel_rfl) (by simp) ?_
                refine AllReadyH.cons rfl (fun K hK => ?_) AllReadyH.nil
                go_simp
                have hbl := below_new x3 (.cells #[.slice none 0 0, .int .i64 0, .slice none 0 0, .slice none 0 0, .int .u64 0] 27)
                have hOn := C5.new x3 (.slice none 0 0) (.int .i64 0) (.slice none 0 0) (.slice none 0 0) (.int .u64 0) 27
                have hmg := GO.new MB3.out
                obtain ⟨x4, hx⟩ : ∃ x4, x4 = x3.alloc (.cells #[.slice none 0 0, .int .i64 0, .slice none 0 0, .slice none 0 0, .int .u64 0] 27) := ⟨_, rfl⟩
                rw [← hx] at hbl hOn ⊢
                have hb4 := hb3.trans (hbl.mono hb3.size)
                have hmg2 := hmg.below hbl
                have hO2g := hb3.size
                obtain ⟨O2, hO2⟩ : ∃ O2, O2 = x3.heap.size := ⟨_, rfl⟩
                rw [← hO2] at hOn hmg2 hO2g ⊢
                clear hO2 hx hbl hmg
                have OX4 := Lib.hid hOn
                have hO2l : O2 < x4.heap.size := OX4.out.lt
                have MB4 := Lib.hid hmg2
                refine hK.out _ _ (by exact ⟨keepcell hb4 q0, keepcell hb4 q1, keepcell hb4 q2, keepcell hb4 q3, keepcell hb4 q4, keepcell hb4 cV5, keepcell hb4 y0, keepcell hb4 y1, keepcell hb4 o0, keepcell hb4 o1⟩) (fun hHeld => ?_)
                clear hK K hOn hmg2
                try dsimp only
                have z0 := OX4.out.b5.c0
                have z1 := OX4.out.b5.c1
                have z2 := OX4.out.b5.c2
                have z3 := OX4.out.b5.c3
                have z4 := OX4.out.b5.c4
                have g0 := OX4.out.f0
                have g1 := OX4.out.f1
                have g2 := OX4.out.f2
                have g3 := OX4.out.f3
                have g4 := OX4.out.f4
                refine wpAnyH_ready (rs := [10]) (by kernel_rfl) (by simp) ?_
                refine AllReadyH.cons rfl (fun K hK => ?_) AllReadyH.nil
                go_simp
                have hne : ∀ {bb : Nat} {i : Nat} {v : Value}, wr.cell? ⟨bb, i, none⟩ = some v → bb ≠ O2 := fun h e => by have := World.block_lt_of_cell? _ _ h; simp only at this; omega
                refine hK.out _ _ (by exact ⟨far5 (hne q0) (keepcell hb4 q0), far5 (hne q1) (keepcell hb4 q1), far5 (hne q2) (keepcell hb4 q2), far5 (hne q3) (keepcell hb4 q3), far5 (hne q4) (keepcell hb4 q4), far5 (hne cV5) (keepcell hb4 cV5), far5 (hne y0) (keepcell hb4 y0), far5 (hne y1) (keepcell hb4 y1), far5 (hne o0) (keepcell hb4 o0), far5 (hne o1) (keepcell hb4 o1)⟩) (fun hHeld => ?_)
                clear hK K z0 z1 z2 z3 z4 g0 g1 g2 g3 g4
                try dsimp only
                refine wpAnyH_done (by kernel_rfl) ?_ _
                have OC := Lib.hid (OX4.out.put (.slice T2 nt2 ct2) (.int .i64 r.size) (.slice R2 nr2 cr2) (.slice S2 ns2 cs2) (.int .u64 (r.on : Nat))).b5
                have OM := Lib.hid ((MB4.out.put (X := O2) (fun h => h.2 rfl) (.slice T2 nt2 ct2) (.int .i64 r.size) (.slice R2 nr2 cr2) (.slice S2 ns2 cs2) (.int .u64 (r.on : Nat))).mono (fun b h => h.1))
                rw [HRB.out, HRA.out] at OM
                have BY := Lib.hid (below_put hb4 hO2g (.slice T2 nt2 ct2) (.int .i64 r.size) (.slice R2 nr2 cr2) (.slice S2 ns2 cs2) (.int .u64 (r.on : Nat)))
                have HO2 := Lib.hid hO2g
                obtain ⟨W4, hW4⟩ : ∃ W4, W4 = put5 x4 O2 (.slice T2 nt2 ct2) (.int .i64 r.size) (.slice R2 nr2 cr2) (.slice S2 ns2 cs2) (.int .u64 (r.on : Nat)) := ⟨_, rfl⟩
                rw [← hW4] at OC OM BY
                unfold put5 at hW4
                rw [← hW4]
                clear hW4
                go_wp2_with fail
                go_meet
                exact ⟨O2, T2, nt2, ct2, R2, nr2, cr2, S2, ns2, cs2, rfl, OC, OM, HO2, BY⟩
              · go_simp
                have hbl := below_new x2 (.cells #[.slice none 0 0, .int .i64 0, .slice none 0 0, .slice none 0 0, .int .u64 0] 27)
                have hOn := C5.new x2 (.slice none 0 0) (.int .i64 0) (.slice none 0 0) (.slice none 0 0) (.int .u64 0) 27
                have hmg := GO.new MA2.out
                obtain ⟨x3, hx⟩ : ∃ x3, x3 = x2.alloc (.cells #[.slice none 0 0, .int .i64 0, .slice none 0 0, .slice none 0 0, .int .u64 0] 27) := ⟨_, rfl⟩
                rw [← hx] at hbl hOn ⊢
                have hb3 := hb2.trans (hbl.mono hb2.size)
                have hmg2 := hmg.below hbl
                have hO2g := hb2.size
                obtain ⟨O2, hO2⟩ : ∃ O2, O2 = x2.heap.size := ⟨_, rfl⟩
                rw [← hO2] at hOn hmg2 hO2g ⊢
                clear hO2 hx hbl hmg
                have OX3 := Lib.hid hOn
                have hO2l : O2 < x3.heap.size := OX3.out.lt
                have MA3 := Lib.hid hmg2
                refine hK.out _ _ (by exact ⟨keepcell hb3 q0, keepcell hb3 q1, keepcell hb3 q2, keepcell hb3 q3, keepcell hb3 q4, keepcell hb3 cV5, keepcell hb3 y0, keepcell hb3 y1, keepcell hb3 o0, keepcell hb3 o1⟩) (fun hHeld => ?_)
                clear hK K hOn hmg2
                try dsimp only
                refine wpAnyH_ready (rs := [8]) (by kernel_rfl) (by simp) ?_
                refine AllReadyH.cons rfl (fun K hK => ?_) AllReadyH.nil
                go_simp
                go_at_call 34
                have hrw := jringed_any (F := GO F w O2) ⟨T6, nt6, ct6, R6, nr6, cr6, S6, ns6, cs6⟩ ra k 0 t A n c x3 MA3.out (by have := HN6.out; simp only; omega) (by have := HN6.out; simp only; omega) (RO.out.below hb3) (fun hne ad hA => ⟨(HG2.out hne ad hA).1, by have := (HG2.out hne ad hA).2; have := hO2g; omega⟩)
                obtain ⟨rb, hrb⟩ : ∃ rb, rb = Jp.ringed ra k (0, t) := ⟨_, rfl⟩
                rw [← hrb] at hrw
                have HRB := Lib.hid hrb
                clear hrb
                unfold jv at hrw
                simp only at hrw
                rw [hs6, ho6] at hrw
                refine hrw.mono ?_
                rintro e x4 ⟨⟨T2, nt2, ct2, R2, nr2, cr2, S2, ns2, cs2⟩, rfl, hm6, hb6⟩
                have hb4 := hb3.trans (hb6.mono hb3.size)
                have MB4 := Lib.hid (GO.of hm6 (Nat.lt_of_lt_of_le SZ1.out hb3.size) (by have := hO2l; omega))
                have OX4 := Lib.hid (OX3.out.step hb6)
                have hO2l : O2 < x4.heap.size := OX4.out.lt
                have hs7 : rb.size = r.size := by rw [HRB.out]; exact hs6
                have ho7 : rb.on = r.on := by rw [HRB.out]; exact ho6
                unfold jv
                simp only
                rw [hs7, ho7]
                refine hK.out _ _ (by exact ⟨keepcell hb4 q0, keepcell hb4 q1, keepcell hb4 q2, keepcell hb4 q3, keepcell hb4 q4, keepcell hb4 cV5, keepcell hb4 y0, keepcell hb4 y1, keepcell hb4 o0, keepcell hb4 o1⟩) (fun hHeld => ?_)
                clear hK K hm6 hb6 hrw
                try dsimp only
                have z0 := OX4.out.b5.c0
                have z1 := OX4.out.b5.c1
                have z2 := OX4.out.b5.c2
                have z3 := OX4.out.b5.c3
                have z4 := OX4.out.b5.c4
                have g0 := OX4.out.f0
                have g1 := OX4.out.f1
                have g2 := OX4.out.f2
                have g3 := OX4.out.f3
                have g4 := OX4.out.f4
                refine wpAnyH_ready (rs := [10]) (by kernel_rfl) (by simp) ?_
                refine AllReadyH.cons rfl (fun K hK => ?_) AllReadyH.nil
                go_simp
                have hne : ∀ {bb : Nat} {i : Nat} {v : Value}, wr.cell? ⟨bb, i, none⟩ = some v → bb ≠ O2 := fun h e => by have := World.block_lt_of_cell? _ _ h; simp only at this; omega
                refine hK.out _ _ (by exact ⟨far5 (hne q0) (keepcell hb4 q0), far5 (hne q1) (keepcell hb4 q1), far5 (hne q2) (keepcell hb4 q2), far5 (hne q3) (keepcell hb4 q3), far5 (hne q4) (keepcell hb4 q4), far5 (hne cV5) (keepcell hb4 cV5), far5 (hne y0) (keepcell hb4 y0), far5 (hne y1) (keepcell hb4 y1), far5 (hne o0) (keepcell hb4 o0), far5 (hne o1) (keepcell hb4 o1)⟩) (fun hHeld => ?_)
                clear hK K z0 z1 z2 z3 z4 g0 g1 g2 g3 g4
                try dsimp only
                refine wpAnyH_done (by kernel_rfl) ?_ _
                have OC := Lib.hid (OX4.out.put (.slice T2 nt2 ct2) (.int .i64 r.size) (.slice R2 nr2 cr2) (.slice S2 ns2 cs2) (.int .u64 (r.on : Nat))).b5
                have OM := Lib.hid ((MB4.out.put (X := O2) (fun h => h.2 rfl) (.slice T2 nt2 ct2) (.int .i64 r.size) (.slice R2 nr2 cr2) (.slice S2 ns2 cs2) (.int .u64 (r.on : Nat))).mono (fun b h => h.1))
                rw [HRB.out, HRA.out] at OM
                have BY := Lib.hid (below_put hb4 hO2g (.slice T2 nt2 ct2) (.int .i64 r.size) (.slice R2 nr2 cr2) (.slice S2 ns2 cs2) (.int .u64 (r.on : Nat)))
                have HO2 := Lib.hid hO2g
                obtain ⟨W4, hW4⟩ : ∃ W4, W4 = put5 x4 O2 (.slice T2 nt2 ct2) (.int .i64 r.size) (.slice R2 nr2 cr2) (.slice S2 ns2 cs2) (.int .u64 (r.on : Nat)) := ⟨_, rfl⟩
                rw [← hW4] at OC OM BY
                unfold put5 at hW4
                rw [← hW4]
                clear hW4
                go_wp2_with fail
                go_meet
                exact ⟨O2, T2, nt2, ct2, R2, nr2, cr2, S2, ns2, cs2, rfl, OC, OM, HO2, BY⟩
            · go_simp
              have hbl := below_new x1 (.cells #[.slice none 0 0, .int .i64 0, .slice none 0 0, .slice none 0 0, .int .u64 0] 27)
              have hOn := C5.new x1 (.slice none 0 0) (.int .i64 0) (.slice none 0 0) (.slice none 0 0) (.int .u64 0) 27
              have hmg := GO.new MR1.out
              obtain ⟨x2, hx⟩ : ∃ x2, x2 = x1.alloc (.cells #[.slice none 0 0, .int .i64 0, .slice none 0 0, .slice none 0 0, .int .u64 0] 27) := ⟨_, rfl⟩
              rw [← hx] at hbl hOn ⊢
              have hb2 := hb1.trans (hbl.mono hb1.size)
              have hmg2 := hmg.below hbl
              have hO2g := hb1.size
              obtain ⟨O2, hO2⟩ : ∃ O2, O2 = x1.heap.size := ⟨_, rfl⟩
              rw [← hO2] at hOn hmg2 hO2g ⊢
              clear hO2 hx hbl hmg
              have OX2 := Lib.hid hOn
              have hO2l : O2 < x2.heap.size := OX2.out.lt
              have MR2 := Lib.hid hmg2
              refine hK.out _ _ (by exact ⟨keepcell hb2 q0, keepcell hb2 q1, keepcell hb2 q2, keepcell hb2 q3, keepcell hb2 q4, keepcell hb2 cV5, keepcell hb2 y0, keepcell hb2 y1, keepcell hb2 o0, keepcell hb2 o1⟩) (fun hHeld => ?_)
              clear hK K hOn hmg2
              try dsimp only
              refine wpAnyH_ready (rs := [5]) (by kernel_rfl) (by simp) ?_
              refine AllReadyH.cons rfl (fun K hK => ?_) AllReadyH.nil
              go_simp
              go_at_call 34
              have hrw := jringed_any (F := GO F w O2) ⟨A0, nt, ct, some ⟨bR, oR, none⟩, nr, cr, S, ns, cs⟩ r j hf.1.1 hf.1.2 A1 n1 c1 x2 MR2.out (by simp only; omega) (by simp only; omega) (HR1.out.below hb2) (fun hne ad hA => ⟨(HG1.out hne ad hA).1, by have := (HG1.out hne ad hA).2; have := hO2g; omega⟩)
              obtain ⟨ra, hra⟩ : ∃ ra, ra = Jp.ringed r j hf.1 := ⟨_, rfl⟩
              rw [show Jp.ringed r j (hf.1.1, hf.1.2) = Jp.ringed r j hf.1 from rfl, ← hra] at hrw
              have HRA := Lib.hid hra
              clear hra
              refine hrw.mono ?_
              rintro e x3 ⟨⟨T6, nt6, ct6, R6, nr6, cr6, S6, ns6, cs6⟩, rfl, hm6, hb6⟩
              have hb3 := hb2.trans (hb6.mono hb2.size)
              have MA3 := Lib.hid (GO.of hm6 (Nat.lt_of_lt_of_le SZ1.out hb2.size) (by have := hO2l; omega))
              have RO3 := Lib.hid (RO.out.below hb3)
              have OX3 := Lib.hid (OX2.out.step hb6)
              have hO2l : O2 < x3.heap.size := OX3.out.lt
              have hs6 : ra.size = r.size := by rw [HRA.out]; rfl
              have ho6 : ra.on = r.on := by rw [HRA.out]; rfl
              have HN6 := Lib.hid (show nr6 = nr by have h1 : ra.rings.length = nr6 := hm6.nr.1; rw [← h1, HRA.out]; simpa [Jp.ringed] using hr1)
              unfold jv
              simp only
              rw [hs6, ho6]
              refine hK.out _ _ (by exact ⟨keepcell hb3 q0, keepcell hb3 q1, keepcell hb3 q2, keepcell hb3 q3, keepcell hb3 q4, keepcell hb3 cV5, keepcell hb3 y0, keepcell hb3 y1, keepcell hb3 o0, keepcell hb3 o1⟩) (fun hHeld => ?_)
              clear hK K hm6 hb6 hrw
              try dsimp only
              refine wpAnyH_ready (rs := [8]) (by kernel_rfl) (by simp) ?_
              refine AllReadyH.cons rfl (fun K hK => ?_) AllReadyH.nil
              go_simp
              go_at_call 34
              have hrw := jringed_any (F := GO F w O2) ⟨T6, nt6, ct6, R6, nr6, cr6, S6, ns6, cs6⟩ ra k 0 t A n c x3 MA3.out (by have := HN6.out; simp only; omega) (by have := HN6.out; simp only; omega) (RO.out.below hb3) (fun hne ad hA => ⟨(HG2.out hne ad hA).1, by have := (HG2.out hne ad hA).2; have := hO2g; omega⟩)
              obtain ⟨rb, hrb⟩ : ∃ rb, rb = Jp.ringed ra k (0, t) := ⟨_, rfl⟩
              rw [← hrb] at hrw
              have HRB := Lib.hid hrb
              clear hrb
              unfold jv at hrw
              simp only at hrw
              rw [hs6, ho6] at hrw
              refine hrw.mono ?_
              rintro e x4 ⟨⟨T2, nt2, ct2, R2, nr2, cr2, S2, ns2, cs2⟩, rfl, hm6, hb6⟩
              have hb4 := hb3.trans (hb6.mono hb3.size)
              have MB4 := Lib.hid (GO.of hm6 (Nat.lt_of_lt_of_le SZ1.out hb3.size) (by have := hO2l; omega))
              have OX4 := Lib.hid (OX3.out.step hb6)
              have hO2l : O2 < x4.heap.size := OX4.out.lt
              have hs7 : rb.size = r.size := by rw [HRB.out]; exact hs6
              have ho7 : rb.on = r.on := by rw [HRB.out]; exact ho6
              unfold jv
              simp only
              rw [hs7, ho7]
              refine hK.out _ _ (by exact ⟨keepcell hb4 q0, keepcell hb4 q1, keepcell hb4 q2, keepcell hb4 q3, keepcell hb4 q4, keepcell hb4 cV5, keepcell hb4 y0, keepcell hb4 y1, keepcell hb4 o0, keepcell hb4 o1⟩) (fun hHeld => ?_)
              clear hK K hm6 hb6 hrw
              try dsimp only
              have z0 := OX4.out.b5.c0
              have z1 := OX4.out.b5.c1
              have z2 := OX4.out.b5.c2
              have z3 := OX4.out.b5.c3
              have z4 := OX4.out.b5.c4
              have g0 := OX4.out.f0
              have g1 := OX4.out.f1
              have g2 := OX4.out.f2
              have g3 := OX4.out.f3
              have g4 := OX4.out.f4
              refine wpAnyH_ready (rs := [10]) (by kernel_rfl) (by simp) ?_
              refine AllReadyH.cons rfl (fun K hK => ?_) AllReadyH.nil
              go_simp
              have hne : ∀ {bb : Nat} {i : Nat} {v : Value}, wr.cell? ⟨bb, i, none⟩ = some v → bb ≠ O2 := fun h e => by have := World.block_lt_of_cell? _ _ h; simp only at this; omega
              refine hK.out _ _ (by exact ⟨far5 (hne q0) (keepcell hb4 q0), far5 (hne q1) (keepcell hb4 q1), far5 (hne q2) (keepcell hb4 q2), far5 (hne q3) (keepcell hb4 q3), far5 (hne q4) (keepcell hb4 q4), far5 (hne cV5) (keepcell hb4 cV5), far5 (hne y0) (keepcell hb4 y0), far5 (hne y1) (keepcell hb4 y1), far5 (hne o0) (keepcell hb4 o0), far5 (hne o1) (keepcell hb4 o1)⟩) (fun hHeld => ?_)
              clear hK K z0 z1 z2 z3 z4 g0 g1 g2 g3 g4
              try dsimp only
              refine wpAnyH_done (by kernel_rfl) ?_ _
              have OC := Lib.hid (OX4.out.put (.slice T2 nt2 ct2) (.int .i64 r.size) (.slice R2 nr2 cr2) (.slice S2 ns2 cs2) (.int .u64 (r.on : Nat))).b5
              have OM := Lib.hid ((MB4.out.put (X := O2) (fun h => h.2 rfl) (.slice T2 nt2 ct2) (.int .i64 r.size) (.slice R2 nr2 cr2) (.slice S2 ns2 cs2) (.int .u64 (r.on : Nat))).mono (fun b h => h.1))
              rw [HRB.out, HRA.out] at OM
              have BY := Lib.hid (below_put hb4 hO2g (.slice T2 nt2 ct2) (.int .i64 r.size) (.slice R2 nr2 cr2) (.slice S2 ns2 cs2) (.int .u64 (r.on : Nat)))
              have HO2 := Lib.hid hO2g
              obtain ⟨W4, hW4⟩ : ∃ W4, W4 = put5 x4 O2 (.slice T2 nt2 ct2) (.int .i64 r.size) (.slice R2 nr2 cr2) (.slice S2 ns2 cs2) (.int .u64 (r.on : Nat)) := ⟨_, rfl⟩
              rw [← hW4] at OC OM BY
              unfold put5 at hW4
              rw [← hW4]
              clear hW4
              go_wp2_with fail
              go_meet
              exact ⟨O2, T2, nt2, ct2, R2, nr2, cr2, S2, ns2, cs2, rfl, OC, OM, HO2, BY⟩
          case rest =>
            obtain ⟨O2, T2, nt2, ct2, R2, nr2, cr2, S2, ns2, cs2, rfl, OC, OM, HO2, BY⟩ := hcut
            have S6 := Lib.hid (S5.out.step BY.out)
            have q0 := S6.out.box.c0
            have cV6 := keepcell BY.out cV5
            have cB2 := keepcell BY.out cB1
            have u0 := OC.out.c0
            have u1 := OC.out.c1
            have u2 := OC.out.c2
            have u3 := OC.out.c3
            have u4 := OC.out.c4
            have hO9 : O2 ≠ w.heap.size + 1 := by have := HO2.out; have := SZ1.out; omega
            have hX9 : w.heap.size ≠ w.heap.size + 1 := by omega
            have hB9 : bB ≠ w.heap.size + 1 := HBB1.out
            have hV9 : bV ≠ w.heap.size + 1 := HBV.out
            have hns := OM.out.ns
            simp only at hns
            have hm9 : m0 < ns2 := by rw [← hns.1]; simpa [Jp.ringed] using (by omega : m0 < r.rows.length)
            have hrow0 : (Jp.ringed (Jp.ringed r j hf.1) k (0, t)).rows[m0]? = some [] := by
              have h1 := HTF.out.row
              rw [show ((k : Int).toNat) = k from rfl, HNO.out] at h1
              show r.rows[m0]? = some []
              obtain ⟨l, hl⟩ : ∃ l, r.rows[m0]? = some l := ⟨_, List.getElem?_eq_getElem (by omega)⟩
              rw [Jp.rowAt_some hl] at h1
              rw [hl, h1]
            have HSame := Lib.hid (rowed_same hrow0)
            have hm1p : (0 : Int) < (m1 : Int) := by omega
            have hm1q : 0 < m1 := by omega
            have hn1000 : ns2 ≤ 1000 := by rw [← hns.1]; simpa [Jp.ringed] using (by omega : r.rows.length ≤ 1000)
            clear q1 q2 q3 q4 y0 y1 o0 o1 cV5 cB1 S5 hrow0 hns
            go_wp2_with fail
            refine wp_region_held_drew (S := fun w' => w'.cell? ⟨O2, 0, none⟩ = some (.slice T2 nt2 ct2) ∧ w'.cell? ⟨O2, 1, none⟩ = some (.int .i64 r.size) ∧ w'.cell? ⟨O2, 2, none⟩ = some (.slice R2 nr2 cr2) ∧ w'.cell? ⟨O2, 3, none⟩ = some (.slice S2 ns2 cs2) ∧ w'.cell? ⟨O2, 4, none⟩ = some (.int .u64 (r.on : Nat)) ∧ w'.cell? ⟨bB, oB, none⟩ = some (.int .i64 g) ∧ w'.cell? ⟨w.heap.size, 0, none⟩ = some (.slice A0 nt ct) ∧ w'.cell? ⟨bV, oV, none⟩ = some (.int .i64 (j : Nat))) (by kernel_rfl) ⟨u0, u1, u2, u3, u4, cB2, q0, cV6⟩ (fun hHeld => ?_)
            have hb1 := (Below.refl wc.heap.size wc).drew
            obtain ⟨x1, hx1⟩ : ∃ x1, x1 = wc.drew := ⟨_, rfl⟩
            rw [← hx1] at hb1 hHeld ⊢
            clear hx1
            refine wpAnyH_takesJ (i := 0) (v := (.agg #[.slice T2 nt2 ct2, .int .i64 r.size, .slice R2 nr2 cr2, .slice S2 ns2 cs2, .int .u64 (r.on : Nat)])) (some 84) rfl rfl (by kernel_rfl) (by kernel_rfl) (by kernel_rfl) (fun _ _ _ h => h) (Or.inl ⟨by rfl, (by intro W9 hSw; (try dsimp only at hSw); go_simp; first | done | with_reducible rfl)⟩) (by assumption) ?_
            simp only [Act.put, List.setIfInBounds_toArray]; try simp only [List.set_cons_zero, List.set_cons_succ]
            refine wpAnyH_takesJ (i := 1) (v := (.int .i64 (m0 : Nat))) (some 85) rfl rfl (by kernel_rfl) (by kernel_rfl) (by kernel_rfl) (fun _ _ _ h => h) (Or.inl ⟨by rfl, (by intro W9 hSw; (try dsimp only at hSw); go_simp; first | done | with_reducible rfl)⟩) (by assumption) ?_
            simp only [Act.put, List.setIfInBounds_toArray]; try simp only [List.set_cons_zero, List.set_cons_succ]
            refine wpAnyH_takesJ (i := 2) (v := (.slice none 0 0)) (some 86) rfl rfl (by kernel_rfl) (by kernel_rfl) (by kernel_rfl) (fun _ _ _ h => h) (Or.inl ⟨by rfl, (by intro W9 hSw; (try dsimp only at hSw); go_simp; first | done | with_reducible rfl)⟩) (by assumption) ?_
            simp only [Act.put, List.setIfInBounds_toArray]; try simp only [List.set_cons_zero, List.set_cons_succ]
            refine wpAnyH_takesJ (i := 4) (v := (.slice (some ⟨bB, oB, none⟩) m1 d1)) (some 88) rfl rfl (by kernel_rfl) (by kernel_rfl) (by kernel_rfl) (fun _ _ _ h => h) (Or.inl ⟨by rfl, (by intro W9 hSw; (try dsimp only at hSw); go_simp; first | done | with_reducible rfl)⟩) (by assumption) ?_
            simp only [Act.put, List.setIfInBounds_toArray]; try simp only [List.set_cons_zero, List.set_cons_succ]
            refine wpAnyH_takesJ (i := 5) (v := (.pointer (some ⟨bB, oB, none⟩))) (some 89) rfl rfl (by kernel_rfl) (by kernel_rfl) (by kernel_rfl) (fun _ _ _ h => h) (Or.inl ⟨by rfl, (by intro W9 hSw; (try dsimp only at hSw); go_simp; first | done | with_reducible rfl)⟩) (by assumption) ?_
            simp only [Act.put, List.setIfInBounds_toArray]; try simp only [List.set_cons_zero, List.set_cons_succ]
            refine wpAnyH_takesJ (i := 6) (v := (.int .i64 g)) (some 90) rfl rfl (by kernel_rfl) (by kernel_rfl) (by kernel_rfl) (fun _ _ _ h => h) (Or.inl ⟨by rfl, (by intro W9 hSw; (try dsimp only at hSw); go_simp; first | done | with_reducible rfl)⟩) (by assumption) ?_
            simp only [Act.put, List.setIfInBounds_toArray]; try simp only [List.set_cons_zero, List.set_cons_succ]
            refine wpAnyH_takesJ (i := 7) (v := (.pointer (some ⟨w.heap.size, 0, none⟩))) (some 91) rfl rfl (by kernel_rfl) (by kernel_rfl) (by kernel_rfl) (fun _ _ _ h => h) (Or.inl ⟨by rfl, (by intro W9 hSw; (try dsimp only at hSw); go_simp; first | done | with_reducible rfl)⟩) (by assumption) ?_
            simp only [Act.put, List.setIfInBounds_toArray]; try simp only [List.set_cons_zero, List.set_cons_succ]
            refine wpAnyH_takesJ (i := 8) (v := (.slice A0 nt ct)) (some 92) rfl rfl (by kernel_rfl) (by kernel_rfl) (by kernel_rfl) (fun _ _ _ h => h) (Or.inl ⟨by rfl, (by intro W9 hSw; (try dsimp only at hSw); go_simp; first | done | with_reducible rfl)⟩) (by assumption) ?_
            simp only [Act.put, List.setIfInBounds_toArray]; try simp only [List.set_cons_zero, List.set_cons_succ]
            refine wpAnyH_takesJ (i := 9) (v := (.int .i64 (k : Nat))) (some 93) rfl rfl (by kernel_rfl) (by kernel_rfl) (by kernel_rfl) (fun _ _ _ h => h) (Or.inl ⟨by rfl, (by intro W9 hSw; (try dsimp only at hSw); go_simp; first | done | with_reducible rfl)⟩) (by assumption) ?_
            simp only [Act.put, List.setIfInBounds_toArray]; try simp only [List.set_cons_zero, List.set_cons_succ]
            refine wpAnyH_takesJ (i := 10) (v := (.slice (some ⟨bV, oV, none⟩) L cv)) (some 94) rfl rfl (by kernel_rfl) (by kernel_rfl) (by kernel_rfl) (fun _ _ _ h => h) (Or.inl ⟨by rfl, (by intro W9 hSw; (try dsimp only at hSw); go_simp; first | done | with_reducible rfl)⟩) (by assumption) ?_
            simp only [Act.put, List.setIfInBounds_toArray]; try simp only [List.set_cons_zero, List.set_cons_succ]
            refine wpAnyH_takesJ (i := 11) (v := (.pointer (some ⟨bV, oV, none⟩))) (some 95) rfl rfl (by kernel_rfl) (by kernel_rfl) (by kernel_rfl) (fun _ _ _ h => h) (Or.inl ⟨by rfl, (by intro W9 hSw; (try dsimp only at hSw); go_simp; first | done | with_reducible rfl)⟩) (by assumption) ?_
            simp only [Act.put, List.setIfInBounds_toArray]; try simp only [List.set_cons_zero, List.set_cons_succ]
            refine wpAnyH_takesJ (i := 12) (v := (.int .i64 (j : Nat))) (some 96) rfl rfl (by kernel_rfl) (by kernel_rfl) (by kernel_rfl) (fun _ _ _ h => h) (Or.inl ⟨by rfl, (by intro W9 hSw; (try dsimp only at hSw); go_simp; first | done | with_reducible rfl)⟩) (by assumption) ?_
            simp only [Act.put, List.setIfInBounds_toArray]; try simp only [List.set_cons_zero, List.set_cons_succ]
            refine wpAnyH_ready (rs := [3]) (by kernel_rfl) (by simp) ?_
            refine AllReadyH.cons rfl (fun K hK => ?_) AllReadyH.nil
            go_simp
            go_at_call 35
            have hrw := jrowed_any ⟨T2, nt2, ct2, R2, nr2, cr2, S2, ns2, cs2⟩ (Jp.ringed (Jp.ringed r j hf.1) k (0, t)) m0 [] none 0 0 x1 (OM.out.below hb1) hm9 hn1000 (Row.nothing _) (fun h => absurd rfl h)
            rw [HSame.out] at hrw
            obtain ⟨rb, hrb⟩ : ∃ rb, rb = Jp.ringed (Jp.ringed r j hf.1) k (0, t) := ⟨_, rfl⟩
            rw [← hrb] at hrw
            have HP := Lib.hid (show Jp.steal r k far = (rb, g, Dp.far r.tree k j) by rw [HP0.out, hrb])
            have hs7 : rb.size = r.size := by rw [hrb]; rfl
            have ho7 : rb.on = r.on := by rw [hrb]; rfl
            have HS7 := Lib.hid hs7
            have HO7 := Lib.hid ho7
            unfold jv at hrw
            simp only at hrw
            rw [hs7, ho7] at hrw
            clear hrb
            refine hrw.mono ?_
            rintro e x2 ⟨⟨T7, nt7, ct7, R7, nr7, cr7, S7, ns7, cs7⟩, rfl, hm6, hb6⟩
            have hb2 := hb1.trans (hb6.mono hb1.size)
            have M7 := Lib.hid (GZ.of hm6 (Nat.lt_of_lt_of_le S6.out.lt hb1.size))
            unfold jv
            simp only
            rw [hs7, ho7]
            refine hK.out _ _ (by exact ⟨keepcell hb2 u0, keepcell hb2 u1, keepcell hb2 u2, keepcell hb2 u3, keepcell hb2 u4, keepcell hb2 cB2, keepcell hb2 q0, keepcell hb2 cV6⟩) (fun hHeld => ?_)
            clear hK K hm6 hb6 hrw hs7 ho7
            try dsimp only
            refine wpAnyH_ready (rs := [13]) (by kernel_rfl) (by simp) ?_
            refine AllReadyH.cons rfl (fun K hK => ?_) AllReadyH.nil
            go_simp
            go_at_call 36
            refine (refFar_any A0 nt ct r.tree k j x2 (Lib.hid S6.out.mem.tlen) S6.out.mem.tmax (Lib.hid S6.out.mem.fit) (S6.out.mem.below hb2).tree).mono ?_
            rintro e x3 ⟨rfl, hb6⟩
            have hb3 := hb2.trans (hb6.mono hb2.size)
            have M8 := Lib.hid (M7.out.below hb6)
            have S8 := Lib.hid (S6.out.step hb3)
            refine hK.out _ _ (by exact ⟨keepcell hb3 u0, keepcell hb3 u1, keepcell hb3 u2, keepcell hb3 u3, keepcell hb3 u4, keepcell hb3 cB2, keepcell hb3 q0, keepcell hb3 cV6⟩) (fun hHeld => ?_)
            clear hK K hb6 M7
            try dsimp only
            have y0 := ((S8.out)).put.b5.c0
            have y1 := ((S8.out)).put.b5.c1
            have y2 := ((S8.out)).put.b5.c2
            have y3 := ((S8.out)).put.b5.c3
            have y4 := ((S8.out)).put.b5.c4
            have g0 := ((S8.out)).put.f0
            have g1 := ((S8.out)).put.f1
            have g2 := ((S8.out)).put.f2
            have g3 := ((S8.out)).put.f3
            have g4 := ((S8.out)).put.f4
            refine wpAnyH_ready (rs := [14]) (by kernel_rfl) (by simp) ?_
            refine AllReadyH.cons rfl (fun K hK => ?_) AllReadyH.nil
            go_simp
            refine hK.out _ _ (by exact ⟨far5 hO9 (keepcell hb3 u0), far5 hO9 (keepcell hb3 u1), far5 hO9 (keepcell hb3 u2), far5 hO9 (keepcell hb3 u3), far5 hO9 (keepcell hb3 u4), far5 hB9 (keepcell hb3 cB2), far5 hX9 (keepcell hb3 q0), far5 hV9 (keepcell hb3 cV6)⟩) (fun hHeld => ?_)
            clear hK K y0 y1 y2 y3 y4 g0 g1 g2 g3 g4
            try dsimp only
            refine wpAnyH_takesJ (i := 15) (v := (.int .i64 g)) (some 7) rfl rfl (by kernel_rfl) (by kernel_rfl) (by kernel_rfl) (fun _ _ _ h => h) (Or.inl ⟨by rfl, (by intro W9 hSw; (try dsimp only at hSw); go_simp; first | done | with_reducible rfl)⟩) (by assumption) ?_
            simp only [Act.put, List.setIfInBounds_toArray]; try simp only [List.set_cons_zero, List.set_cons_succ]
            refine wpAnyH_takesJ (i := 16) (v := (.int .i64 (Dp.far r.tree k j))) (some 8) rfl rfl (by kernel_rfl) (by kernel_rfl) (by kernel_rfl) (fun _ _ _ h => h) (Or.inl ⟨by rfl, (by intro W9 hSw; (try dsimp only at hSw); go_simp; first | done | with_reducible rfl)⟩) (by assumption) ?_
            simp only [Act.put, List.setIfInBounds_toArray]; try simp only [List.set_cons_zero, List.set_cons_succ]
            refine wpAnyH_done (by kernel_rfl) ?_ _
            obtain ⟨k0, k1, k2, k3, k4⟩ := put5_told S8.out.put (.slice T7 nt7 ct7) (.int .i64 r.size) (.slice R7 nr7 cr7) (.slice S7 ns7 cs7) (.int .u64 (r.on : Nat))
            have HF := Lib.hid (WS.give (F := F) (d := ⟨A0, nt, ct, some ⟨bR, oR, none⟩, nr, cr, S, ns, cs⟩) (r := r) S8.out.below HP.out M8.out HS7.out HO7.out)
            unfold put5 at k0 k1 k2 k3 k4
            clear q0 u0 u1 u2 u3 u4 cB2 cV6 hb1 hb2 hb3
            go_wp2_with fail
            refine bodyPost_ret ?_ rfl HF.out
            simp [results, Tryz.results13, go_sem, k0, k1, k2, k3, k4]
end Go.Proofs.YtdohnhdjlhaaaaaGreatDoor

