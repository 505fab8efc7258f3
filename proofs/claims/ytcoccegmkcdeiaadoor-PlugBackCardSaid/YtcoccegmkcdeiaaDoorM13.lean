/- Contracts and plain mathematics, put together by program (wip/merge.py) out of: JComes JPush NProc. -/
import Derived.Test.YtcoccegmkcdeiaaDoorJMayL
import Derived.Test.YtcoccegmkcdeiaaDoorM12
import Derived.Test.YtcoccegmkcdeiaaDoorM5
/- runs.comes, by its contract: what is wrong with one that comes. -/
namespace Go.Proofs.YtcoccegmkcdeiaaDoor
open Go.RowKit
set_option linter.unusedVariables false

open Classical in
noncomputable def cmV (r : Jp.Rn) (p n g : Int) : Int := if ¬ Jp.May r ∨ p < 0 ∨ n ≤ p ∨ g < 1 then 1 else if Tp.has (Jp.all r) g = true then 5 else 0
theorem cmV_arg {r : Jp.Rn} {p n g : Int} (h : ¬ Jp.May r ∨ p < 0 ∨ n ≤ p ∨ g < 1) : cmV r p n g = 1 := by unfold cmV; rw [if_pos h]
theorem cmV_there {r : Jp.Rn} {p n g : Int} (h : ¬ (¬ Jp.May r ∨ p < 0 ∨ n ≤ p ∨ g < 1)) (h1 : Tp.has (Jp.all r) g = true) : cmV r p n g = 5 := by unfold cmV; rw [if_neg h, if_pos h1]
theorem cmV_ok {r : Jp.Rn} {p n g : Int} (h : ¬ (¬ Jp.May r ∨ p < 0 ∨ n ≤ p ∨ g < 1)) (h1 : Tp.has (Jp.all r) g = false) : cmV r p n g = 0 := by unfold cmV; rw [if_neg h, if_neg (by rw [h1]; decide)]
end Go.Proofs.YtcoccegmkcdeiaaDoor


/- runs.Push, by its contract. -/
namespace Go.Proofs.YtcoccegmkcdeiaaDoor
open Go.RowKit
set_option linter.unusedVariables false

/-- What is told where it fails: the same Runs, apart. -/
theorem tell_no {F : Nat → Prop} {w V W : World} {B1 B2 B3 Z : Nat} {d : Ad} {r : Jp.Rn} {es ls : List El} {e : Int} {p : Jp.Rn × Int} (hp : p = (r, e)) (h : Told (V.heap.size + 2) B1 B2 B3 d r es ls W) (hV : w.heap.size ≤ V.heap.size) (hZ : Z < V.heap.size) (hZw : w.heap.size ≤ Z) (hb : Below w.heap.size w W) (u0 u1 u2 u3 u4 : Value) :
    TellJE F w p (.returned (.tuple #[jv d r, .int .i64 e])) (put5 W Z u0 u1 u2 u3 u4) := by
  have h1 := (h.rm (F := fun _ => False) (w0 := V) (by omega)).put (X := Z) (fun h => by have := nobody h; omega) u0 u1 u2 u3 u4
  exact TellJE.is hp (h1.mono (fun b hb => .inr (by have := nobody hb; omega))) (below_put hb hZw u0 u1 u2 u3 u4)
theorem tell_yes {F : Nat → Prop} {w V W : World} {Z : Nat} {d : Ad} {r : Jp.Rn} {e : Int} {p : Jp.Rn × Int} (hp : p = (r, e)) (h : RM (More (fun _ => False) V) W d r) (hV : w.heap.size ≤ V.heap.size) (hZ : Z < V.heap.size) (hZw : w.heap.size ≤ Z) (hb : Below w.heap.size w W) (u0 u1 u2 u3 u4 : Value) :
    TellJE F w p (.returned (.tuple #[jv d r, .int .i64 e])) (put5 W Z u0 u1 u2 u3 u4) := by
  have h1 := h.put (X := Z) (fun h => by have := nobody h; omega) u0 u1 u2 u3 u4
  exact TellJE.is hp (h1.mono (fun b hb => .inr (by have := nobody hb; omega))) (below_put hb hZw u0 u1 u2 u3 u4)
end Go.Proofs.YtcoccegmkcdeiaaDoor


/- plug.isProc: Runs may be, and have a processor. -/
namespace Go.Proofs.YtcoccegmkcdeiaaDoor
open Go.RowKit
set_option linter.unusedVariables false

/-- A processor is one of those of the tree. -/
theorem node_is {r : Jp.Rn} (h : Jp.May r) (p : Int) : decide (0 ≤ Dp.node r.tree p) = decide (0 ≤ p ∧ p < r.rings.length) := by
  by_cases e : 0 ≤ p ∧ p < r.rings.length
  · obtain ⟨k, rfl⟩ : ∃ k : Nat, p = k := ⟨p.toNat, by omega⟩
    obtain ⟨m, hm, _⟩ := Jp.node_at h.tree (k := k) (by rw [← h.rings]; omega)
    rw [hm, decide_eq_true e]
    simp
  · rw [decide_eq_false e, decide_eq_false]
    have hl : (r.rings.length : Int) = (Dp.procsN r.tree : Int) := by rw [h.rings, Dp.procsN_tree ((Tp.tree_iff _).1 h.tree)]
    rw [Dp.node_out (by rw [← hl]; omega)]
    decide
set_option maxRecDepth 100000 in
set_option maxHeartbeats 1000000 in
theorem isProc_any {F : Nat → Prop} (d : Ad) (r : Jp.Rn) (p : Int) (Tb : Bool) (w : World) (hTB : Hid (Tb = true ↔ Jp.May r)) (h : RM F w d r) (hlow : Low r) (hT : Tab w) :
    Calls Tryd.prog 31 #[jv d r, .int .i64 p] w fun e w' => e = .returned (.bool (Tb && decide (0 ≤ p ∧ p < r.rings.length))) ∧ Below w.heap.size w w' := by
  obtain ⟨A0, nt, ct, R, nr, cr, S, ns, cs⟩ := d
  have H := Lib.hid h
  have HTL := Lib.hid h.tlen
  have HTM := Lib.hid h.tmax
  simp only at HTL HTM
  obtain ⟨V, hV, hX, hB⟩ := B5.start w (.slice A0 nt ct) (.int .i64 r.size) (.slice R nr cr) (.slice S ns cs) (.int .u64 (r.on : Nat)) 33
  have E := Lib.hid hV
  have X0 := Lib.hid hX
  have B0 := Lib.hid hB
  have hMY := runsMay_any ⟨A0, nt, ct, R, nr, cr, S, ns, cs⟩ r Tb V hTB (H.out.below B0.out) hlow (hT.step B0.out)
  unfold jv at hMY
  simp only at hMY
  have MY := Lib.hid hMY
  have q0 := hX.c0
  have q1 := hX.c1
  have q2 := hX.c2
  have q3 := hX.c3
  have q4 := hX.c4
  obtain ⟨ob, hob⟩ : ∃ ob, ob = decide (0 ≤ p ∧ p < r.rings.length) := ⟨_, rfl⟩
  rw [← hob]
  obtain ⟨nd, hnd⟩ : ∃ nd, nd = Dp.node r.tree p := ⟨_, rfl⟩
  have HND := Lib.hid hnd
  have HOB := Lib.hid (show Tb = true → decide (0 ≤ nd) = ob from fun e => by rw [hnd, hob]; exact node_is (hTB.out.1 e) p)
  clear hV hX hB hMY h hlow hT hob hnd hTB
  unfold jv
  go_enter Tryd.func31, Tryd.ntmps31
  go_wp2_with (rw [← E.out])
  clear E
  refine MY.out.mono ?_
  rintro e w1 ⟨rfl, hb1⟩
  have X1 := Lib.hid (X0.out.step hb1)
  have B1 := Lib.hid (held_trans B0.out hb1)
  clear q0 q1 q2 q3 q4 MY X0 B0 hb1
  cases Tb
  · go_wp2_with fail
    go_ret
    exact ⟨rfl, B1.out⟩
  have q0 := X1.out.c0
  have HNO := node_any A0 nt ct r.tree p w1 HTL HTM.out (Lib.hid H.out.fit) (H.out.below B1.out).tree
  rw [← HND.out] at HNO
  have NO := Lib.hid HNO
  have hob := Lib.hid (HOB.out rfl)
  clear HNO HND HOB
  go_wp2_with fail
  refine NO.out.mono ?_
  rintro e w2 ⟨rfl, hb2⟩
  have B2 := Lib.hid (held_trans B1.out hb2)
  clear NO hb2 q0 B1 X1
  go_wp2_with fail
  go_ret
  exact ⟨by show Ending.returned (.bool (decide (0 ≤ nd))) = _; rw [hob.out]; rfl, B2.out⟩
end Go.Proofs.YtcoccegmkcdeiaaDoor

