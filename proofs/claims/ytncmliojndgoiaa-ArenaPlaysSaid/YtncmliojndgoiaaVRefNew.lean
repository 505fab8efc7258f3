/- The document's New, by its contract. -/
import Derived.Test.YtncmliojndgoiaaVRef
namespace Go.Proofs.Ytncmliojndgoiaa
open Go.RowKit
set_option linter.unusedVariables false

theorem refNew_no (r : Int) (w : World) (h : ¬ (1 ≤ r ∧ r ≤ 64)) :
    Calls Try.prog 11 #[.int .i64 r] w fun e w' => e = .returned (.tuple #[.agg #[.int .i64 0, .slice none 0 0, .slice none 0 0, .slice none 0 0], .int .i64 1]) ∧ Below w.heap.size w w' := by
  by_cases h1 : r < 1
  · clear h
    go_enter Try.func11, Try.ntmps11
    go_wp2_with fail
    have C := Cel8.put (Cel8.new w (.int .i64 0) (.slice none 0 0) (.slice none 0 0) (.slice none 0 0) 29) (.int .i64 0) (.slice none 0 0) (.slice none 0 0) (.slice none 0 0)
    unfold put4 at C
    have k0 := (Cel8.new w (.int .i64 0) (.slice none 0 0) (.slice none 0 0) (.slice none 0 0) 29).c0
    have k1 := (Cel8.new w (.int .i64 0) (.slice none 0 0) (.slice none 0 0) (.slice none 0 0) 29).c1
    have k2 := (Cel8.new w (.int .i64 0) (.slice none 0 0) (.slice none 0 0) (.slice none 0 0) 29).c2
    have k3 := (Cel8.new w (.int .i64 0) (.slice none 0 0) (.slice none 0 0) (.slice none 0 0) 29).c3
    refine bodyPost_ret (v := .tuple #[.agg #[.int .i64 0, .slice none 0 0, .slice none 0 0, .slice none 0 0], .int .i64 1]) ?_ rfl ?_
    · simp [results, Try.results11, go_sem, k0, k1, k2, k3]
    exact ⟨rfl, below_new _ _⟩
  · have h2 : 64 < r := by omega
    clear h
    go_enter Try.func11, Try.ntmps11
    go_wp2_with fail
    have C := Cel8.put (Cel8.new w (.int .i64 0) (.slice none 0 0) (.slice none 0 0) (.slice none 0 0) 29) (.int .i64 0) (.slice none 0 0) (.slice none 0 0) (.slice none 0 0)
    unfold put4 at C
    have k0 := (Cel8.new w (.int .i64 0) (.slice none 0 0) (.slice none 0 0) (.slice none 0 0) 29).c0
    have k1 := (Cel8.new w (.int .i64 0) (.slice none 0 0) (.slice none 0 0) (.slice none 0 0) 29).c1
    have k2 := (Cel8.new w (.int .i64 0) (.slice none 0 0) (.slice none 0 0) (.slice none 0 0) 29).c2
    have k3 := (Cel8.new w (.int .i64 0) (.slice none 0 0) (.slice none 0 0) (.slice none 0 0) 29).c3
    refine bodyPost_ret (v := .tuple #[.agg #[.int .i64 0, .slice none 0 0, .slice none 0 0, .slice none 0 0], .int .i64 1]) ?_ rfl ?_
    · simp [results, Try.results11, go_sem, k0, k1, k2, k3]
    exact ⟨rfl, below_new _ _⟩
/-- What a call leaves that has made a new arena of the document's. -/
def MadeN (P : Nat → Prop) (n : Nat) (w0 : World) (e : Ending) (w' : World) : Prop :=
  ∃ A3 n3 c3, e = .returned (.tuple #[.agg #[.int .i64 n, .slice none 0 0, .slice none 0 0, .slice A3 n3 c3], .int .i64 0]) ∧ X8 w' P none 0 0 none 0 0 A3 n3 c3 (Vp.new n) ∧ Below w0.heap.size w0 w'
/-- What the loop carries: k generations, all 0. -/
structure Ni (w wr : World) (m : Int) (v : Value) (k : Nat) : Prop where
  res : Cel8 wr w.heap.size (.int .i64 0) (.slice none 0 0) (.slice none 0 0) (.slice none 0 0)
  cel : Cel8 wr (w.heap.size + 1) (.int .i64 m) (.slice none 0 0) (.slice none 0 0) v
  own : wr.ownsRow (w.heap.size + 2) 3 1 v k ((List.replicate k (0 : Int)).map (Value.int .i64))
  below : Below w.heap.size w wr
theorem Ni.more {w wr w2 : World} {k : Nat} {m : Int} {v v' : Value} {o : Obj} (h : Ni w wr m v k) (ho : w2.ownsRow (w.heap.size + 2) 3 1 v' (k + 1) ((List.replicate k (0 : Int)).map (Value.int .i64) ++ [.int .i64 0])) (hg : (wr.alloc o).grownBy w2 v.ownBlock) :
    Cel8 w2 (w.heap.size + 1) (.int .i64 m) (.slice none 0 0) (.slice none 0 0) v ∧ Ni w (w2.setCell ⟨w.heap.size + 1, 3, none⟩ v') m v' (k + 1) := by
  have hv : ∀ j, v.ownBlock = some j → w.heap.size + 2 ≤ j := fun j e => (h.own.lt j e).1
  have hlt := h.cel.lt
  have hc := (h.cel.step (below_new wr o)).keep (hg.block _ (by simp; omega) (fun e => by have := hv _ e.symm; omega))
  have hr := (h.res.step (below_new wr o)).keep (hg.block _ (by simp; omega) (fun e => by have := hv _ e.symm; omega))
  refine ⟨hc, ?_, ?_, ?_, ?_⟩
  · exact hr.keep (Below.heap_setCell _ _ _ _ (by simp only; omega))
  · exact ⟨raw_other hc.c0 (by omega), raw_other hc.c1 (by omega), raw_other hc.c2 (by omega), set_same hc.c3, fun o => by rw [World.frozen?_setCell]; exact hc.z o⟩
  · have := ownsRow_setCell_below ho (a := ⟨w.heap.size + 1, 3, none⟩) (by simp only; omega) v'
    rw [List.replicate_succ', List.map_append]
    exact this
  · have hs := h.below.size
    exact ((h.below.alloc h.below.size o).grown hg (by simp; omega) (fun j e => by have := hv j e; omega)).setCell (p := ⟨w.heap.size + 1, 3, none⟩) (by simp only; omega) v'
set_option maxHeartbeats 4000000 in
set_option maxRecDepth 100000 in
theorem refNew_yes (n : Nat) (P : Nat → Prop) (w : World) (hB : ∀ b, w.heap.size ≤ b → P b) (h1 : 1 ≤ n) (h2 : n ≤ 64) :
    Calls Try.prog 11 #[.int .i64 n] w (MadeN P n w) := by
  obtain ⟨i0, hi, hz0, hz1, hz2⟩ := info_parts info_int
  have N0 := Lib.hid (show Ni w ((w.alloc (.cells #[.int .i64 0, .slice none 0 0, .slice none 0 0, .slice none 0 0] 29)).alloc (.cells #[.int .i64 n, .slice none 0 0, .slice none 0 0, .slice none 0 0] 29)) n (.slice none 0 0) 0 from
    ⟨(Cel8.new w _ _ _ _ _).step (below_new _ _), by have := Cel8.new (w.alloc (.cells #[.int .i64 0, .slice none 0 0, .slice none 0 0, .slice none 0 0] 29)) (.int .i64 n) (.slice none 0 0) (.slice none 0 0) (.slice none 0 0) 29; simpa using this, World.ownsRow_nil _ _ _ _, (below_new _ _).alloc (by simp) _⟩)
  go_enter Try.func11, Try.ntmps11
  go_wp2_with fail
  go_loopw [5] (fun i wr => ∃ (k : Nat) (v : Value), k ≤ n + 1 ∧ i = .int .i64 k ∧ Hid (Ni w wr n v k)) (fun i _ => n + 1 - (intOf i).toNat)
  case atStart => exact ⟨0, _, Nat.zero_le _, rfl, N0⟩
  case round =>
    obtain ⟨k, v, hk, rfl, HN⟩ := hrel
    have ho := HN.out.own
    obtain ⟨Av, cv, rfl⟩ := own_form ho
    have e3 := HN.out.cel.c3
    have f3 := HN.out.cel.z 3
    have hcl := HN.out.cel.lt
    by_cases hlt : k < n + 1
    · have hkn : (k : Int) ≤ (n : Int) := by omega
      go_wp2_with (at_builtin; refine wpList_append_own _ rfl _ _ 22 rfl (w.heap.size + 2) 3 i0 (.int .i64 0) 1 8 Try.underlying22 hi hz0 hz1 hz2 rfl (by decide) _ _ _ rfl (ho.alloc _) ⟨wr.heap.size, 0, none⟩ 1 1 [.int .i64 0] rfl rfl ?c1 ?c2 ?c3 ?c4 ?c5 ?_)
      case c1 => exact cell_one_new _ _ _
      case c2 => exact ints_oneCell .i64 [0]
      case c3 => unfold maxLen; omega
      case c4 => omega
      case c5 => simp; omega
      intro v' w2 ho2 hg _
      obtain ⟨A2, c2, rfl⟩ := own_form ho2
      obtain ⟨y, hN⟩ := HN.out.more (v' := .slice A2 (k + 1) c2) (by rw [List.map_replicate]; exact ho2) hg
      have HN2 := Lib.hid hN
      have y0 := y.c3
      have y1 := y.z 3
      clear hN ho2 hg y ho e3 f3
      go_wp2_with fail
      go_roundw
      case rel => exact ⟨k + 1, _, by omega, by go_num, HN2⟩
      case measure => simp [intOf]; omega
    · obtain rfl : k = n + 1 := by omega
      have hkn : ¬ (((n + 1 : Nat) : Int) ≤ (n : Int)) := by omega
      have e0 := HN.out.cel.c0
      have e1 := HN.out.cel.c1
      have e2 := HN.out.cel.c2
      have R := HN.out.res
      have r0 := R.c0
      have r1 := R.c1
      have r2 := R.c2
      have r3 := R.c3
      have rz := R.z
      have q0 := rz 0
      have q1 := rz 1
      have q2 := rz 2
      have q3 := rz 3
      have T := R.put (.int .i64 n) (.slice none 0 0) (.slice none 0 0) (.slice Av (n + 1) cv)
      have hbw := below_put4 HN.out.below (Nat.le_refl w.heap.size) (.int .i64 n) (.slice none 0 0) (.slice none 0 0) (.slice Av (n + 1) cv)
      have ho' := own_keep ho (w' := put4 wr w.heap.size (.int .i64 n) (.slice none 0 0) (.slice none 0 0) (.slice Av (n + 1) cv)) (fun g hg => put4_block _ _ _ _ _ _ _ (by have := (ho.lt g hg).1; omega))
      obtain ⟨A9, c9, e9, R9, F9⟩ := Row.of_own' ho'
      injection e9 with ea eb ec
      subst ea ec
      have HM := Lib.hid (show MadeN P n w (.returned (.tuple #[.agg #[.int .i64 n, .slice none 0 0, .slice none 0 0, .slice Av (n + 1) cv], .int .i64 0])) _ from
        ⟨Av, n + 1, cv, rfl, ⟨Row.nothing _, Row.nothing _, R9, FromP.nothing _ _, FromP.nothing _ _, F9.fromP (fun b hb => hB b (by omega)) _⟩, hbw⟩)
      have k0 := T.c0
      have k1 := T.c1
      have k2 := T.c2
      have k3 := T.c3
      unfold put4 at k0 k1 k2 k3 HM
      clear hbw ho' ho R9 F9 eb T R rz HN
      go_wp2_with fail
      refine bodyPost_ret (v := .tuple #[.agg #[.int .i64 n, .slice none 0 0, .slice none 0 0, .slice Av (n + 1) cv], .int .i64 0]) ?_ rfl ?_
      · simp [results, Try.results11, go_sem, k0, k1, k2, k3]
      exact HM.out
end Go.Proofs.Ytncmliojndgoiaa

