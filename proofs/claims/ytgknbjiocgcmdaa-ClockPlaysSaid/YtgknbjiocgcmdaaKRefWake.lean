/- The document's Wake, by its contract. -/
import Derived.Test.YtgknbjiocgcmdaaKRef
import Derived.BigRegion
import Derived.Deep.QuietTactic
import Derived.BigQuiet
namespace Go.Proofs.Ytgknbjiocgcmdaa
open Go.RowKit
set_option linter.unusedVariables false

/-- What a loop over a clock's sleepers carries: the argument's box, the result's, and the box of what it makes. -/
structure Rk (w wr : World) (now : Int) (sl : Value) (t : Int) (v : Value) (d : Nat) (M : List Kp.On) : Prop where
  bx : Bx w wr (.int .i64 now) sl (.int .i64 0) (.slice none 0 0)
  cel : Cel2 wr (w.heap.size + 1 + 1) (.int .i64 t) v
  own : wr.ownsRow (w.heap.size + 3) 64 2 v d (vcells M)
theorem Rk.step {w wr W : World} {now t : Int} {sl v : Value} {d : Nat} {M : List Kp.On} (h : Rk w wr now sl t v d M) (hb : Below wr.heap.size wr W) : Rk w W now sl t v d M := ⟨h.bx.step hb, h.cel.step hb, own_below h.own hb⟩
/-- One more stands there. -/
theorem Rk.more {w wr w2 : World} {now t : Int} {sl v v' : Value} {d : Nat} {M : List Kp.On} {o : Obj} {x : Kp.On} (h : Rk w wr now sl t v d M)
    (ho : w2.ownsRow (w.heap.size + 3) 64 2 v' (d + 1) (vcells M ++ vcells [x])) (hg : (wr.alloc o).grownBy w2 v.ownBlock) :
    (Cel2 w2 (w.heap.size + 1 + 1) (.int .i64 t) v ∧ Bx w w2 (.int .i64 now) sl (.int .i64 0) (.slice none 0 0)) ∧ Rk w (w2.setCell ⟨w.heap.size + 1 + 1, 1, none⟩ v') now sl t v' (d + 1) (M ++ [x]) := by
  have hv : ∀ k, v.ownBlock = some k → w.heap.size + 3 ≤ k := fun k e => (h.own.lt k e).1
  have hc := (h.cel.step (below_new wr o)).grown hg (fun e => by have := hv _ e.symm; omega)
  have hx := h.bx.step (below_new wr o)
  have hxs := hx.size
  have hcc : ∀ b o', b < w.heap.size + 2 → w2.cell? ⟨b, o', none⟩ = (wr.alloc o).cell? ⟨b, o', none⟩ := fun b o' hb => hg.cell_far ⟨b, o', none⟩ (by simp only; omega) (fun e => by have := hv _ e.symm; simp only at this; omega)
  have hff : ∀ b o', b < w.heap.size + 2 → w2.frozen? ⟨b, o', none⟩ = (wr.alloc o).frozen? ⟨b, o', none⟩ := fun b o' hb => hg.frozen_far ⟨b, o', none⟩ (by simp only; omega) (fun e => by have := hv _ e.symm; simp only at this; omega)
  have oth : ∀ b o', b < w.heap.size + 2 → (w2.setCell ⟨w.heap.size + 1 + 1, 1, none⟩ v').cell? ⟨b, o', none⟩ = w2.cell? ⟨b, o', none⟩ := fun b o' hb => World.cell?_setCell_other _ _ _ _ (fun e => by injection e with e; omega)
  have hsz := hg.size
  have hbx : Bx w w2 (.int .i64 now) sl (.int .i64 0) (.slice none 0 0) := ⟨(hcc _ _ (by omega)).trans hx.c0, (hcc _ _ (by omega)).trans hx.c1, (hcc _ _ (by omega)).trans hx.r0, (hcc _ _ (by omega)).trans hx.r1, (hff _ _ (by omega)).trans hx.f0, (hff _ _ (by omega)).trans hx.f1, hx.below.grown hg (by omega) (fun k e => by have := hv k e; omega), by omega⟩
  refine ⟨⟨hc, hbx⟩, ⟨?_, hc.set1 v', ?_⟩⟩
  · exact ⟨(oth _ _ (by omega)).trans hbx.c0, (oth _ _ (by omega)).trans hbx.c1, (oth _ _ (by omega)).trans hbx.r0, (oth _ _ (by omega)).trans hbx.r1, by rw [World.frozen?_setCell]; exact hbx.f0, by rw [World.frozen?_setCell]; exact hbx.f1,
      hbx.below.setCell (by simp only; omega) v', by rw [show (w2.setCell ⟨w.heap.size + 1 + 1, 1, none⟩ v').heap.size = w2.heap.size by simp [World.setCell]]; exact hbx.size⟩
  · rw [vcells_append]
    exact ownsRow_setCell_below ho (by simp only; omega) v'
/-- Memory that was made since. -/
def New (w0 w' : World) (A : Option Addr) : Prop := ∀ ad, A = some ad → w0.heap.size ≤ ad.block ∧ ad.block < w'.heap.size
theorem new_of_own {w0 w : World} {base n c size : Nat} {e : TypeId} {A : Option Addr} {xs : List Value} (h : w.ownsRow base e size (.slice A n c) n xs) (hb : w0.heap.size ≤ base) : New w0 w A := fun ad e => by
  subst e
  have := h.lt _ rfl
  omega
/-- What is told: a clock in memory, of what stands in the result's box. -/
theorem Rk.told {w wr : World} {now t : Int} {sl : Value} {A : Option Addr} {c d : Nat} {M : List Kp.On} (h : Rk w wr now sl t (.slice A d c) d M) :
    PR ((wr.setCell ⟨w.heap.size + 1, 0, none⟩ (.int .i64 t)).setCell ⟨w.heap.size + 1, 1, none⟩ (.slice A d c)) A d c M ∧ New w ((wr.setCell ⟨w.heap.size + 1, 0, none⟩ (.int .i64 t)).setCell ⟨w.heap.size + 1, 1, none⟩ (.slice A d c)) A ∧ Below w.heap.size w ((wr.setCell ⟨w.heap.size + 1, 0, none⟩ (.int .i64 t)).setCell ⟨w.heap.size + 1, 1, none⟩ (.slice A d c)) := by
  have ho := ownsRow_setCell_below (ownsRow_setCell_below h.own (a := ⟨w.heap.size + 1, 0, none⟩) (by simp only; omega) (.int .i64 t)) (a := ⟨w.heap.size + 1, 1, none⟩) (by simp only; omega) (.slice A d c)
  have hnew := new_of_own (w0 := w) ho (by omega)
  obtain ⟨A', c', e, hr, hf⟩ := PR.of_own' ho
  injection e with e1 _ e2
  subst e1 e2
  exact ⟨hr, hnew, (h.bx.below.setCell (p := ⟨w.heap.size + 1, 0, none⟩) (by simp only; omega) _).setCell (p := ⟨w.heap.size + 1, 1, none⟩) (by simp only; omega) _⟩
theorem without_take {S : List Kp.On} {k : Nat} {o : Kp.On} (h : S[k]? = some o) (g : Int) : Kp.without (S.take (k + 1)) g = (if o.1 = g then Kp.without (S.take k) g else Kp.without (S.take k) g ++ [o]) ∧ Kp.has (S.take (k + 1)) g = (Kp.has (S.take k) g || o.1 == g) := by
  unfold Kp.without Kp.has
  rw [List.take_add_one, h, List.filter_append, List.any_append]
  by_cases e : o.1 = g <;> simp [e]
theorem pair_cells (w : World) (p l : Int) (e : TypeId) : ∀ j x, (vcells [(p, l)])[j]? = some x → (w.alloc (.cells #[.int .i64 p, .int .i64 l] e)).cell? ((⟨w.heap.size, 0, none⟩ : Addr).add j) = some x := two_cells w p l e
/-- What a call leaves that tells a clock, whose row is new or the one that came, and one thing more. -/
def TellW (w0 : World) (A0 : Option Addr) (now : Int) (M : List Kp.On) (x : Value) (e : Ending) (w' : World) : Prop :=
  ∃ A n c, e = .returned (.tuple #[.agg #[.int .i64 now, .slice A n c], x]) ∧ PR w' A n c M ∧ (A = A0 ∨ New w0 w' A) ∧ Below w0.heap.size w0 w'
set_option maxRecDepth 100000 in
set_option maxHeartbeats 4000000 in
theorem refWake_any (now : Int) (A : Option Addr) (n c : Nat) (S : List Kp.On) (g : Int) (w : World) (h : PR w A n c S) (hl : n ≤ 100000) :
    Calls Try.prog 16 #[.agg #[.int .i64 now, .slice A n c], .int .i64 g] w (TellW w A now (Kp.without S g) (.bool (Kp.has S g))) := by
  obtain ⟨io, hi, hz0, hz1, hz2⟩ := info_parts info_one
  have H := Lib.hid h
  have hlen := h.len
  have hcap := h.cap
  have hmost := h.most
  clear h
  obtain ⟨W0, hW0, hX0⟩ := Bx.start w (.int .i64 now) (.slice A n c) (.int .i64 0) (.slice none 0 0) 32 32
  have hs0 : W0.heap.size = w.heap.size + 2 := by rw [hW0]; simp
  have R0 := Lib.hid (show Rk w (W0.alloc (.cells #[.int .i64 now, .slice none 0 0] 32)) now (.slice A n c) now (.slice none 0 0) 0 [] from
    ⟨hX0.step (below_new _ _), by have := Cel2.new W0 (.int .i64 now) (.slice none 0 0) 32; rw [hs0] at this; exact this, World.ownsRow_nil _ _ _ _⟩)
  have E0 := Lib.hid hW0
  have x0 := hX0.c0
  clear hX0 hW0 hs0
  go_enter Try.func16, Try.ntmps16
  go_wp2_with fail
  rw [← E0.out]
  go_wp2_with fail
  generalize W0.alloc (.cells #[.int .i64 now, .slice none 0 0] 32) = V at *
  clear E0 x0
  go_loopw [7, 8] (fun b i wr => ∃ (k d : Nat) (v : Value) (T : Bool), k ≤ n ∧ d ≤ k ∧ i = .int .i64 k ∧ b = .bool T ∧ Hid (T = Kp.has (S.take k) g) ∧ Hid (Rk w wr now (.slice A n c) now v d (Kp.without (S.take k) g))) (fun _ i _ => n - (intOf i).toNat)
  case atStart => exact ⟨0, 0, _, false, Nat.zero_le _, Nat.zero_le _, rfl, rfl, Lib.hid rfl, R0⟩
  case round =>
    clear R0
    obtain ⟨k, d, v, T, hk, hd, rfl, rfl, HT, R⟩ := hrel
    have ho := R.out.own
    obtain ⟨Av, cv, rfl⟩ := own_form ho
    have d0 := R.out.bx.c0
    have d1 := R.out.bx.c1
    have e0 := R.out.cel.c0
    have e1 := R.out.cel.c1
    have f1 := R.out.cel.f1
    have hsz := R.out.bx.size
    have hcl := R.out.cel.lt
    by_cases hlt : k < n
    · obtain ⟨x, hx⟩ : ∃ x, S[k]? = some x := ⟨_, List.getElem?_eq_getElem (by omega)⟩
      obtain ⟨gb, off, rfl, _, hc⟩ := (H.out.below R.out.bx.below).cells (by omega)
      obtain ⟨c0, c1⟩ := hc k x hx
      obtain ⟨t1, t2⟩ := without_take hx g
      obtain ⟨x1, x2⟩ := x
      simp only at c0 c1 t1 t2
      have HT1 := Lib.hid t1
      have HT2 := Lib.hid t2
      have i0 : (0 : Int) ≤ (k : Int) := by omega
      have i1 : (k : Int) < (n : Int) := by omega
      clear hc hx t1 t2
      by_cases hq : x1 = g
      · have hq1 : (x1 == g) = true := by simp [hq]
        have HQ := Lib.hid hq
        clear hq ho
        go_wp2_with fail
        go_roundw
        case rel => exact ⟨k + 1, d, _, true, by omega, by omega, by go_num, rfl, Lib.hid (by rw [HT2.out]; simp [HQ.out]), Lib.hid (by rw [HT1.out, if_pos HQ.out]; exact R.out)⟩
        case measure => simp [intOf]; omega
      · have hq1 : (x1 == g) = false := by simp [hq]
        have HQ := Lib.hid hq
        clear hq
        go_wp2_with fail
        go_region_law ((refine step_append_lies _ (by rfl) _ _ _ (by rfl) (w.heap.size + 3) 64 io (.agg #[.int .i64 0, .int .i64 0]) 2 16 Try.underlying30 hi hz0 hz1 hz2 rfl (by omega) (.slice Av d cv) d (vcells (Kp.without (S.take k) g)) (by rfl) ((ho.alloc _).drew) ⟨wr.heap.size, 0, none⟩ 1 1 (vcells [(x1, x2)]) (by rfl) (by rfl) (by exact pair_cells wr x1 x2 _) (vcells_one' _) (by omega) (by unfold maxLen; omega) (by omega) (by simp; omega) (wr.heap.size + 1) (by simp) ?_; intro gg cap w2 ho2 hg hat hlt5; obtain ⟨y, hN⟩ := R.out.more (x := (x1, x2)) (o := .cells #[.int .i64 x1, .int .i64 x2] 64) ho2 ⟨hg.os, hg.tape, hg.output, hg.size, hg.block⟩; have HN := Lib.hid hN; have y0 := y.1.c1; have y1 := y.1.f1))
        all_goals
          clear hN ho2 hg y ho d0 d1 e0 e1 f1
          go_wp2_with fail
          go_roundw
          case rel => exact ⟨k + 1, d + 1, _, T, by omega, by omega, by go_num, rfl, Lib.hid (by rw [HT2.out, ← HT.out]; simp [HQ.out]), Lib.hid (by rw [HT1.out, if_neg HQ.out]; exact HN.out)⟩
          case measure => simp [intOf]; omega
    · obtain rfl : k = n := by omega
      have hR := R.out
      have hT := HT.out
      rw [List.take_of_length_le (by omega)] at hR hT
      obtain ⟨p1, p2, p3⟩ := hR.told
      have r0 := hR.bx.r0
      have r1 := hR.bx.r1
      have f0 := hR.bx.f0
      have f2 := hR.bx.f1
      obtain ⟨k0, k1⟩ := told2 (u := .int .i64 now) (v := .slice Av d cv) r0 r1
      have HM := Lib.hid (show TellW w A now (Kp.without S g) (.bool (Kp.has S g)) (.returned (.tuple #[.agg #[.int .i64 now, .slice Av d cv], .bool T])) _ from ⟨Av, d, cv, by rw [hT], p1, .inr p2, p3⟩)
      clear hR hT p1 p2 p3 ho
      go_wp2_with fail
      refine bodyPost_ret (v := .tuple #[.agg #[.int .i64 now, .slice Av d cv], .bool T]) ?_ rfl ?_
      · simp [results, Try.results16, go_sem, k0, k1]
      exact HM.out
end Go.Proofs.Ytgknbjiocgcmdaa

