/- The document's Tick, by its contract. -/
import Derived.Test.YtgknbjiocgcmdaaKRefWake
namespace Go.Proofs.Ytgknbjiocgcmdaa
open Go.RowKit
set_option linter.unusedVariables false

theorem own_types {w : World} {b1 b2 s1 s2 n1 n2 : Nat} {e1 e2 : TypeId} {v1 v2 : Value} {x1 x2 : List Value} (h1 : w.ownsRow b1 e1 s1 v1 n1 x1) (h2 : w.ownsRow b2 e2 s2 v2 n2 x2) (hne : e1 ≠ e2) : v1.ownBlock = none ∨ v1.ownBlock ≠ v2.ownBlock := by
  rcases h1.2 with ⟨rfl, _⟩ | ⟨g1, c1, cur1, rfl, _, k1, _⟩
  · exact .inl rfl
  · rcases h2.2 with ⟨rfl, _⟩ | ⟨g2, c2, cur2, rfl, _, k2, _⟩
    · exact .inr (by simp [Value.ownBlock])
    · refine .inr ?_
      intro h
      have e : g1 = g2 := by simpa [Value.ownBlock] using h
      subst e
      rw [k1] at k2
      injection k2 with k2
      injection k2 with _ k2
      exact hne k2
/-- What the document's Tick leaves. -/
def TellT (w0 : World) (A0 : Option Addr) (now : Int) (M : List Kp.On) (ys : List Int) (code : Int) (e : Ending) (w' : World) : Prop :=
  ∃ A n c B m d, e = .returned (.tuple #[.agg #[.int .i64 now, .slice A n c], .slice B m d, .int .i64 code]) ∧ PR w' A n c M ∧ Row w' B m d ys ∧ (A = A0 ∨ New w0 w' A) ∧ New w0 w' B ∧ Below w0.heap.size w0 w'
/-- Those that sleep on, and those that wake, in rows of the call's own. -/
structure Tk (w wr : World) (now : Int) (sl : Value) (t : Int) (v : Value) (d : Nat) (M : List Kp.On) (u : Value) (e : Nat) (ys : List Int) : Prop where
  rk : Rk w wr now sl t v d M
  wo : wr.ownsRow (w.heap.size + 3) 3 1 u e (ys.map (Value.int .i64))
theorem Tk.step {w wr W : World} {now t : Int} {sl v u : Value} {d e : Nat} {M : List Kp.On} {ys : List Int} (h : Tk w wr now sl t v d M u e ys) (hb : Below wr.heap.size wr W) : Tk w W now sl t v d M u e ys := ⟨h.rk.step hb, own_below h.wo hb⟩
/-- One wakes. -/
theorem Tk.woke {w wr wa w2 : World} {now t x : Int} {sl v u u' : Value} {d e : Nat} {M : List Kp.On} {ys : List Int} (h : Tk w wr now sl t v d M u e ys) (hb : Below wr.heap.size wr wa)
    (ho : w2.ownsRow (w.heap.size + 3) 3 1 u' (e + 1) ((ys ++ [x]).map (Value.int .i64))) (hg : wa.grownBy w2 u.ownBlock) : Tk w w2 now sl t v d M u' (e + 1) (ys ++ [x]) := by
  have h1 := h.step hb
  have hv : ∀ k, u.ownBlock = some k → w.heap.size + 3 ≤ k := fun k e => (h.wo.lt k e).1
  have hx := h1.rk.bx
  have hxs := hx.size
  have hcc : ∀ b o', b < w.heap.size + 2 → w2.cell? ⟨b, o', none⟩ = wa.cell? ⟨b, o', none⟩ := fun b o' hb => hg.cell_far ⟨b, o', none⟩ (by simp only; omega) (fun e => by have := hv _ e.symm; simp only at this; omega)
  have hff : ∀ b o', b < w.heap.size + 2 → w2.frozen? ⟨b, o', none⟩ = wa.frozen? ⟨b, o', none⟩ := fun b o' hb => hg.frozen_far ⟨b, o', none⟩ (by simp only; omega) (fun e => by have := hv _ e.symm; simp only at this; omega)
  have hsz := hg.size
  exact ⟨⟨⟨(hcc _ _ (by omega)).trans hx.c0, (hcc _ _ (by omega)).trans hx.c1, (hcc _ _ (by omega)).trans hx.r0, (hcc _ _ (by omega)).trans hx.r1, (hff _ _ (by omega)).trans hx.f0, (hff _ _ (by omega)).trans hx.f1, hx.below.grown hg (by omega) (fun k e => by have := hv k e; omega), by omega⟩, h1.rk.cel.grown hg (fun e => by have := hv _ e.symm; omega), h1.rk.own.kept hg (own_types h1.rk.own h1.wo (by decide))⟩, ho⟩
/-- One sleeps on. -/
theorem Tk.more {w wr w2 : World} {now t : Int} {sl v v' u : Value} {d e : Nat} {M : List Kp.On} {ys : List Int} {x : Kp.On} {o : Obj} (h : Tk w wr now sl t v d M u e ys)
    (ho : w2.ownsRow (w.heap.size + 3) 64 2 v' (d + 1) (vcells M ++ vcells [x])) (hg : (wr.alloc o).grownBy w2 v.ownBlock) :
    (Cel2 w2 (w.heap.size + 1 + 1) (.int .i64 t) v ∧ Bx w w2 (.int .i64 now) sl (.int .i64 0) (.slice none 0 0)) ∧ Tk w (w2.setCell ⟨w.heap.size + 1 + 1, 1, none⟩ v') now sl t v' (d + 1) (M ++ [x]) u e ys := by
  obtain ⟨h1, h2⟩ := h.rk.more ho hg
  have h3 := own_below h.wo (below_new wr o)
  have h4 := own_below h.rk.own (below_new wr o)
  exact ⟨h1, h2, ownsRow_setCell_below (h3.kept hg (own_types h3 h4 (by decide))) (by simp only; omega) v'⟩
theorem parts_take {S : List Kp.On} {k : Nat} {o : Kp.On} (h : S[k]? = some o) (t : Int) : Kp.upto (S.take (k + 1)) t = (if o.2 ≤ t then Kp.upto (S.take k) t ++ [o] else Kp.upto (S.take k) t) ∧ Kp.beyond (S.take (k + 1)) t = (if o.2 ≤ t then Kp.beyond (S.take k) t else Kp.beyond (S.take k) t ++ [o]) := by
  rw [List.take_add_one, h, Kp.upto_append, Kp.beyond_append]
  unfold Kp.upto Kp.beyond
  by_cases e : o.2 ≤ t <;> simp [e]
set_option maxRecDepth 100000 in
set_option maxHeartbeats 4000000 in
theorem refTick_any (now : Int) (A : Option Addr) (n c : Nat) (S : List Kp.On) (t : Int) (w : World) (h : PR w A n c S) (hl : n ≤ 100000) (hnow : 0 ≤ now ∧ now ≤ 1099511627776) :
    Calls Try.prog 13 #[.agg #[.int .i64 now, .slice A n c], .int .i64 t] w (TellT w A (Kp.tnow now t) (Kp.trest S now t) (Kp.ids (Kp.twoke S now t)) (Kp.tcode now t)) := by
  obtain ⟨io, hi, hz0, hz1, hz2⟩ := info_parts info_one
  have H := Lib.hid h
  have hlen := h.len
  have hcap := h.cap
  have hmost := h.most
  clear h
  by_cases h0 : t < 0
  · obtain ⟨W1, hW1, hX1⟩ := Bx.start w (.int .i64 now) (.slice A n c) (.int .i64 now) (.slice A n c) 32 32
    have E1 := Lib.hid hW1
    have k0 := hX1.r0
    have k1 := hX1.r1
    have HM := Lib.hid (show TellT w A (Kp.tnow now t) (Kp.trest S now t) (Kp.ids (Kp.twoke S now t)) (Kp.tcode now t) (.returned (.tuple #[.agg #[.int .i64 now, .slice A n c], .slice none 0 0, .int .i64 1])) W1 from
      ⟨A, n, c, none, 0, 0, by unfold Kp.tnow Kp.tcode; rw [if_pos h0, if_pos h0], by unfold Kp.trest; rw [if_pos h0]; exact H.out.below hX1.below, by unfold Kp.twoke; rw [if_pos h0]; exact Row.nothing _, .inl rfl, (fun ad e => by cases e), hX1.below⟩)
    clear hX1 hW1
    go_enter Try.func13, Try.ntmps13
    go_wp2_with fail
    rw [← E1.out]
    refine bodyPost_ret (v := .tuple #[.agg #[.int .i64 now, .slice A n c], .slice none 0 0, .int .i64 1]) ?_ rfl ?_
    · simp [results, Try.results13, go_sem, k0, k1]
    exact HM.out
  · by_cases hov : 1099511627776 - now < t
    · obtain ⟨W1, hW1, hX1⟩ := Bx.start w (.int .i64 now) (.slice A n c) (.int .i64 now) (.slice A n c) 32 32
      have E1 := Lib.hid hW1
      have k0 := hX1.r0
      have k1 := hX1.r1
      have HM := Lib.hid (show TellT w A (Kp.tnow now t) (Kp.trest S now t) (Kp.ids (Kp.twoke S now t)) (Kp.tcode now t) (.returned (.tuple #[.agg #[.int .i64 now, .slice A n c], .slice none 0 0, .int .i64 7])) W1 from
        ⟨A, n, c, none, 0, 0, by unfold Kp.tnow Kp.tcode; rw [if_neg h0, if_pos hov, if_neg h0, if_pos hov], by unfold Kp.trest; rw [if_neg h0, if_pos hov]; exact H.out.below hX1.below, by unfold Kp.twoke; rw [if_neg h0, if_pos hov]; exact Row.nothing _, .inl rfl, (fun ad e => by cases e), hX1.below⟩)
      clear hX1 hW1
      by_cases hm : 1099511627776 < t
      · clear hov
        go_enter Try.func13, Try.ntmps13
        go_wp2_with fail
        rw [← E1.out]
        refine bodyPost_ret (v := .tuple #[.agg #[.int .i64 now, .slice A n c], .slice none 0 0, .int .i64 7]) ?_ rfl ?_
        · simp [results, Try.results13, go_sem, k0, k1]
        exact HM.out
      · have wn : IntKind.i64.wrap (now + t) = now + t := IntWalk.i64_in _ (by omega)
        have hov2 : 1099511627776 < now + t := by omega
        clear hov
        go_enter Try.func13, Try.ntmps13
        go_wp2_with fail
        rw [← E1.out]
        refine bodyPost_ret (v := .tuple #[.agg #[.int .i64 now, .slice A n c], .slice none 0 0, .int .i64 7]) ?_ rfl ?_
        · simp [results, Try.results13, go_sem, k0, k1]
        exact HM.out
    · obtain ⟨q1, q2, q3, q4⟩ := Kp.tick_ok S (now := now) (n := t) (by omega) (by omega)
      rw [q1, q2, q3, q4]
      obtain ⟨u, hu⟩ : ∃ u, u = now + t := ⟨_, rfl⟩
      have wn : IntKind.i64.wrap (now + t) = u := by rw [hu]; exact IntWalk.i64_in _ (by omega)
      have hm : ¬ 1099511627776 < t := by omega
      have hm2 : ¬ 1099511627776 < u := by omega
      rw [← hu]
      obtain ⟨W0, hW0, hX0⟩ := Bx.start w (.int .i64 now) (.slice A n c) (.int .i64 0) (.slice none 0 0) 32 32
      have hs0 : W0.heap.size = w.heap.size + 2 := by rw [hW0]; simp
      have T0 := Lib.hid (show Tk w (W0.alloc (.cells #[.int .i64 u, .slice none 0 0] 32)) now (.slice A n c) u (.slice none 0 0) 0 [] (.slice none 0 0) 0 [] from
        ⟨⟨hX0.step (below_new _ _), by have := Cel2.new W0 (.int .i64 u) (.slice none 0 0) 32; rw [hs0] at this; exact this, World.ownsRow_nil _ _ _ _⟩, World.ownsRow_nil _ _ _ _⟩)
      have E0 := Lib.hid hW0
      have x0 := hX0.c0
      clear hX0 hW0 hs0 q1 q2 q3 q4 hov
      have eu : now + t = u := hu.symm
      clear hu
      go_enter Try.func13, Try.ntmps13
      go_wp2_with fail
      rw [← E0.out]
      generalize W0.alloc (.cells #[.int .i64 u, .slice none 0 0] 32) = V at *
      clear E0 x0
      go_loopw [8, 9] (fun b i wr => ∃ (k d e : Nat) (v : Value), k ≤ n ∧ d ≤ k ∧ e ≤ k ∧ i = .int .i64 k ∧ Hid (Tk w wr now (.slice A n c) u v d (Kp.beyond (S.take k) u) b e (Kp.ids (Kp.upto (S.take k) u)))) (fun _ i _ => n - (intOf i).toNat)
      case atStart => exact ⟨0, 0, 0, _, Nat.zero_le _, Nat.zero_le _, Nat.zero_le _, rfl, T0⟩
      case round =>
        clear T0
        obtain ⟨k, d, e, v, hk, hd, he, rfl, R⟩ := hrel
        have ho := R.out.rk.own
        obtain ⟨Av, cv, rfl⟩ := own_form ho
        obtain ⟨Aw, cw, rfl⟩ := own_form R.out.wo
        have d0 := R.out.rk.bx.c0
        have d1 := R.out.rk.bx.c1
        have e0 := R.out.rk.cel.c0
        have e1 := R.out.rk.cel.c1
        have f1 := R.out.rk.cel.f1
        have hsz := R.out.rk.bx.size
        have hcl := R.out.rk.cel.lt
        by_cases hlt : k < n
        · obtain ⟨x, hx⟩ : ∃ x, S[k]? = some x := ⟨_, List.getElem?_eq_getElem (by omega)⟩
          obtain ⟨gb, off, rfl, _, hc⟩ := (H.out.below R.out.rk.bx.below).cells (by omega)
          obtain ⟨c0, c1⟩ := hc k x hx
          obtain ⟨t1, t2⟩ := parts_take hx u
          obtain ⟨x1, x2⟩ := x
          simp only at c0 c1 t1 t2
          have HT1 := Lib.hid t1
          have HT2 := Lib.hid t2
          have i0 : (0 : Int) ≤ (k : Int) := by omega
          have i1 : (k : Int) < (n : Int) := by omega
          clear hc hx t1 t2
          by_cases hq : x2 ≤ u
          · have HQ := Lib.hid hq
            go_wp2_with fail
            go_quiet (fail)
            have R2 := Lib.hid (R.out.step (below_drewN (Below.refl _ _) nq))
            have c0 := keepcell (below_drewN (Below.refl _ _) nq) c0
            have c1 := keepcell (below_drewN (Below.refl _ _) nq) c1
            clear d0 d1 e0 e1 f1 hsz hcl ho R
            generalize wr.drewN nq = wq at *
            have d0 := R2.out.rk.bx.c0
            have d1 := R2.out.rk.bx.c1
            have e0 := R2.out.rk.cel.c0
            have e1 := R2.out.rk.cel.c1
            have f1 := R2.out.rk.cel.f1
            have hsz := R2.out.rk.bx.size
            have hcl := R2.out.rk.cel.lt
            have hb3 := below_new wq (.cells #[.int .i64 x1] 3)
            have HO3 := Lib.hid (own_below R2.out.wo hb3)
            have HR := Lib.hid (row_at wq x1 wq.heap.size rfl)
            have hs3 : w.heap.size + 3 ≤ (wq.alloc (.cells #[.int .i64 x1] 3)).heap.size := by have := R2.out.rk.cel.lt; simp; omega
            clear hb3
            go_wp2_with (at_builtin; refine wpList_append_row rfl _ _ rfl (w.heap.size + 3) _ e _ rfl HO3.out _ 1 1 [x1] rfl HR.out (by omega) hs3 ?_; intro v' w2 hown2 hg)
            have R3 := Lib.hid (R2.out.woke (below_new wq _) hown2 hg)
            clear hown2 hg HO3 HR d0 d1 e0 e1 f1 c0 c1
            go_wp2_with fail
            go_roundw
            case rel => exact ⟨k + 1, d, e + 1, _, by omega, by omega, by omega, by go_num, Lib.hid (by rw [HT1.out, HT2.out, if_pos HQ.out, if_pos HQ.out, Kp.ids_append]; exact R3.out)⟩
            case measure => simp [intOf]; omega
          · have HQ := Lib.hid hq
            go_wp2_with fail
            go_quiet (fail)
            have R2 := Lib.hid (R.out.step (below_drewN (Below.refl _ _) nq))
            have c0 := keepcell (below_drewN (Below.refl _ _) nq) c0
            have c1 := keepcell (below_drewN (Below.refl _ _) nq) c1
            clear d0 d1 e0 e1 f1 hsz hcl ho R
            generalize wr.drewN nq = wq at *
            have d0 := R2.out.rk.bx.c0
            have d1 := R2.out.rk.bx.c1
            have e0 := R2.out.rk.cel.c0
            have e1 := R2.out.rk.cel.c1
            have f1 := R2.out.rk.cel.f1
            have hsz := R2.out.rk.bx.size
            have hcl := R2.out.rk.cel.lt
            have ho := R2.out.rk.own
            go_wp2_with fail
            go_region_law ((refine step_append_lies _ (by rfl) _ _ _ (by rfl) (w.heap.size + 3) 64 io (.agg #[.int .i64 0, .int .i64 0]) 2 16 Try.underlying30 hi hz0 hz1 hz2 rfl (by omega) (.slice Av d cv) d (vcells (Kp.beyond (S.take k) u)) (by rfl) ((ho.alloc _).drew) ⟨wq.heap.size, 0, none⟩ 1 1 (vcells [(x1, x2)]) (by rfl) (by rfl) (by exact pair_cells wq x1 x2 _) (vcells_one' _) (by omega) (by unfold maxLen; omega) (by omega) (by simp; omega) (wq.heap.size + 1) (by simp) ?_; intro gg cap w2 ho2 hg hat hlt5; obtain ⟨y, hN⟩ := R2.out.more (x := (x1, x2)) (o := .cells #[.int .i64 x1, .int .i64 x2] 64) ho2 ⟨hg.os, hg.tape, hg.output, hg.size, hg.block⟩; have HN := Lib.hid hN; have y0 := y.1.c1; have y1 := y.1.f1))
            all_goals
              clear hN ho2 hg y ho d0 d1 e0 e1 f1
              go_wp2_with fail
              go_roundw
              case rel => exact ⟨k + 1, d + 1, e, _, by omega, by omega, by omega, by go_num, Lib.hid (by rw [HT1.out, HT2.out, if_neg (Int.not_le.2 HQ.out), if_neg (Int.not_le.2 HQ.out)]; exact HN.out)⟩
              case measure => simp [intOf]; omega
        · obtain rfl : k = n := by omega
          have hR := R.out
          rw [List.take_of_length_le (by omega)] at hR
          obtain ⟨p1, p2, p3⟩ := hR.rk.told
          have r0 := hR.rk.bx.r0
          have r1 := hR.rk.bx.r1
          have f0 := hR.rk.bx.f0
          have f2 := hR.rk.bx.f1
          obtain ⟨k0, k1⟩ := told2 (u := .int .i64 u) (v := .slice Av d cv) r0 r1
          have hw := ownsRow_setCell_below (ownsRow_setCell_below hR.wo (a := ⟨w.heap.size + 1, 0, none⟩) (by simp only; omega) (.int .i64 u)) (a := ⟨w.heap.size + 1, 1, none⟩) (by simp only; omega) (.slice Av d cv)
          have hnw := new_of_own (w0 := w) hw (by omega)
          obtain ⟨Aw', cw', ew, hrw, _⟩ := Row.of_own' hw
          injection ew with ew1 _ ew2
          subst ew1 ew2
          have HM := Lib.hid (show TellT w A u (Kp.beyond S u) (Kp.ids (Kp.upto S u)) 0 (.returned (.tuple #[.agg #[.int .i64 u, .slice Av d cv], .slice Aw e cw, .int .i64 0])) _ from ⟨Av, d, cv, Aw, e, cw, rfl, p1, hrw, .inr p2, hnw, p3⟩)
          clear hR p1 p2 p3 ho hw hrw
          go_wp2_with fail
          refine bodyPost_ret (v := .tuple #[.agg #[.int .i64 u, .slice Av d cv], .slice Aw e cw, .int .i64 0]) ?_ rfl ?_
          · simp [results, Try.results13, go_sem, k0, k1]
          exact HM.out
end Go.Proofs.Ytgknbjiocgcmdaa

