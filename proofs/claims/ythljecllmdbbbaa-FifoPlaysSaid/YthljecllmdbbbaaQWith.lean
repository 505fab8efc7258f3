/- The document's arena with another row in one queue's place: a list of lists in new memory. -/
import Derived.Test.YthljecllmdbbbaaQRef
import Derived.Laws.OwnMore
import Derived.Deep.RegionLaw
namespace Go.Proofs.Ythljecllmdbbbaa
open Go.RowKit
set_option linter.unusedVariables false

theorem info_ints : (Try.prog.info? 44).map (fun i => (i.zero, i.size, i.bytes)) = some (some (Value.slice none 0 0), 1, 24) := by kernel_rfl
/-- Slices that lead to these rows, from block B on. -/
def Parts (W : World) (P : Nat → Prop) (q : List (List Int)) (xs : List Value) : Prop :=
  xs.length = q.length ∧ ∀ (i : Nat) l, q[i]? = some l → ∃ Ai ci, xs[i]? = some (.slice Ai l.length ci) ∧ Row W Ai l.length ci l ∧ FromP P Ai l
theorem Parts.nil (W : World) (P : Nat → Prop) : Parts W P [] [] := ⟨rfl, fun i l h => by simp at h⟩
theorem Parts.snoc {W : World} {P : Nat → Prop} {n c : Nat} {q : List (List Int)} {xs : List Value} {A : Option Addr} {l : List Int} (h : Parts W P q xs) (hr : Row W A n c l) (hf : FromP P A l) : Parts W P (q ++ [l]) (xs ++ [.slice A n c]) := by
  have hn := hr.len
  subst hn
  refine ⟨by simp [h.1], fun i s hi => ?_⟩
  by_cases e : i < q.length
  · rw [List.getElem?_append_left e] at hi
    obtain ⟨Ai, ci, h1, h2⟩ := h.2 i s hi
    exact ⟨Ai, ci, by rw [List.getElem?_append_left (by rw [h.1]; exact e)]; exact h1, h2⟩
  · have hlt := (List.getElem?_eq_some_iff.1 hi).1
    simp at hlt
    have : i = q.length := by omega
    subst this
    simp at hi
    subst hi
    exact ⟨A, c, by rw [List.getElem?_append_right (by rw [h.1]; exact Nat.le_refl _), h.1]; simp, hr, hf⟩
theorem rws_of {w W : World} {P : Nat → Prop} {base n c : Nat} {A : Option Addr} {xs : List Value} {q : List (List Int)} (ho : W.ownsRow base 44 1 (.slice A n c) n xs) (hp : Parts w P q xs) (hb : Below w.heap.size w W) (hB : ∀ b, base ≤ b → P b) : Rws W P A n c q := by
  have hn := ho.1
  have hq := hp.1
  rcases ho.2 with ⟨e, h0⟩ | ⟨g, cap, cur, e, hg, hh, hnc, hcm, _⟩
  · injection e with e1 e2 e3
    subst e1 e3
    exact ⟨by omega, by omega, by omega, fun _ => rfl, fun i l hi => by have := (List.getElem?_eq_some_iff.1 hi).1; omega⟩
  · injection e with e1 e2 e3
    subst e1 e3
    refine ⟨by omega, hnc, by unfold maxLen at hcm; omega, (fun e => by cases e), fun i l hi => ?_⟩
    obtain ⟨Ai, ci, h1, h2, h3⟩ := hp.2 i l hi
    refine ⟨g, 0, Ai, ci, rfl, (Array.getElem?_eq_some_iff.1 hh).1, hB _ hg, ?_, h2.below hb, h3⟩
    have := ho.cells (g := g) rfl i _ h1
    rwa [add_lit'] at this
/-- What a call leaves that has made an arena. -/
def MadeX (P : Nat → Prop) (m : Int) (q : List (List Int)) (w0 : World) (e : Ending) (w' : World) : Prop :=
  ∃ A n c, e = .returned (.agg #[.int .i64 m, .slice A n c]) ∧ Rws w' P A n c q ∧ Below w0.heap.size w0 w'
theorem ints_cell (w : World) (v : Value) : ∀ j x, [v][j]? = some x → (w.alloc (.cells #[v] 44)).cell? ((⟨w.heap.size, 0, none⟩ : Addr).add j) = some x := one_cell w v _
/-- What the loop carries. -/
structure Wi (w wr : World) (P : Nat → Prop) (m : Int) (sl : Value) (q : List (List Int)) (v : Value) (j : Nat) : Prop where
  bx : Bx w wr (.int .i64 m) sl (.int .i64 0) (.slice none 0 0)
  cel : Cel5 wr (w.heap.size + 1 + 1) (.int .i64 m) v
  own : ∃ xs, wr.ownsRow (w.heap.size + 3) 44 1 v j xs ∧ Parts w P (q.take j) xs
/-- One more stands there. -/
theorem Wi.more {w wr w2 : World} {P : Nat → Prop} {n c j : Nat} {m : Int} {sl v v' : Value} {q : List (List Int)} {A : Option Addr} {l : List Int} {o : Obj} {xs : List Value} (h : Wi w wr P m sl q v j) (hl : q[j]? = some l) (hr : Row w A n c l) (hf : FromP P A l)
    (hp : Parts w P (q.take j) xs) (ho : w2.ownsRow (w.heap.size + 3) 44 1 v' (j + 1) (xs ++ [.slice A n c])) (hg : (wr.alloc o).grownBy w2 v.ownBlock) :
    (Cel5 w2 (w.heap.size + 1 + 1) (.int .i64 m) v ∧ Bx w w2 (.int .i64 m) sl (.int .i64 0) (.slice none 0 0)) ∧ Wi w (w2.setCell ⟨w.heap.size + 1 + 1, 1, none⟩ v') P m sl q v' (j + 1) := by
  obtain ⟨ys, hoy, _⟩ := h.own
  have hv : ∀ k, v.ownBlock = some k → w.heap.size + 3 ≤ k := fun k e => (hoy.lt k e).1
  have hc := (h.cel.step (below_new wr o)).grown hg (fun e => by have := hv _ e.symm; omega)
  have hx := h.bx.step (below_new wr o)
  have hxs := hx.size
  have hcc : ∀ b o', b < w.heap.size + 2 → w2.cell? ⟨b, o', none⟩ = (wr.alloc o).cell? ⟨b, o', none⟩ := fun b o' hb => hg.cell_far ⟨b, o', none⟩ (by simp only; omega) (fun e => by have := hv _ e.symm; simp only at this; omega)
  have hff : ∀ b o', b < w.heap.size + 2 → w2.frozen? ⟨b, o', none⟩ = (wr.alloc o).frozen? ⟨b, o', none⟩ := fun b o' hb => hg.frozen_far ⟨b, o', none⟩ (by simp only; omega) (fun e => by have := hv _ e.symm; simp only at this; omega)
  have oth : ∀ b o', b < w.heap.size + 2 → (w2.setCell ⟨w.heap.size + 1 + 1, 1, none⟩ v').cell? ⟨b, o', none⟩ = w2.cell? ⟨b, o', none⟩ := fun b o' hb => World.cell?_setCell_other _ _ _ _ (fun e => by injection e with e; omega)
  have hbx : Bx w w2 (.int .i64 m) sl (.int .i64 0) (.slice none 0 0) := by
    have hsz := hg.size
    exact ⟨(hcc _ _ (by omega)).trans hx.c0, (hcc _ _ (by omega)).trans hx.c1, (hcc _ _ (by omega)).trans hx.r0, (hcc _ _ (by omega)).trans hx.r1, (hff _ _ (by omega)).trans hx.f0, (hff _ _ (by omega)).trans hx.f1, hx.below.grown hg (by omega) (fun k e => by have := hv k e; omega), by omega⟩
  refine ⟨⟨hc, hbx⟩, ⟨?_, ?_, xs ++ [.slice A n c], ownsRow_setCell_below ho (by simp only; omega) v', ?_⟩⟩
  · have hsz := hg.size
    exact ⟨(oth _ _ (by omega)).trans ((hcc _ _ (by omega)).trans hx.c0), (oth _ _ (by omega)).trans ((hcc _ _ (by omega)).trans hx.c1), (oth _ _ (by omega)).trans ((hcc _ _ (by omega)).trans hx.r0), (oth _ _ (by omega)).trans ((hcc _ _ (by omega)).trans hx.r1),
      by rw [World.frozen?_setCell, hff _ _ (by omega)]; exact hx.f0, by rw [World.frozen?_setCell, hff _ _ (by omega)]; exact hx.f1,
      (hx.below.grown hg (by omega) (fun k e => by have := hv k e; omega)).setCell (by simp only; omega) v', by rw [show (w2.setCell ⟨w.heap.size + 1 + 1, 1, none⟩ v').heap.size = w2.heap.size by simp [World.setCell]]; omega⟩
  · exact ⟨by rw [World.cell?_setCell_other _ _ _ _ (fun e => by injection e with _ e; omega)]; exact hc.c0, World.cell?_setCell_same' _ _ _ (by rw [hc.c1]; rfl), by rw [World.frozen?_setCell]; exact hc.f0, by rw [World.frozen?_setCell]; exact hc.f1⟩
  · rw [List.take_add_one, hl]
    exact hp.snoc hr hf
theorem Wi.step {w wr W : World} {P : Nat → Prop} {j : Nat} {m : Int} {sl v : Value} {q : List (List Int)} (h : Wi w wr P m sl q v j) (hb : Below wr.heap.size wr W) : Wi w W P m sl q v j := by
  obtain ⟨xs, ho, hp⟩ := h.own
  exact ⟨h.bx.step hb, h.cel.step hb, xs, own_below ho hb, hp⟩

set_option maxHeartbeats 4000000 in
set_option maxRecDepth 100000 in
theorem with_any (m : Int) (P : Nat → Prop) (A : Option Addr) (n c : Nat) (q : List (List Int)) (k : Nat) (L : Option Addr) (N C : Nat) (l : List Int) (w : World) (h : Rws w P A n c q) (hr : Row w L N C l) (hf : FromP P L l) (hB : ∀ b, w.heap.size ≤ b → P b) (hk : k < n) (hn : n ≤ 1000) :
    Calls Try.prog 28 #[.agg #[.int .i64 m, .slice A n c], .int .i64 k, .slice L N C] w (MadeX P m (q.set k l) w) := by
  obtain ⟨i1, hi1, hy0, hy1, hy2⟩ := info_parts info_ints
  have H := Lib.hid h
  have R := Lib.hid hr
  have F := Lib.hid hf
  have hl := h.cap
  have hl2 := h.most
  have HLEN := Lib.hid h.len
  clear h hr hf
  obtain ⟨b, off, rfl, hb, hcells⟩ := H.out.cells (by omega)
  have HC := Lib.hid hcells
  clear hcells
  obtain ⟨W0, hW0, hX0⟩ := Bx.start w (.int .i64 m) (.slice (some ⟨b, off, none⟩) n c) (.int .i64 0) (.slice none 0 0) 30 30
  have hs0 : W0.heap.size = w.heap.size + 2 := by rw [hW0]; simp
  have W1 := Lib.hid (show Wi w (W0.alloc (.cells #[.int .i64 m, .slice none 0 0] 30)) P m (.slice (some ⟨b, off, none⟩) n c) (q.set k l) (.slice none 0 0) 0 from
    ⟨hX0.step (below_new _ _), by have := Cel5.new W0 (.int .i64 m) (.slice none 0 0) 30; rw [hs0] at this; exact this, [], World.ownsRow_nil _ _ _ _, by rw [List.take_zero]; exact Parts.nil _ _⟩)
  have E0 := Lib.hid hW0
  clear hX0 hW0 hs0
  go_enter Try.func28, Try.ntmps28
  go_wp2_with fail
  rw [← E0.out]
  clear E0
  go_loopw [8] (fun i wr => ∃ (j : Nat) (v : Value), j ≤ n ∧ i = .int .i64 j ∧ Hid (Wi w wr P m (.slice (some ⟨b, off, none⟩) n c) (q.set k l) v j)) (fun i _ => n - (intOf i).toNat)
  case atStart => exact ⟨0, _, Nat.zero_le _, rfl, W1⟩
  case round =>
    obtain ⟨j, v, hj, rfl, HI⟩ := hrel
    obtain ⟨xs, ho, hp⟩ := HI.out.own
    have HP := Lib.hid hp
    obtain ⟨Av, cv, rfl⟩ := own_form ho
    have d0 := HI.out.bx.c0
    have d1 := HI.out.bx.c1
    have e0 := HI.out.cel.c0
    have e1 := HI.out.cel.c1
    have f1 := HI.out.cel.f1
    have hsz := HI.out.bx.size
    have hcl := HI.out.cel.lt
    by_cases hlt : j < n
    · by_cases hjk : j = k
      · subst hjk
        have HQ := Lib.hid (show (q.set j l)[j]? = some l by rw [List.getElem?_set]; simp [HLEN.out, hlt])
        clear hp
        go_wp2_with (at_builtin; refine wpList_append_own _ rfl _ _ 28 rfl (w.heap.size + 3) 44 i1 (.slice none 0 0) 1 24 Try.underlying28 hi1 hy0 hy1 hy2 rfl (by decide) _ _ _ rfl (ho.alloc _) ⟨wr.heap.size, 0, none⟩ 1 1 [.slice L N C] rfl rfl ?c1 ?c2 ?c3 ?c4 ?c5 ?_)
        case c1 => exact ints_cell _ _
        case c2 => intro u hu; simp at hu; subst hu; rfl
        case c3 => unfold maxLen; omega
        case c4 => omega
        case c5 => simp; omega
        intro v' w2 ho2 hg _
        obtain ⟨A2, c2, rfl⟩ := own_form ho2
        obtain ⟨y, hN⟩ := HI.out.more HQ.out R.out F.out HP.out ho2 hg
        have HN := Lib.hid hN
        have y0 := y.1.c1
        have y1 := y.1.f1
        clear hN ho2 hg y ho d0 d1 e0 e1 f1
        go_wp2_with fail
        go_roundw
        case rel => exact ⟨j + 1, _, by omega, by go_num, HN⟩
        case measure => simp [intOf]; omega
      · obtain ⟨lj, hlj⟩ : ∃ lj, q[j]? = some lj := ⟨_, List.getElem?_eq_getElem (by rw [HLEN.out]; exact hlt)⟩
        obtain ⟨Aj, cj, hcj, hrj, hfj⟩ := HC.out j lj hlj
        obtain ⟨Nj, hNj⟩ : ∃ Nj, lj.length = Nj := ⟨_, rfl⟩
        rw [hNj] at hcj hrj
        have HQ := Lib.hid (show (q.set k l)[j]? = some lj by rw [List.getElem?_set, if_neg (fun e => hjk e.symm)]; exact hlj)
        have RJ := Lib.hid hrj
        have FJ := Lib.hid hfj
        have hcjw : wr.cell? ⟨b, off + j, none⟩ = some (.slice Aj Nj cj) := (HI.out.bx.below.cell (p := ⟨b, off + j, none⟩) hb).trans hcj
        have hjk' : ((j : Int) == (k : Int)) = false := by rw [beq_eq_false_iff_ne]; omega
        clear hcj hrj hfj hlj hNj hp
        go_wp2_with fail
        go_region_law ((refine step_append_lies _ (by rfl) _ _ _ (by rfl) (w.heap.size + 3) 44 i1 (.slice none 0 0) 1 24 Try.underlying28 hi1 hy0 hy1 hy2 rfl (by omega) (.slice Av j cv) j xs (by rfl) ((ho.alloc _).drew) ⟨wr.heap.size, 0, none⟩ 1 1 [.slice Aj Nj cj] (by rfl) (by rfl) (ints_cell _ _) (by intro u hu; simp at hu; subst hu; rfl) (by omega) (by unfold maxLen; omega) (by omega) (by simp; omega) (wr.heap.size + 1) (by simp) ?_; intro gg cap w2 ho2 hg hat hlt5; obtain ⟨y, hN⟩ := HI.out.more (o := .cells #[.slice Aj Nj cj] 44) HQ.out RJ.out FJ.out HP.out ho2 ⟨hg.os, hg.tape, hg.output, hg.size, hg.block⟩; have HN := Lib.hid hN; have y0 := y.1.c1; have y1 := y.1.f1))
        all_goals
          clear hN ho2 hg y ho d0 d1 e0 e1 f1
          go_wp2_with fail
          go_roundw
          case rel => exact ⟨j + 1, _, by omega, by go_num, HN⟩
          case measure => simp [intOf]; omega
    · obtain rfl : j = n := by omega
      have hql : (q.set k l).length = j := by rw [List.length_set]; exact HLEN.out
      rw [List.take_of_length_le (by omega)] at hp
      have r0 := HI.out.bx.r0
      have r1 := HI.out.bx.r1
      have f0 := HI.out.bx.f0
      have f2 := HI.out.bx.f1
      obtain ⟨k0, k1⟩ := told2 (u := .int .i64 m) (v := .slice Av j cv) r0 r1
      have ho' := ownsRow_setCell_below (ownsRow_setCell_below ho (a := ⟨w.heap.size + 1, 0, none⟩) (by simp only; omega) (.int .i64 m)) (a := ⟨w.heap.size + 1, 1, none⟩) (by simp only; omega) (.slice Av j cv)
      have hbw := (HI.out.bx.below.setCell (p := ⟨w.heap.size + 1, 0, none⟩) (by simp only; omega) (.int .i64 m)).setCell (p := ⟨w.heap.size + 1, 1, none⟩) (by simp only; omega) (.slice Av j cv)
      have HM := Lib.hid (show MadeX P m (q.set k l) w (.returned (.agg #[.int .i64 m, .slice Av j cv])) _ from ⟨Av, j, cv, rfl, rws_of ho' hp hbw (fun b hb => hB b (by omega)), hbw⟩)
      clear hbw ho' ho hp hql
      go_wp2_with fail
      refine bodyPost_ret (v := .agg #[.int .i64 m, .slice Av j cv]) ?_ rfl ?_
      · simp [results, Try.results28, go_sem, k0, k1]
      exact HM.out
end Go.Proofs.Ythljecllmdbbbaa

