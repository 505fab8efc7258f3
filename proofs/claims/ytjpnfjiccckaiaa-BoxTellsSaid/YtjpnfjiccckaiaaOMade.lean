/- The program's mailbox out of the document's ('made'), by its contract: the first region goes in whatever order, each gone through. -/
import Derived.Test.YtjpnfjiccckaiaaORefSnd
import Derived.Test.YtjpnfjiccckaiaaOLaw
import Derived.Deep.DeepCutAuto
namespace Go.Proofs.Ytjpnfjiccckaiaa
open Go.RowKit
open Mp (Bo)
set_option linter.unusedVariables false

theorem step_fresh64 {w : World} {ops : Array Oper} {o : Oper} {a : Act} {K : Act → World → Prop} {Q : Exit → Act → World → Prop} {E : Prop} (hgd : o.guard = none) (s x : Operand)
    (ho : o.op = .call { callee := .builtin .append, args := #[s, x], argTypes := #[22, 22] })
    (ad : Addr) (hs : a.eval s = .slice (some ad) 0 0) (A : Option Addr) (m c : Nat) (zs : List Int) (hx : a.eval x = .slice A m c) (h : Row w A m c zs) (hb : m ≤ 1000000)
    (hK : ∀ A' c' w', Row w' A' m c' zs → (∀ ad, A' = some ad → 0 < m → w.heap.size ≤ ad.block ∧ ad.block < w'.heap.size) → Below w.heap.size w w' → K (a.put o.dst (.slice A' m c')) w') :
    if Region.wanted o (yielded ops a.tmps) = true then Oper.wp Try.prog o a w K Q else E := by
  have hrun : ∃ A' c' w', (Builtin.append_ #[22, 22] o.type #[.slice (some ad) 0 0, .slice A m c]).run Try.prog w = .ok (.slice A' m c') w' ∧ Row w' A' m c' zs ∧ (∀ ad, A' = some ad → 0 < m → w.heap.size ≤ ad.block ∧ ad.block < w'.heap.size) ∧ Below w.heap.size w w' := by
    obtain ⟨i0, hi, hz0, hz1, hz2⟩ := info_parts info_i64
    have hl := h.len
    by_cases hm : m = 0
    · subst hm
      obtain rfl := List.length_eq_zero_iff.1 hl
      refine ⟨some ad, 0, w, ?_, ⟨rfl, Nat.le_refl _, by omega, (fun e => by cases e), fun i z hi => by simp at hi⟩, fun _ _ h0 => absurd h0 (Nat.lt_irrefl 0), Below.refl _ _⟩
      have hf : (Builtin.firstCells i0.size 0 (.slice A 0 c)).run Try.prog w = .ok #[] w := by
        cases A with
        | none => exact run_firstCells_none w _ _ _ _
        | some a => exact run_firstCells_some (P := Try.prog) w i0.size 0 a 0 c [] (by simp) (by intro j u hj; simp at hj)
      simp [Builtin.append_, run_underlying Try.underlying22, sizeOf, typeInfo, hi, Builtin.lenOf, hf, storeCells]
    · obtain ⟨b, off, rfl, _, _⟩ := h.cells (by omega)
      obtain ⟨v', w', h1, h2, h3⟩ := run_append_arg_grows (P := Try.prog) w 22 o.type 2 i0 _ 1 8 Try.underlying22 hi hz0 hz1 hz2 rfl (by decide) ad 0 0 [] rfl (by intro j u hj; simp at hj) ⟨b, off, none⟩ m c (zs.map (Value.int .i64)) (by rw [List.length_map, hl]; omega) h.icells (by omega) (by unfold maxLen; omega) (by omega)
      have ho2 : w'.ownsRow w.heap.size 2 1 v' m (zs.map (Value.int .i64)) := by
        refine ⟨by simpa using h2.1, ?_⟩
        rcases h2.2 with h0 | ⟨g, cap, cur, e1, hg, h4⟩
        · exact .inl (by simpa using h0)
        · exact .inr ⟨g, cap, cur, by simpa using e1, hg, by simpa using h4⟩
      obtain ⟨A', c', rfl, hr, hf⟩ := Row.of_own' ho2
      exact ⟨A', c', w', h1, hr, fun a e _ => by subst e; exact ho2.lt _ rfl, ⟨h3.os, h3.tape, h3.output, h3.size, fun k hk => h3.block k hk (by simp)⟩⟩
  obtain ⟨A', c', w', hr, h2, h3, h4⟩ := hrun
  have hw : Region.wanted o (yielded ops a.tmps) = true := by simp [Region.wanted, hgd]
  rw [if_pos hw]
  unfold Oper.wp
  simp [execOp, ho, resolve, invoke, builtin, hs, hx, hr, Result.andThen]
  exact hK A' c' w' h2 h3 h4
theorem step_freshI {w : World} {ops : Array Oper} {o : Oper} {a : Act} {K : Act → World → Prop} {Q : Exit → Act → World → Prop} {E : Prop} (hgd : o.guard = none) (s x : Operand)
    (ho : o.op = .call { callee := .builtin .append, args := #[s, x], argTypes := #[24, 24] })
    (ad : Addr) (hs : a.eval s = .slice (some ad) 0 0) (A : Option Addr) (m c : Nat) (zs : List Int) (hx : a.eval x = .slice A m c) (h : Row w A m c zs) (hb : m ≤ 1000000)
    (hK : ∀ A' c' w', Row w' A' m c' zs → (∀ ad, A' = some ad → 0 < m → w.heap.size ≤ ad.block ∧ ad.block < w'.heap.size) → Below w.heap.size w w' → K (a.put o.dst (.slice A' m c')) w') :
    if Region.wanted o (yielded ops a.tmps) = true then Oper.wp Try.prog o a w K Q else E := by
  have hrun : ∃ A' c' w', (Builtin.append_ #[24, 24] o.type #[.slice (some ad) 0 0, .slice A m c]).run Try.prog w = .ok (.slice A' m c') w' ∧ Row w' A' m c' zs ∧ (∀ ad, A' = some ad → 0 < m → w.heap.size ≤ ad.block ∧ ad.block < w'.heap.size) ∧ Below w.heap.size w w' := by
    obtain ⟨i0, hi, hz0, hz1, hz2⟩ := info_parts info_int
    have hl := h.len
    by_cases hm : m = 0
    · subst hm
      obtain rfl := List.length_eq_zero_iff.1 hl
      refine ⟨some ad, 0, w, ?_, ⟨rfl, Nat.le_refl _, by omega, (fun e => by cases e), fun i z hi => by simp at hi⟩, fun _ _ h0 => absurd h0 (Nat.lt_irrefl 0), Below.refl _ _⟩
      have hf : (Builtin.firstCells i0.size 0 (.slice A 0 c)).run Try.prog w = .ok #[] w := by
        cases A with
        | none => exact run_firstCells_none w _ _ _ _
        | some a => exact run_firstCells_some (P := Try.prog) w i0.size 0 a 0 c [] (by simp) (by intro j u hj; simp at hj)
      simp [Builtin.append_, run_underlying Try.underlying24, sizeOf, typeInfo, hi, Builtin.lenOf, hf, storeCells]
    · obtain ⟨b, off, rfl, _, _⟩ := h.cells (by omega)
      obtain ⟨v', w', h1, h2, h3⟩ := run_append_arg_grows (P := Try.prog) w 24 o.type 3 i0 _ 1 8 Try.underlying24 hi hz0 hz1 hz2 rfl (by decide) ad 0 0 [] rfl (by intro j u hj; simp at hj) ⟨b, off, none⟩ m c (zs.map (Value.int .i64)) (by rw [List.length_map, hl]; omega) h.icells (by omega) (by unfold maxLen; omega) (by omega)
      have ho2 : w'.ownsRow w.heap.size 3 1 v' m (zs.map (Value.int .i64)) := by
        refine ⟨by simpa using h2.1, ?_⟩
        rcases h2.2 with h0 | ⟨g, cap, cur, e1, hg, h4⟩
        · exact .inl (by simpa using h0)
        · exact .inr ⟨g, cap, cur, by simpa using e1, hg, by simpa using h4⟩
      obtain ⟨A', c', rfl, hr, hf⟩ := Row.of_own' ho2
      exact ⟨A', c', w', h1, hr, fun a e _ => by subst e; exact ho2.lt _ rfl, ⟨h3.os, h3.tape, h3.output, h3.size, fun k hk => h3.block k hk (by simp)⟩⟩
  obtain ⟨A', c', w', hr, h2, h3, h4⟩ := hrun
  have hw : Region.wanted o (yielded ops a.tmps) = true := by simp [Region.wanted, hgd]
  rw [if_pos hw]
  unfold Oper.wp
  simp [execOp, ho, resolve, invoke, builtin, hs, hx, hr, Result.andThen]
  exact hK A' c' w' h2 h3 h4
theorem Row.farn {W : World} {X j n c : Nat} {A : Option Addr} {zs : List Int} {u : Value} (h : Row W A n c zs) (ha : ∀ ad, A = some ad → 0 < n → ad.block ≠ X) : Row (W.setCell ⟨X, j, Option.none⟩ u) A n c zs := by
  refine ⟨h.len, h.cap, h.most, h.nil, fun i z hi => ?_⟩
  obtain ⟨b, off, e, hb, hc⟩ := h.row i z hi
  have hne := ha _ e (by have := (List.getElem?_eq_some_iff.1 hi).1; have := h.len; omega)
  simp only at hne
  exact ⟨b, off, e, by simpa [World.setCell] using hb, (World.cell?_setCell_other _ _ _ _ (fun e => by injection e with e; omega)).trans hc⟩
theorem Row.grown2 {w w' : World} {A : Option Addr} {n c : Nat} {zs : List Int} {row : Option Nat} (h : Row w A n c zs) (hg : w.grownBy w' row) (hne : ∀ k, row = some k → ∀ ad, A = some ad → 0 < n → ad.block ≠ k) : Row w' A n c zs := by
  refine ⟨h.len, h.cap, h.most, h.nil, fun i z hi => ?_⟩
  obtain ⟨b, off, e, hb, hc⟩ := h.row i z hi
  have hn : 0 < n := by have := (List.getElem?_eq_some_iff.1 hi).1; have := h.len; omega
  exact ⟨b, off, e, Nat.lt_of_lt_of_le hb hg.size, hg.cell hc (fun e' => hne b e'.symm _ e hn rfl)⟩
/-- The row lies elsewhere, if it has a member. -/
def Nq (A : Option Addr) (n X : Nat) : Prop := ∀ ad, A = some ad → 0 < n → ad.block ≠ X
/-- The row lies no lower than block X, if it has a member. -/
def Lo (A : Option Addr) (n X : Nat) : Prop := ∀ ad, A = some ad → 0 < n → X ≤ ad.block
theorem Row.put4n {W : World} {A : Option Addr} {n c X : Nat} {zs : List Int} {x y z u : Value} (h : Row W A n c zs) (f : Nq A n X) : Row ((((W.setCell ⟨X, 0, none⟩ x).setCell ⟨X, 1, none⟩ y).setCell ⟨X, 2, none⟩ z).setCell ⟨X, 3, none⟩ u) A n c zs := (((h.farn f).farn f).farn f).farn f
theorem A4.setX {w W : World} {x y z u x' y' z' u' : Value} {X : Nat} (h : A4 w W x y z u x' y' z' u') (hX : w.heap.size + 2 ≤ X) (j : Nat) (v : Value) : A4 w (W.setCell ⟨X, j, none⟩ v) x y z u x' y' z' u' :=
  ⟨h.p.far (by omega), h.r.far (by omega), h.below.setCell (by simp only; omega) _, by simpa [World.setCell] using h.size⟩
theorem A4.elsewhere {w W : World} {x y z u x' y' z' u' : Value} {X : Nat} (h : A4 w W x y z u x' y' z' u') (hX : w.heap.size + 2 ≤ X) (a b c d : Value) : A4 w ((((W.setCell ⟨X, 0, none⟩ a).setCell ⟨X, 1, none⟩ b).setCell ⟨X, 2, none⟩ c).setCell ⟨X, 3, none⟩ d) x y z u x' y' z' u' :=
  ⟨h.p.off (by omega) _ _ _ _, h.r.off (by omega) _ _ _ _, put4_below h.below (by omega), by simpa [World.setCell] using h.size⟩
set_option maxHeartbeats 16000000 in
theorem made_any (b : Bo) (A B C : Option Addr) (n1 n2 n3 c1 c2 c3 : Nat) (w : World) (h : Tri w A n1 c1 B n2 c2 C n3 c3 b) (h1 : n1 ≤ 100000) (h2 : n2 ≤ 100000) (h3 : n3 ≤ 100000) :
    Calls Try.prog 10 #[.agg #[.int .i64 b.room, .slice A n1 c1, .slice B n2 c2, .slice C n3 c3]] w fun e w' => ∃ bv, e = .returned bv ∧ TellB w 0 b bv w' := by
  obtain ⟨room, msgs, send, recv⟩ := b
  obtain ⟨W0, hW0, hX0⟩ := A4.start w (.int .i64 room) (.slice A n1 c1) (.slice B n2 c2) (.slice C n3 c3) (.int .i64 0) (.slice none 0 0) (.slice none 0 0) (.slice none 0 0) 26 31
  have hl2 : send.length = n2 := h.s.len
  have hcap2 := h.s.cap
  have hmost2 := h.s.most
  have X0 := Lib.hid hX0
  have H := Lib.hid h
  have E0 := Lib.hid hW0
  have h123 := Lib.hid (And.intro h1 (And.intro h2 h3))
  clear hX0 hW0 h h2
  go_enter Try.func10, Try.ntmps10
  go_upto_region 1 with fail
  rw [← E0.out]
  clear E0
  go_cut [3] (fun p wx => ∃ (X : Nat) (A1 : Option Addr) (d1 : Nat) (A2 : Option Addr) (d2 : Nat), p = .pointer (some ⟨X, 0, none⟩) ∧ Hid (Q4 wx X (.int .i64 room) (.slice A1 n1 d1) (.slice none 0 0) (.slice A2 n3 d2)) ∧ Hid (Row wx A1 n1 d1 msgs) ∧ Hid (Row wx A2 n3 d2 recv) ∧ Hid (Nq A1 n1 X) ∧ Hid (Nq A2 n3 X) ∧ Hid (Lo A1 n1 (w.heap.size + 2) ∧ Lo A2 n3 (w.heap.size + 2)) ∧ Hid (A4 w wx (.int .i64 room) (.slice A n1 c1) (.slice B n2 c2) (.slice C n3 c3) (.int .i64 0) (.slice none 0 0) (.slice none 0 0) (.slice none 0 0)) ∧ Hid (w.heap.size + 2 ≤ X))
  case first =>
    go_wp2_with fail
    have XV := Lib.hid X0.out.drew
    refine wp_region_held_drew (S := fun W => Q4 W w.heap.size (.int .i64 room) (.slice A n1 c1) (.slice B n2 c2) (.slice C n3 c3)) (by kernel_rfl) X0.out.p.drew (fun hHeld => ?_)
    clear X0
    generalize W0.drew = V0 at *
    refine wpAnyH_takes (i := 0) (v := (.pointer (some ⟨w.heap.size, 0, none⟩))) (some 5) rfl rfl (by kernel_rfl) (by kernel_rfl) (by kernel_rfl) (fun _ _ _ h => h) (Or.inl ⟨by rfl, (by intro W9 hSw; have s0 := hSw.c0; have s1 := hSw.c1; have s2 := hSw.c2; have s3 := hSw.c3; clear hSw; go_simp; first | done | with_reducible rfl)⟩) (by assumption) ?_
    simp only [Act.put, List.setIfInBounds_toArray, List.set_cons_zero, List.set_cons_succ]
    refine wpAnyH_takes (i := 1) (v := (.int .i64 room)) (some 6) rfl rfl (by kernel_rfl) (by kernel_rfl) (by kernel_rfl) (fun _ _ _ h => h) (Or.inl ⟨by rfl, (by intro W9 hSw; have s0 := hSw.c0; have s1 := hSw.c1; have s2 := hSw.c2; have s3 := hSw.c3; clear hSw; go_simp; first | done | with_reducible rfl)⟩) (by assumption) ?_
    simp only [Act.put, List.setIfInBounds_toArray, List.set_cons_zero, List.set_cons_succ]
    refine wpAnyH_takes (i := 3) (v := (.pointer (some ⟨w.heap.size, 1, none⟩))) (some 8) rfl rfl (by kernel_rfl) (by kernel_rfl) (by kernel_rfl) (fun _ _ _ h => h) (Or.inl ⟨by rfl, (by intro W9 hSw; have s0 := hSw.c0; have s1 := hSw.c1; have s2 := hSw.c2; have s3 := hSw.c3; clear hSw; go_simp; first | done | with_reducible rfl)⟩) (by assumption) ?_
    simp only [Act.put, List.setIfInBounds_toArray, List.set_cons_zero, List.set_cons_succ]
    refine wpAnyH_takes (i := 4) (v := (.slice A n1 c1)) (some 9) rfl rfl (by kernel_rfl) (by kernel_rfl) (by kernel_rfl) (fun _ _ _ h => h) (Or.inl ⟨by rfl, (by intro W9 hSw; have s0 := hSw.c0; have s1 := hSw.c1; have s2 := hSw.c2; have s3 := hSw.c3; clear hSw; go_simp; first | done | with_reducible rfl)⟩) (by assumption) ?_
    simp only [Act.put, List.setIfInBounds_toArray, List.set_cons_zero, List.set_cons_succ]
    refine wpAnyH_takes (i := 7) (v := (.pointer (some ⟨w.heap.size, 3, none⟩))) (some 12) rfl rfl (by kernel_rfl) (by kernel_rfl) (by kernel_rfl) (fun _ _ _ h => h) (Or.inl ⟨by rfl, (by intro W9 hSw; have s0 := hSw.c0; have s1 := hSw.c1; have s2 := hSw.c2; have s3 := hSw.c3; clear hSw; go_simp; first | done | with_reducible rfl)⟩) (by assumption) ?_
    simp only [Act.put, List.setIfInBounds_toArray, List.set_cons_zero, List.set_cons_succ]
    refine wpAnyH_takes (i := 8) (v := (.slice C n3 c3)) (some 13) rfl rfl (by kernel_rfl) (by kernel_rfl) (by kernel_rfl) (fun _ _ _ h => h) (Or.inl ⟨by rfl, (by intro W9 hSw; have s0 := hSw.c0; have s1 := hSw.c1; have s2 := hSw.c2; have s3 := hSw.c3; clear hSw; go_simp; first | done | with_reducible rfl)⟩) (by assumption) ?_
    simp only [Act.put, List.setIfInBounds_toArray, List.set_cons_zero, List.set_cons_succ]
    have hX0 := Lib.hid XV.out.size
    refine wpAnyH_ready (rs := [2, 6, 11]) (by kernel_rfl) (by simp) ?_
    refine AllReadyH.cons rfl (fun K hK => ?_) (AllReadyH.cons rfl (fun K hK => ?_) (AllReadyH.cons rfl (fun K hK => ?_) AllReadyH.nil))
    · skip
      go_simp
      have b0 := below_new V0 (.cells #[] 2)
      have s0 := hsz (W := V0) (.cells #[] 2)
      replace XV := Lib.hid (XV.out.step b0)
      refine hK.out _ _ (hHeld.step b0) (fun hHeld => ?_)
      clear hK K
      try dsimp only
      have S0 := Lib.hid s0
      clear b0 s0
      generalize V0.alloc (.cells #[] 2) = V1 at *
      have hX1 := Lib.hid XV.out.size
      refine wpAnyH_ready (rs := [5, 6, 11]) (by kernel_rfl) (by simp) ?_
      refine AllReadyH.cons rfl (fun K hK => ?_) (AllReadyH.cons rfl (fun K hK => ?_) (AllReadyH.cons rfl (fun K hK => ?_) AllReadyH.nil))
      · skip
        refine step_fresh64 (by rfl) (.tmp 7) (.tmp 9) (by rfl) _ (by rfl) A n1 c1 msgs (by rfl) (H.out.m.below XV.out.below) (by omega) ?_
        intro R1 q1 V2 hr hf hb
        replace XV := Lib.hid (XV.out.step hb)
        have HR1 := Lib.hid hr
        have HF1 := Lib.hid hf
        have S1 := Lib.hid hb.size
        refine hK.out _ _ (hHeld.step hb) (fun hHeld => ?_)
        clear hK K hr hf hb
        try dsimp only
        have hX2 := Lib.hid XV.out.size
        refine wpAnyH_ready (rs := [6, 11]) (by kernel_rfl) (by simp) ?_
        refine AllReadyH.cons rfl (fun K hK => ?_) (AllReadyH.cons rfl (fun K hK => ?_) AllReadyH.nil)
        · skip
          go_simp
          have b2 := below_new V2 (.cells #[] 3)
          have s2 := hsz (W := V2) (.cells #[] 3)
          replace HR1 := Lib.hid (HR1.out.below b2)
          replace XV := Lib.hid (XV.out.step b2)
          refine hK.out _ _ (hHeld.step b2) (fun hHeld => ?_)
          clear hK K
          try dsimp only
          have S2 := Lib.hid s2
          clear b2 s2
          generalize V2.alloc (.cells #[] 3) = V3 at *
          have hX3 := Lib.hid XV.out.size
          refine wpAnyH_ready (rs := [9, 11]) (by kernel_rfl) (by simp) ?_
          refine AllReadyH.cons rfl (fun K hK => ?_) (AllReadyH.cons rfl (fun K hK => ?_) AllReadyH.nil)
          · skip
            refine step_freshI (by rfl) (.tmp 11) (.tmp 13) (by rfl) _ (by rfl) C n3 c3 recv (by rfl) (H.out.r.below XV.out.below) (by omega) ?_
            intro R2 q2 V4 hr hf hb
            replace HR1 := Lib.hid (HR1.out.below hb)
            replace XV := Lib.hid (XV.out.step hb)
            have HR2 := Lib.hid hr
            have HF2 := Lib.hid hf
            have S3 := Lib.hid hb.size
            refine hK.out _ _ (hHeld.step hb) (fun hHeld => ?_)
            clear hK K hr hf hb
            try dsimp only
            refine wpAnyH_takes (i := 10) (v := (.agg #[.int .i64 room, .slice R1 n1 q1, .slice none 0 0, .slice R2 n3 q2])) (some 15) rfl rfl (by kernel_rfl) (by kernel_rfl) (by kernel_rfl) (fun _ _ _ h => h) (Or.inl ⟨by rfl, (by intro W9 hSw; have s0 := hSw.c0; have s1 := hSw.c1; have s2 := hSw.c2; have s3 := hSw.c3; clear hSw; go_simp; first | done | with_reducible rfl)⟩) (by assumption) ?_
            simp only [Act.put, List.setIfInBounds_toArray]
            have hX4 := Lib.hid XV.out.size
            refine wpAnyH_ready (rs := [11]) (by kernel_rfl) (by simp) ?_
            refine AllReadyH.cons rfl (fun K hK => ?_) AllReadyH.nil
            go_simp
            have b4 := below_new V4 (.cells #[.int .i64 0, .slice none 0 0, .slice none 0 0, .slice none 0 0] 31)
            have s4 := hsz (W := V4) (.cells #[.int .i64 0, .slice none 0 0, .slice none 0 0, .slice none 0 0] 31)
            replace HR1 := Lib.hid (HR1.out.below b4)
            replace HR2 := Lib.hid (HR2.out.below b4)
            replace XV := Lib.hid (XV.out.step b4)
            have HQ := Lib.hid (Q4.new V4 (.int .i64 0) (.slice none 0 0) (.slice none 0 0) (.slice none 0 0) 31)
            refine hK.out _ _ (hHeld.step b4) (fun hHeld => ?_)
            clear hK K
            try dsimp only
            have S4 := Lib.hid s4
            clear b4 s4
            generalize V4.alloc (.cells #[.int .i64 0, .slice none 0 0, .slice none 0 0, .slice none 0 0] 31) = V5 at *
            have y0 := HQ.out.c0
            have y1 := HQ.out.c1
            have y2 := HQ.out.c2
            have y3 := HQ.out.c3
            have y4 := HQ.out.f0
            have y5 := HQ.out.f1
            have y6 := HQ.out.f2
            have y7 := HQ.out.f3
            have hX : w.heap.size + 2 ≤ V4.heap.size := hX4.out
            refine wpAnyH_ready (rs := [12]) (by kernel_rfl) (by simp) ?_
            refine AllReadyH.cons rfl (fun K hK => ?_) AllReadyH.nil
            go_simp
            have N1 : Nq R1 n1 V4.heap.size := fun ad e h0 => by have hs0 := S0.out; have hs1 := S1.out; have hs2 := S2.out; have hs3 := S3.out; have hs4 := S4.out; have := HF1.out ad e h0; omega
            have N2 : Nq R2 n3 V4.heap.size := fun ad e h0 => by have hs0 := S0.out; have hs1 := S1.out; have hs2 := S2.out; have hs3 := S3.out; have hs4 := S4.out; have := HF2.out ad e h0; omega
            have HQ9 := Lib.hid (HQ.out.put (.int .i64 room) (.slice R1 n1 q1) (.slice none 0 0) (.slice R2 n3 q2))
            have HR19 := Lib.hid (HR1.out.put4n (x := .int .i64 room) (y := .slice R1 n1 q1) (z := .slice none 0 0) (u := .slice R2 n3 q2) N1)
            have HR29 := Lib.hid (HR2.out.put4n (x := .int .i64 room) (y := .slice R1 n1 q1) (z := .slice none 0 0) (u := .slice R2 n3 q2) N2)
            have HX9 := Lib.hid (A4.elsewhere XV.out hX (.int .i64 room) (.slice R1 n1 q1) (.slice none 0 0) (.slice R2 n3 q2))
            have L1 : Lo R1 n1 (w.heap.size + 2) := fun ad e h0 => by have hs0 := S0.out; have hs1 := S1.out; have hs2 := S2.out; have hs3 := S3.out; have hs4 := S4.out; have h9 := hX0.out; have := HF1.out ad e h0; omega
            have L2 : Lo R2 n3 (w.heap.size + 2) := fun ad e h0 => by have hs0 := S0.out; have hs1 := S1.out; have hs2 := S2.out; have hs3 := S3.out; have hs4 := S4.out; have h9 := hX0.out; have := HF2.out ad e h0; omega
            have HLo := Lib.hid (And.intro L1 L2)
            have HN1 := Lib.hid N1
            have HN2 := Lib.hid N2
            have HX := Lib.hid hX
            refine hK.out _ _ HX9.out.p (fun hHeld => ?_)
            clear hK K y0 y1 y2 y3 y4 y5 y6 y7 N1 N2 L1 L2 hX
            try dsimp only
            refine wpAnyH_done (by kernel_rfl) ?_ _
            go_wp2_with fail
            go_meet
            exact ⟨_, R1, q1, R2, q2, rfl, HQ9, HR19, HR29, HN1, HN2, HLo, HX9, HX⟩
          · skip
            go_simp
            have b3 := below_new V3 (.cells #[.int .i64 0, .slice none 0 0, .slice none 0 0, .slice none 0 0] 31)
            have s3 := hsz (W := V3) (.cells #[.int .i64 0, .slice none 0 0, .slice none 0 0, .slice none 0 0] 31)
            replace HR1 := Lib.hid (HR1.out.below b3)
            replace XV := Lib.hid (XV.out.step b3)
            have HQ := Lib.hid (Q4.new V3 (.int .i64 0) (.slice none 0 0) (.slice none 0 0) (.slice none 0 0) 31)
            refine hK.out _ _ (hHeld.step b3) (fun hHeld => ?_)
            clear hK K
            try dsimp only
            have S3 := Lib.hid s3
            clear b3 s3
            generalize V3.alloc (.cells #[.int .i64 0, .slice none 0 0, .slice none 0 0, .slice none 0 0] 31) = V4 at *
            have hX4 := Lib.hid XV.out.size
            refine wpAnyH_ready (rs := [9]) (by kernel_rfl) (by simp) ?_
            refine AllReadyH.cons rfl (fun K hK => ?_) AllReadyH.nil
            refine step_freshI (by rfl) (.tmp 11) (.tmp 13) (by rfl) _ (by rfl) C n3 c3 recv (by rfl) (H.out.r.below XV.out.below) (by omega) ?_
            intro R2 q2 V5 hr hf hb
            replace HQ := Lib.hid (HQ.out.step hb)
            replace HR1 := Lib.hid (HR1.out.below hb)
            replace XV := Lib.hid (XV.out.step hb)
            have HR2 := Lib.hid hr
            have HF2 := Lib.hid hf
            have S4 := Lib.hid hb.size
            refine hK.out _ _ (hHeld.step hb) (fun hHeld => ?_)
            clear hK K hr hf hb
            try dsimp only
            refine wpAnyH_takes (i := 10) (v := (.agg #[.int .i64 room, .slice R1 n1 q1, .slice none 0 0, .slice R2 n3 q2])) (some 15) rfl rfl (by kernel_rfl) (by kernel_rfl) (by kernel_rfl) (fun _ _ _ h => h) (Or.inl ⟨by rfl, (by intro W9 hSw; have s0 := hSw.c0; have s1 := hSw.c1; have s2 := hSw.c2; have s3 := hSw.c3; clear hSw; go_simp; first | done | with_reducible rfl)⟩) (by assumption) ?_
            simp only [Act.put, List.setIfInBounds_toArray]
            have y0 := HQ.out.c0
            have y1 := HQ.out.c1
            have y2 := HQ.out.c2
            have y3 := HQ.out.c3
            have y4 := HQ.out.f0
            have y5 := HQ.out.f1
            have y6 := HQ.out.f2
            have y7 := HQ.out.f3
            have hX : w.heap.size + 2 ≤ V3.heap.size := hX3.out
            refine wpAnyH_ready (rs := [12]) (by kernel_rfl) (by simp) ?_
            refine AllReadyH.cons rfl (fun K hK => ?_) AllReadyH.nil
            go_simp
            have N1 : Nq R1 n1 V3.heap.size := fun ad e h0 => by have hs0 := S0.out; have hs1 := S1.out; have hs2 := S2.out; have hs3 := S3.out; have hs4 := S4.out; have := HF1.out ad e h0; omega
            have N2 : Nq R2 n3 V3.heap.size := fun ad e h0 => by have hs0 := S0.out; have hs1 := S1.out; have hs2 := S2.out; have hs3 := S3.out; have hs4 := S4.out; have := HF2.out ad e h0; omega
            have HQ9 := Lib.hid (HQ.out.put (.int .i64 room) (.slice R1 n1 q1) (.slice none 0 0) (.slice R2 n3 q2))
            have HR19 := Lib.hid (HR1.out.put4n (x := .int .i64 room) (y := .slice R1 n1 q1) (z := .slice none 0 0) (u := .slice R2 n3 q2) N1)
            have HR29 := Lib.hid (HR2.out.put4n (x := .int .i64 room) (y := .slice R1 n1 q1) (z := .slice none 0 0) (u := .slice R2 n3 q2) N2)
            have HX9 := Lib.hid (A4.elsewhere XV.out hX (.int .i64 room) (.slice R1 n1 q1) (.slice none 0 0) (.slice R2 n3 q2))
            have L1 : Lo R1 n1 (w.heap.size + 2) := fun ad e h0 => by have hs0 := S0.out; have hs1 := S1.out; have hs2 := S2.out; have hs3 := S3.out; have hs4 := S4.out; have h9 := hX0.out; have := HF1.out ad e h0; omega
            have L2 : Lo R2 n3 (w.heap.size + 2) := fun ad e h0 => by have hs0 := S0.out; have hs1 := S1.out; have hs2 := S2.out; have hs3 := S3.out; have hs4 := S4.out; have h9 := hX0.out; have := HF2.out ad e h0; omega
            have HLo := Lib.hid (And.intro L1 L2)
            have HN1 := Lib.hid N1
            have HN2 := Lib.hid N2
            have HX := Lib.hid hX
            refine hK.out _ _ HX9.out.p (fun hHeld => ?_)
            clear hK K y0 y1 y2 y3 y4 y5 y6 y7 N1 N2 L1 L2 hX
            try dsimp only
            refine wpAnyH_done (by kernel_rfl) ?_ _
            go_wp2_with fail
            go_meet
            exact ⟨_, R1, q1, R2, q2, rfl, HQ9, HR19, HR29, HN1, HN2, HLo, HX9, HX⟩
        · skip
          go_simp
          have b2 := below_new V2 (.cells #[.int .i64 0, .slice none 0 0, .slice none 0 0, .slice none 0 0] 31)
          have s2 := hsz (W := V2) (.cells #[.int .i64 0, .slice none 0 0, .slice none 0 0, .slice none 0 0] 31)
          replace HR1 := Lib.hid (HR1.out.below b2)
          replace XV := Lib.hid (XV.out.step b2)
          have HQ := Lib.hid (Q4.new V2 (.int .i64 0) (.slice none 0 0) (.slice none 0 0) (.slice none 0 0) 31)
          refine hK.out _ _ (hHeld.step b2) (fun hHeld => ?_)
          clear hK K
          try dsimp only
          have S2 := Lib.hid s2
          clear b2 s2
          generalize V2.alloc (.cells #[.int .i64 0, .slice none 0 0, .slice none 0 0, .slice none 0 0] 31) = V3 at *
          have hX3 := Lib.hid XV.out.size
          refine wpAnyH_ready (rs := [6]) (by kernel_rfl) (by simp) ?_
          refine AllReadyH.cons rfl (fun K hK => ?_) AllReadyH.nil
          go_simp
          have b3 := below_new V3 (.cells #[] 3)
          have s3 := hsz (W := V3) (.cells #[] 3)
          replace HQ := Lib.hid (HQ.out.step b3)
          replace HR1 := Lib.hid (HR1.out.below b3)
          replace XV := Lib.hid (XV.out.step b3)
          refine hK.out _ _ (hHeld.step b3) (fun hHeld => ?_)
          clear hK K
          try dsimp only
          have S3 := Lib.hid s3
          clear b3 s3
          generalize V3.alloc (.cells #[] 3) = V4 at *
          have hX4 := Lib.hid XV.out.size
          refine wpAnyH_ready (rs := [9]) (by kernel_rfl) (by simp) ?_
          refine AllReadyH.cons rfl (fun K hK => ?_) AllReadyH.nil
          refine step_freshI (by rfl) (.tmp 11) (.tmp 13) (by rfl) _ (by rfl) C n3 c3 recv (by rfl) (H.out.r.below XV.out.below) (by omega) ?_
          intro R2 q2 V5 hr hf hb
          replace HQ := Lib.hid (HQ.out.step hb)
          replace HR1 := Lib.hid (HR1.out.below hb)
          replace XV := Lib.hid (XV.out.step hb)
          have HR2 := Lib.hid hr
          have HF2 := Lib.hid hf
          have S4 := Lib.hid hb.size
          refine hK.out _ _ (hHeld.step hb) (fun hHeld => ?_)
          clear hK K hr hf hb
          try dsimp only
          refine wpAnyH_takes (i := 10) (v := (.agg #[.int .i64 room, .slice R1 n1 q1, .slice none 0 0, .slice R2 n3 q2])) (some 15) rfl rfl (by kernel_rfl) (by kernel_rfl) (by kernel_rfl) (fun _ _ _ h => h) (Or.inl ⟨by rfl, (by intro W9 hSw; have s0 := hSw.c0; have s1 := hSw.c1; have s2 := hSw.c2; have s3 := hSw.c3; clear hSw; go_simp; first | done | with_reducible rfl)⟩) (by assumption) ?_
          simp only [Act.put, List.setIfInBounds_toArray]
          have y0 := HQ.out.c0
          have y1 := HQ.out.c1
          have y2 := HQ.out.c2
          have y3 := HQ.out.c3
          have y4 := HQ.out.f0
          have y5 := HQ.out.f1
          have y6 := HQ.out.f2
          have y7 := HQ.out.f3
          have hX : w.heap.size + 2 ≤ V2.heap.size := hX2.out
          refine wpAnyH_ready (rs := [12]) (by kernel_rfl) (by simp) ?_
          refine AllReadyH.cons rfl (fun K hK => ?_) AllReadyH.nil
          go_simp
          have N1 : Nq R1 n1 V2.heap.size := fun ad e h0 => by have hs0 := S0.out; have hs1 := S1.out; have hs2 := S2.out; have hs3 := S3.out; have hs4 := S4.out; have := HF1.out ad e h0; omega
          have N2 : Nq R2 n3 V2.heap.size := fun ad e h0 => by have hs0 := S0.out; have hs1 := S1.out; have hs2 := S2.out; have hs3 := S3.out; have hs4 := S4.out; have := HF2.out ad e h0; omega
          have HQ9 := Lib.hid (HQ.out.put (.int .i64 room) (.slice R1 n1 q1) (.slice none 0 0) (.slice R2 n3 q2))
          have HR19 := Lib.hid (HR1.out.put4n (x := .int .i64 room) (y := .slice R1 n1 q1) (z := .slice none 0 0) (u := .slice R2 n3 q2) N1)
          have HR29 := Lib.hid (HR2.out.put4n (x := .int .i64 room) (y := .slice R1 n1 q1) (z := .slice none 0 0) (u := .slice R2 n3 q2) N2)
          have HX9 := Lib.hid (A4.elsewhere XV.out hX (.int .i64 room) (.slice R1 n1 q1) (.slice none 0 0) (.slice R2 n3 q2))
          have L1 : Lo R1 n1 (w.heap.size + 2) := fun ad e h0 => by have hs0 := S0.out; have hs1 := S1.out; have hs2 := S2.out; have hs3 := S3.out; have hs4 := S4.out; have h9 := hX0.out; have := HF1.out ad e h0; omega
          have L2 : Lo R2 n3 (w.heap.size + 2) := fun ad e h0 => by have hs0 := S0.out; have hs1 := S1.out; have hs2 := S2.out; have hs3 := S3.out; have hs4 := S4.out; have h9 := hX0.out; have := HF2.out ad e h0; omega
          have HLo := Lib.hid (And.intro L1 L2)
          have HN1 := Lib.hid N1
          have HN2 := Lib.hid N2
          have HX := Lib.hid hX
          refine hK.out _ _ HX9.out.p (fun hHeld => ?_)
          clear hK K y0 y1 y2 y3 y4 y5 y6 y7 N1 N2 L1 L2 hX
          try dsimp only
          refine wpAnyH_done (by kernel_rfl) ?_ _
          go_wp2_with fail
          go_meet
          exact ⟨_, R1, q1, R2, q2, rfl, HQ9, HR19, HR29, HN1, HN2, HLo, HX9, HX⟩
      · skip
        go_simp
        have b1 := below_new V1 (.cells #[] 3)
        have s1 := hsz (W := V1) (.cells #[] 3)
        replace XV := Lib.hid (XV.out.step b1)
        refine hK.out _ _ (hHeld.step b1) (fun hHeld => ?_)
        clear hK K
        try dsimp only
        have S1 := Lib.hid s1
        clear b1 s1
        generalize V1.alloc (.cells #[] 3) = V2 at *
        have hX2 := Lib.hid XV.out.size
        refine wpAnyH_ready (rs := [5, 11]) (by kernel_rfl) (by simp) ?_
        refine AllReadyH.cons rfl (fun K hK => ?_) (AllReadyH.cons rfl (fun K hK => ?_) AllReadyH.nil)
        · skip
          refine step_fresh64 (by rfl) (.tmp 7) (.tmp 9) (by rfl) _ (by rfl) A n1 c1 msgs (by rfl) (H.out.m.below XV.out.below) (by omega) ?_
          intro R1 q1 V3 hr hf hb
          replace XV := Lib.hid (XV.out.step hb)
          have HR1 := Lib.hid hr
          have HF1 := Lib.hid hf
          have S2 := Lib.hid hb.size
          refine hK.out _ _ (hHeld.step hb) (fun hHeld => ?_)
          clear hK K hr hf hb
          try dsimp only
          have hX3 := Lib.hid XV.out.size
          refine wpAnyH_ready (rs := [9, 11]) (by kernel_rfl) (by simp) ?_
          refine AllReadyH.cons rfl (fun K hK => ?_) (AllReadyH.cons rfl (fun K hK => ?_) AllReadyH.nil)
          · skip
            refine step_freshI (by rfl) (.tmp 11) (.tmp 13) (by rfl) _ (by rfl) C n3 c3 recv (by rfl) (H.out.r.below XV.out.below) (by omega) ?_
            intro R2 q2 V4 hr hf hb
            replace HR1 := Lib.hid (HR1.out.below hb)
            replace XV := Lib.hid (XV.out.step hb)
            have HR2 := Lib.hid hr
            have HF2 := Lib.hid hf
            have S3 := Lib.hid hb.size
            refine hK.out _ _ (hHeld.step hb) (fun hHeld => ?_)
            clear hK K hr hf hb
            try dsimp only
            refine wpAnyH_takes (i := 10) (v := (.agg #[.int .i64 room, .slice R1 n1 q1, .slice none 0 0, .slice R2 n3 q2])) (some 15) rfl rfl (by kernel_rfl) (by kernel_rfl) (by kernel_rfl) (fun _ _ _ h => h) (Or.inl ⟨by rfl, (by intro W9 hSw; have s0 := hSw.c0; have s1 := hSw.c1; have s2 := hSw.c2; have s3 := hSw.c3; clear hSw; go_simp; first | done | with_reducible rfl)⟩) (by assumption) ?_
            simp only [Act.put, List.setIfInBounds_toArray]
            have hX4 := Lib.hid XV.out.size
            refine wpAnyH_ready (rs := [11]) (by kernel_rfl) (by simp) ?_
            refine AllReadyH.cons rfl (fun K hK => ?_) AllReadyH.nil
            go_simp
            have b4 := below_new V4 (.cells #[.int .i64 0, .slice none 0 0, .slice none 0 0, .slice none 0 0] 31)
            have s4 := hsz (W := V4) (.cells #[.int .i64 0, .slice none 0 0, .slice none 0 0, .slice none 0 0] 31)
            replace HR1 := Lib.hid (HR1.out.below b4)
            replace HR2 := Lib.hid (HR2.out.below b4)
            replace XV := Lib.hid (XV.out.step b4)
            have HQ := Lib.hid (Q4.new V4 (.int .i64 0) (.slice none 0 0) (.slice none 0 0) (.slice none 0 0) 31)
            refine hK.out _ _ (hHeld.step b4) (fun hHeld => ?_)
            clear hK K
            try dsimp only
            have S4 := Lib.hid s4
            clear b4 s4
            generalize V4.alloc (.cells #[.int .i64 0, .slice none 0 0, .slice none 0 0, .slice none 0 0] 31) = V5 at *
            have y0 := HQ.out.c0
            have y1 := HQ.out.c1
            have y2 := HQ.out.c2
            have y3 := HQ.out.c3
            have y4 := HQ.out.f0
            have y5 := HQ.out.f1
            have y6 := HQ.out.f2
            have y7 := HQ.out.f3
            have hX : w.heap.size + 2 ≤ V4.heap.size := hX4.out
            refine wpAnyH_ready (rs := [12]) (by kernel_rfl) (by simp) ?_
            refine AllReadyH.cons rfl (fun K hK => ?_) AllReadyH.nil
            go_simp
            have N1 : Nq R1 n1 V4.heap.size := fun ad e h0 => by have hs0 := S0.out; have hs1 := S1.out; have hs2 := S2.out; have hs3 := S3.out; have hs4 := S4.out; have := HF1.out ad e h0; omega
            have N2 : Nq R2 n3 V4.heap.size := fun ad e h0 => by have hs0 := S0.out; have hs1 := S1.out; have hs2 := S2.out; have hs3 := S3.out; have hs4 := S4.out; have := HF2.out ad e h0; omega
            have HQ9 := Lib.hid (HQ.out.put (.int .i64 room) (.slice R1 n1 q1) (.slice none 0 0) (.slice R2 n3 q2))
            have HR19 := Lib.hid (HR1.out.put4n (x := .int .i64 room) (y := .slice R1 n1 q1) (z := .slice none 0 0) (u := .slice R2 n3 q2) N1)
            have HR29 := Lib.hid (HR2.out.put4n (x := .int .i64 room) (y := .slice R1 n1 q1) (z := .slice none 0 0) (u := .slice R2 n3 q2) N2)
            have HX9 := Lib.hid (A4.elsewhere XV.out hX (.int .i64 room) (.slice R1 n1 q1) (.slice none 0 0) (.slice R2 n3 q2))
            have L1 : Lo R1 n1 (w.heap.size + 2) := fun ad e h0 => by have hs0 := S0.out; have hs1 := S1.out; have hs2 := S2.out; have hs3 := S3.out; have hs4 := S4.out; have h9 := hX0.out; have := HF1.out ad e h0; omega
            have L2 : Lo R2 n3 (w.heap.size + 2) := fun ad e h0 => by have hs0 := S0.out; have hs1 := S1.out; have hs2 := S2.out; have hs3 := S3.out; have hs4 := S4.out; have h9 := hX0.out; have := HF2.out ad e h0; omega
            have HLo := Lib.hid (And.intro L1 L2)
            have HN1 := Lib.hid N1
            have HN2 := Lib.hid N2
            have HX := Lib.hid hX
            refine hK.out _ _ HX9.out.p (fun hHeld => ?_)
            clear hK K y0 y1 y2 y3 y4 y5 y6 y7 N1 N2 L1 L2 hX
            try dsimp only
            refine wpAnyH_done (by kernel_rfl) ?_ _
            go_wp2_with fail
            go_meet
            exact ⟨_, R1, q1, R2, q2, rfl, HQ9, HR19, HR29, HN1, HN2, HLo, HX9, HX⟩
          · skip
            go_simp
            have b3 := below_new V3 (.cells #[.int .i64 0, .slice none 0 0, .slice none 0 0, .slice none 0 0] 31)
            have s3 := hsz (W := V3) (.cells #[.int .i64 0, .slice none 0 0, .slice none 0 0, .slice none 0 0] 31)
            replace HR1 := Lib.hid (HR1.out.below b3)
            replace XV := Lib.hid (XV.out.step b3)
            have HQ := Lib.hid (Q4.new V3 (.int .i64 0) (.slice none 0 0) (.slice none 0 0) (.slice none 0 0) 31)
            refine hK.out _ _ (hHeld.step b3) (fun hHeld => ?_)
            clear hK K
            try dsimp only
            have S3 := Lib.hid s3
            clear b3 s3
            generalize V3.alloc (.cells #[.int .i64 0, .slice none 0 0, .slice none 0 0, .slice none 0 0] 31) = V4 at *
            have hX4 := Lib.hid XV.out.size
            refine wpAnyH_ready (rs := [9]) (by kernel_rfl) (by simp) ?_
            refine AllReadyH.cons rfl (fun K hK => ?_) AllReadyH.nil
            refine step_freshI (by rfl) (.tmp 11) (.tmp 13) (by rfl) _ (by rfl) C n3 c3 recv (by rfl) (H.out.r.below XV.out.below) (by omega) ?_
            intro R2 q2 V5 hr hf hb
            replace HQ := Lib.hid (HQ.out.step hb)
            replace HR1 := Lib.hid (HR1.out.below hb)
            replace XV := Lib.hid (XV.out.step hb)
            have HR2 := Lib.hid hr
            have HF2 := Lib.hid hf
            have S4 := Lib.hid hb.size
            refine hK.out _ _ (hHeld.step hb) (fun hHeld => ?_)
            clear hK K hr hf hb
            try dsimp only
            refine wpAnyH_takes (i := 10) (v := (.agg #[.int .i64 room, .slice R1 n1 q1, .slice none 0 0, .slice R2 n3 q2])) (some 15) rfl rfl (by kernel_rfl) (by kernel_rfl) (by kernel_rfl) (fun _ _ _ h => h) (Or.inl ⟨by rfl, (by intro W9 hSw; have s0 := hSw.c0; have s1 := hSw.c1; have s2 := hSw.c2; have s3 := hSw.c3; clear hSw; go_simp; first | done | with_reducible rfl)⟩) (by assumption) ?_
            simp only [Act.put, List.setIfInBounds_toArray]
            have y0 := HQ.out.c0
            have y1 := HQ.out.c1
            have y2 := HQ.out.c2
            have y3 := HQ.out.c3
            have y4 := HQ.out.f0
            have y5 := HQ.out.f1
            have y6 := HQ.out.f2
            have y7 := HQ.out.f3
            have hX : w.heap.size + 2 ≤ V3.heap.size := hX3.out
            refine wpAnyH_ready (rs := [12]) (by kernel_rfl) (by simp) ?_
            refine AllReadyH.cons rfl (fun K hK => ?_) AllReadyH.nil
            go_simp
            have N1 : Nq R1 n1 V3.heap.size := fun ad e h0 => by have hs0 := S0.out; have hs1 := S1.out; have hs2 := S2.out; have hs3 := S3.out; have hs4 := S4.out; have := HF1.out ad e h0; omega
            have N2 : Nq R2 n3 V3.heap.size := fun ad e h0 => by have hs0 := S0.out; have hs1 := S1.out; have hs2 := S2.out; have hs3 := S3.out; have hs4 := S4.out; have := HF2.out ad e h0; omega
            have HQ9 := Lib.hid (HQ.out.put (.int .i64 room) (.slice R1 n1 q1) (.slice none 0 0) (.slice R2 n3 q2))
            have HR19 := Lib.hid (HR1.out.put4n (x := .int .i64 room) (y := .slice R1 n1 q1) (z := .slice none 0 0) (u := .slice R2 n3 q2) N1)
            have HR29 := Lib.hid (HR2.out.put4n (x := .int .i64 room) (y := .slice R1 n1 q1) (z := .slice none 0 0) (u := .slice R2 n3 q2) N2)
            have HX9 := Lib.hid (A4.elsewhere XV.out hX (.int .i64 room) (.slice R1 n1 q1) (.slice none 0 0) (.slice R2 n3 q2))
            have L1 : Lo R1 n1 (w.heap.size + 2) := fun ad e h0 => by have hs0 := S0.out; have hs1 := S1.out; have hs2 := S2.out; have hs3 := S3.out; have hs4 := S4.out; have h9 := hX0.out; have := HF1.out ad e h0; omega
            have L2 : Lo R2 n3 (w.heap.size + 2) := fun ad e h0 => by have hs0 := S0.out; have hs1 := S1.out; have hs2 := S2.out; have hs3 := S3.out; have hs4 := S4.out; have h9 := hX0.out; have := HF2.out ad e h0; omega
            have HLo := Lib.hid (And.intro L1 L2)
            have HN1 := Lib.hid N1
            have HN2 := Lib.hid N2
            have HX := Lib.hid hX
            refine hK.out _ _ HX9.out.p (fun hHeld => ?_)
            clear hK K y0 y1 y2 y3 y4 y5 y6 y7 N1 N2 L1 L2 hX
            try dsimp only
            refine wpAnyH_done (by kernel_rfl) ?_ _
            go_wp2_with fail
            go_meet
            exact ⟨_, R1, q1, R2, q2, rfl, HQ9, HR19, HR29, HN1, HN2, HLo, HX9, HX⟩
        · skip
          go_simp
          have b2 := below_new V2 (.cells #[.int .i64 0, .slice none 0 0, .slice none 0 0, .slice none 0 0] 31)
          have s2 := hsz (W := V2) (.cells #[.int .i64 0, .slice none 0 0, .slice none 0 0, .slice none 0 0] 31)
          replace XV := Lib.hid (XV.out.step b2)
          have HQ := Lib.hid (Q4.new V2 (.int .i64 0) (.slice none 0 0) (.slice none 0 0) (.slice none 0 0) 31)
          refine hK.out _ _ (hHeld.step b2) (fun hHeld => ?_)
          clear hK K
          try dsimp only
          have S2 := Lib.hid s2
          clear b2 s2
          generalize V2.alloc (.cells #[.int .i64 0, .slice none 0 0, .slice none 0 0, .slice none 0 0] 31) = V3 at *
          have hX3 := Lib.hid XV.out.size
          refine wpAnyH_ready (rs := [5]) (by kernel_rfl) (by simp) ?_
          refine AllReadyH.cons rfl (fun K hK => ?_) AllReadyH.nil
          refine step_fresh64 (by rfl) (.tmp 7) (.tmp 9) (by rfl) _ (by rfl) A n1 c1 msgs (by rfl) (H.out.m.below XV.out.below) (by omega) ?_
          intro R1 q1 V4 hr hf hb
          replace HQ := Lib.hid (HQ.out.step hb)
          replace XV := Lib.hid (XV.out.step hb)
          have HR1 := Lib.hid hr
          have HF1 := Lib.hid hf
          have S3 := Lib.hid hb.size
          refine hK.out _ _ (hHeld.step hb) (fun hHeld => ?_)
          clear hK K hr hf hb
          try dsimp only
          have hX4 := Lib.hid XV.out.size
          refine wpAnyH_ready (rs := [9]) (by kernel_rfl) (by simp) ?_
          refine AllReadyH.cons rfl (fun K hK => ?_) AllReadyH.nil
          refine step_freshI (by rfl) (.tmp 11) (.tmp 13) (by rfl) _ (by rfl) C n3 c3 recv (by rfl) (H.out.r.below XV.out.below) (by omega) ?_
          intro R2 q2 V5 hr hf hb
          replace HQ := Lib.hid (HQ.out.step hb)
          replace HR1 := Lib.hid (HR1.out.below hb)
          replace XV := Lib.hid (XV.out.step hb)
          have HR2 := Lib.hid hr
          have HF2 := Lib.hid hf
          have S4 := Lib.hid hb.size
          refine hK.out _ _ (hHeld.step hb) (fun hHeld => ?_)
          clear hK K hr hf hb
          try dsimp only
          refine wpAnyH_takes (i := 10) (v := (.agg #[.int .i64 room, .slice R1 n1 q1, .slice none 0 0, .slice R2 n3 q2])) (some 15) rfl rfl (by kernel_rfl) (by kernel_rfl) (by kernel_rfl) (fun _ _ _ h => h) (Or.inl ⟨by rfl, (by intro W9 hSw; have s0 := hSw.c0; have s1 := hSw.c1; have s2 := hSw.c2; have s3 := hSw.c3; clear hSw; go_simp; first | done | with_reducible rfl)⟩) (by assumption) ?_
          simp only [Act.put, List.setIfInBounds_toArray]
          have y0 := HQ.out.c0
          have y1 := HQ.out.c1
          have y2 := HQ.out.c2
          have y3 := HQ.out.c3
          have y4 := HQ.out.f0
          have y5 := HQ.out.f1
          have y6 := HQ.out.f2
          have y7 := HQ.out.f3
          have hX : w.heap.size + 2 ≤ V2.heap.size := hX2.out
          refine wpAnyH_ready (rs := [12]) (by kernel_rfl) (by simp) ?_
          refine AllReadyH.cons rfl (fun K hK => ?_) AllReadyH.nil
          go_simp
          have N1 : Nq R1 n1 V2.heap.size := fun ad e h0 => by have hs0 := S0.out; have hs1 := S1.out; have hs2 := S2.out; have hs3 := S3.out; have hs4 := S4.out; have := HF1.out ad e h0; omega
          have N2 : Nq R2 n3 V2.heap.size := fun ad e h0 => by have hs0 := S0.out; have hs1 := S1.out; have hs2 := S2.out; have hs3 := S3.out; have hs4 := S4.out; have := HF2.out ad e h0; omega
          have HQ9 := Lib.hid (HQ.out.put (.int .i64 room) (.slice R1 n1 q1) (.slice none 0 0) (.slice R2 n3 q2))
          have HR19 := Lib.hid (HR1.out.put4n (x := .int .i64 room) (y := .slice R1 n1 q1) (z := .slice none 0 0) (u := .slice R2 n3 q2) N1)
          have HR29 := Lib.hid (HR2.out.put4n (x := .int .i64 room) (y := .slice R1 n1 q1) (z := .slice none 0 0) (u := .slice R2 n3 q2) N2)
          have HX9 := Lib.hid (A4.elsewhere XV.out hX (.int .i64 room) (.slice R1 n1 q1) (.slice none 0 0) (.slice R2 n3 q2))
          have L1 : Lo R1 n1 (w.heap.size + 2) := fun ad e h0 => by have hs0 := S0.out; have hs1 := S1.out; have hs2 := S2.out; have hs3 := S3.out; have hs4 := S4.out; have h9 := hX0.out; have := HF1.out ad e h0; omega
          have L2 : Lo R2 n3 (w.heap.size + 2) := fun ad e h0 => by have hs0 := S0.out; have hs1 := S1.out; have hs2 := S2.out; have hs3 := S3.out; have hs4 := S4.out; have h9 := hX0.out; have := HF2.out ad e h0; omega
          have HLo := Lib.hid (And.intro L1 L2)
          have HN1 := Lib.hid N1
          have HN2 := Lib.hid N2
          have HX := Lib.hid hX
          refine hK.out _ _ HX9.out.p (fun hHeld => ?_)
          clear hK K y0 y1 y2 y3 y4 y5 y6 y7 N1 N2 L1 L2 hX
          try dsimp only
          refine wpAnyH_done (by kernel_rfl) ?_ _
          go_wp2_with fail
          go_meet
          exact ⟨_, R1, q1, R2, q2, rfl, HQ9, HR19, HR29, HN1, HN2, HLo, HX9, HX⟩
      · skip
        go_simp
        have b1 := below_new V1 (.cells #[.int .i64 0, .slice none 0 0, .slice none 0 0, .slice none 0 0] 31)
        have s1 := hsz (W := V1) (.cells #[.int .i64 0, .slice none 0 0, .slice none 0 0, .slice none 0 0] 31)
        replace XV := Lib.hid (XV.out.step b1)
        have HQ := Lib.hid (Q4.new V1 (.int .i64 0) (.slice none 0 0) (.slice none 0 0) (.slice none 0 0) 31)
        refine hK.out _ _ (hHeld.step b1) (fun hHeld => ?_)
        clear hK K
        try dsimp only
        have S1 := Lib.hid s1
        clear b1 s1
        generalize V1.alloc (.cells #[.int .i64 0, .slice none 0 0, .slice none 0 0, .slice none 0 0] 31) = V2 at *
        have hX2 := Lib.hid XV.out.size
        refine wpAnyH_ready (rs := [5, 6]) (by kernel_rfl) (by simp) ?_
        refine AllReadyH.cons rfl (fun K hK => ?_) (AllReadyH.cons rfl (fun K hK => ?_) AllReadyH.nil)
        · skip
          refine step_fresh64 (by rfl) (.tmp 7) (.tmp 9) (by rfl) _ (by rfl) A n1 c1 msgs (by rfl) (H.out.m.below XV.out.below) (by omega) ?_
          intro R1 q1 V3 hr hf hb
          replace HQ := Lib.hid (HQ.out.step hb)
          replace XV := Lib.hid (XV.out.step hb)
          have HR1 := Lib.hid hr
          have HF1 := Lib.hid hf
          have S2 := Lib.hid hb.size
          refine hK.out _ _ (hHeld.step hb) (fun hHeld => ?_)
          clear hK K hr hf hb
          try dsimp only
          have hX3 := Lib.hid XV.out.size
          refine wpAnyH_ready (rs := [6]) (by kernel_rfl) (by simp) ?_
          refine AllReadyH.cons rfl (fun K hK => ?_) AllReadyH.nil
          go_simp
          have b3 := below_new V3 (.cells #[] 3)
          have s3 := hsz (W := V3) (.cells #[] 3)
          replace HQ := Lib.hid (HQ.out.step b3)
          replace HR1 := Lib.hid (HR1.out.below b3)
          replace XV := Lib.hid (XV.out.step b3)
          refine hK.out _ _ (hHeld.step b3) (fun hHeld => ?_)
          clear hK K
          try dsimp only
          have S3 := Lib.hid s3
          clear b3 s3
          generalize V3.alloc (.cells #[] 3) = V4 at *
          have hX4 := Lib.hid XV.out.size
          refine wpAnyH_ready (rs := [9]) (by kernel_rfl) (by simp) ?_
          refine AllReadyH.cons rfl (fun K hK => ?_) AllReadyH.nil
          refine step_freshI (by rfl) (.tmp 11) (.tmp 13) (by rfl) _ (by rfl) C n3 c3 recv (by rfl) (H.out.r.below XV.out.below) (by omega) ?_
          intro R2 q2 V5 hr hf hb
          replace HQ := Lib.hid (HQ.out.step hb)
          replace HR1 := Lib.hid (HR1.out.below hb)
          replace XV := Lib.hid (XV.out.step hb)
          have HR2 := Lib.hid hr
          have HF2 := Lib.hid hf
          have S4 := Lib.hid hb.size
          refine hK.out _ _ (hHeld.step hb) (fun hHeld => ?_)
          clear hK K hr hf hb
          try dsimp only
          refine wpAnyH_takes (i := 10) (v := (.agg #[.int .i64 room, .slice R1 n1 q1, .slice none 0 0, .slice R2 n3 q2])) (some 15) rfl rfl (by kernel_rfl) (by kernel_rfl) (by kernel_rfl) (fun _ _ _ h => h) (Or.inl ⟨by rfl, (by intro W9 hSw; have s0 := hSw.c0; have s1 := hSw.c1; have s2 := hSw.c2; have s3 := hSw.c3; clear hSw; go_simp; first | done | with_reducible rfl)⟩) (by assumption) ?_
          simp only [Act.put, List.setIfInBounds_toArray]
          have y0 := HQ.out.c0
          have y1 := HQ.out.c1
          have y2 := HQ.out.c2
          have y3 := HQ.out.c3
          have y4 := HQ.out.f0
          have y5 := HQ.out.f1
          have y6 := HQ.out.f2
          have y7 := HQ.out.f3
          have hX : w.heap.size + 2 ≤ V1.heap.size := hX1.out
          refine wpAnyH_ready (rs := [12]) (by kernel_rfl) (by simp) ?_
          refine AllReadyH.cons rfl (fun K hK => ?_) AllReadyH.nil
          go_simp
          have N1 : Nq R1 n1 V1.heap.size := fun ad e h0 => by have hs0 := S0.out; have hs1 := S1.out; have hs2 := S2.out; have hs3 := S3.out; have hs4 := S4.out; have := HF1.out ad e h0; omega
          have N2 : Nq R2 n3 V1.heap.size := fun ad e h0 => by have hs0 := S0.out; have hs1 := S1.out; have hs2 := S2.out; have hs3 := S3.out; have hs4 := S4.out; have := HF2.out ad e h0; omega
          have HQ9 := Lib.hid (HQ.out.put (.int .i64 room) (.slice R1 n1 q1) (.slice none 0 0) (.slice R2 n3 q2))
          have HR19 := Lib.hid (HR1.out.put4n (x := .int .i64 room) (y := .slice R1 n1 q1) (z := .slice none 0 0) (u := .slice R2 n3 q2) N1)
          have HR29 := Lib.hid (HR2.out.put4n (x := .int .i64 room) (y := .slice R1 n1 q1) (z := .slice none 0 0) (u := .slice R2 n3 q2) N2)
          have HX9 := Lib.hid (A4.elsewhere XV.out hX (.int .i64 room) (.slice R1 n1 q1) (.slice none 0 0) (.slice R2 n3 q2))
          have L1 : Lo R1 n1 (w.heap.size + 2) := fun ad e h0 => by have hs0 := S0.out; have hs1 := S1.out; have hs2 := S2.out; have hs3 := S3.out; have hs4 := S4.out; have h9 := hX0.out; have := HF1.out ad e h0; omega
          have L2 : Lo R2 n3 (w.heap.size + 2) := fun ad e h0 => by have hs0 := S0.out; have hs1 := S1.out; have hs2 := S2.out; have hs3 := S3.out; have hs4 := S4.out; have h9 := hX0.out; have := HF2.out ad e h0; omega
          have HLo := Lib.hid (And.intro L1 L2)
          have HN1 := Lib.hid N1
          have HN2 := Lib.hid N2
          have HX := Lib.hid hX
          refine hK.out _ _ HX9.out.p (fun hHeld => ?_)
          clear hK K y0 y1 y2 y3 y4 y5 y6 y7 N1 N2 L1 L2 hX
          try dsimp only
          refine wpAnyH_done (by kernel_rfl) ?_ _
          go_wp2_with fail
          go_meet
          exact ⟨_, R1, q1, R2, q2, rfl, HQ9, HR19, HR29, HN1, HN2, HLo, HX9, HX⟩
        · skip
          go_simp
          have b2 := below_new V2 (.cells #[] 3)
          have s2 := hsz (W := V2) (.cells #[] 3)
          replace HQ := Lib.hid (HQ.out.step b2)
          replace XV := Lib.hid (XV.out.step b2)
          refine hK.out _ _ (hHeld.step b2) (fun hHeld => ?_)
          clear hK K
          try dsimp only
          have S2 := Lib.hid s2
          clear b2 s2
          generalize V2.alloc (.cells #[] 3) = V3 at *
          have hX3 := Lib.hid XV.out.size
          refine wpAnyH_ready (rs := [5]) (by kernel_rfl) (by simp) ?_
          refine AllReadyH.cons rfl (fun K hK => ?_) AllReadyH.nil
          refine step_fresh64 (by rfl) (.tmp 7) (.tmp 9) (by rfl) _ (by rfl) A n1 c1 msgs (by rfl) (H.out.m.below XV.out.below) (by omega) ?_
          intro R1 q1 V4 hr hf hb
          replace HQ := Lib.hid (HQ.out.step hb)
          replace XV := Lib.hid (XV.out.step hb)
          have HR1 := Lib.hid hr
          have HF1 := Lib.hid hf
          have S3 := Lib.hid hb.size
          refine hK.out _ _ (hHeld.step hb) (fun hHeld => ?_)
          clear hK K hr hf hb
          try dsimp only
          have hX4 := Lib.hid XV.out.size
          refine wpAnyH_ready (rs := [9]) (by kernel_rfl) (by simp) ?_
          refine AllReadyH.cons rfl (fun K hK => ?_) AllReadyH.nil
          refine step_freshI (by rfl) (.tmp 11) (.tmp 13) (by rfl) _ (by rfl) C n3 c3 recv (by rfl) (H.out.r.below XV.out.below) (by omega) ?_
          intro R2 q2 V5 hr hf hb
          replace HQ := Lib.hid (HQ.out.step hb)
          replace HR1 := Lib.hid (HR1.out.below hb)
          replace XV := Lib.hid (XV.out.step hb)
          have HR2 := Lib.hid hr
          have HF2 := Lib.hid hf
          have S4 := Lib.hid hb.size
          refine hK.out _ _ (hHeld.step hb) (fun hHeld => ?_)
          clear hK K hr hf hb
          try dsimp only
          refine wpAnyH_takes (i := 10) (v := (.agg #[.int .i64 room, .slice R1 n1 q1, .slice none 0 0, .slice R2 n3 q2])) (some 15) rfl rfl (by kernel_rfl) (by kernel_rfl) (by kernel_rfl) (fun _ _ _ h => h) (Or.inl ⟨by rfl, (by intro W9 hSw; have s0 := hSw.c0; have s1 := hSw.c1; have s2 := hSw.c2; have s3 := hSw.c3; clear hSw; go_simp; first | done | with_reducible rfl)⟩) (by assumption) ?_
          simp only [Act.put, List.setIfInBounds_toArray]
          have y0 := HQ.out.c0
          have y1 := HQ.out.c1
          have y2 := HQ.out.c2
          have y3 := HQ.out.c3
          have y4 := HQ.out.f0
          have y5 := HQ.out.f1
          have y6 := HQ.out.f2
          have y7 := HQ.out.f3
          have hX : w.heap.size + 2 ≤ V1.heap.size := hX1.out
          refine wpAnyH_ready (rs := [12]) (by kernel_rfl) (by simp) ?_
          refine AllReadyH.cons rfl (fun K hK => ?_) AllReadyH.nil
          go_simp
          have N1 : Nq R1 n1 V1.heap.size := fun ad e h0 => by have hs0 := S0.out; have hs1 := S1.out; have hs2 := S2.out; have hs3 := S3.out; have hs4 := S4.out; have := HF1.out ad e h0; omega
          have N2 : Nq R2 n3 V1.heap.size := fun ad e h0 => by have hs0 := S0.out; have hs1 := S1.out; have hs2 := S2.out; have hs3 := S3.out; have hs4 := S4.out; have := HF2.out ad e h0; omega
          have HQ9 := Lib.hid (HQ.out.put (.int .i64 room) (.slice R1 n1 q1) (.slice none 0 0) (.slice R2 n3 q2))
          have HR19 := Lib.hid (HR1.out.put4n (x := .int .i64 room) (y := .slice R1 n1 q1) (z := .slice none 0 0) (u := .slice R2 n3 q2) N1)
          have HR29 := Lib.hid (HR2.out.put4n (x := .int .i64 room) (y := .slice R1 n1 q1) (z := .slice none 0 0) (u := .slice R2 n3 q2) N2)
          have HX9 := Lib.hid (A4.elsewhere XV.out hX (.int .i64 room) (.slice R1 n1 q1) (.slice none 0 0) (.slice R2 n3 q2))
          have L1 : Lo R1 n1 (w.heap.size + 2) := fun ad e h0 => by have hs0 := S0.out; have hs1 := S1.out; have hs2 := S2.out; have hs3 := S3.out; have hs4 := S4.out; have h9 := hX0.out; have := HF1.out ad e h0; omega
          have L2 : Lo R2 n3 (w.heap.size + 2) := fun ad e h0 => by have hs0 := S0.out; have hs1 := S1.out; have hs2 := S2.out; have hs3 := S3.out; have hs4 := S4.out; have h9 := hX0.out; have := HF2.out ad e h0; omega
          have HLo := Lib.hid (And.intro L1 L2)
          have HN1 := Lib.hid N1
          have HN2 := Lib.hid N2
          have HX := Lib.hid hX
          refine hK.out _ _ HX9.out.p (fun hHeld => ?_)
          clear hK K y0 y1 y2 y3 y4 y5 y6 y7 N1 N2 L1 L2 hX
          try dsimp only
          refine wpAnyH_done (by kernel_rfl) ?_ _
          go_wp2_with fail
          go_meet
          exact ⟨_, R1, q1, R2, q2, rfl, HQ9, HR19, HR29, HN1, HN2, HLo, HX9, HX⟩
    · skip
      go_simp
      have b0 := below_new V0 (.cells #[] 3)
      have s0 := hsz (W := V0) (.cells #[] 3)
      replace XV := Lib.hid (XV.out.step b0)
      refine hK.out _ _ (hHeld.step b0) (fun hHeld => ?_)
      clear hK K
      try dsimp only
      have S0 := Lib.hid s0
      clear b0 s0
      generalize V0.alloc (.cells #[] 3) = V1 at *
      have hX1 := Lib.hid XV.out.size
      refine wpAnyH_ready (rs := [2, 11]) (by kernel_rfl) (by simp) ?_
      refine AllReadyH.cons rfl (fun K hK => ?_) (AllReadyH.cons rfl (fun K hK => ?_) AllReadyH.nil)
      · skip
        go_simp
        have b1 := below_new V1 (.cells #[] 2)
        have s1 := hsz (W := V1) (.cells #[] 2)
        replace XV := Lib.hid (XV.out.step b1)
        refine hK.out _ _ (hHeld.step b1) (fun hHeld => ?_)
        clear hK K
        try dsimp only
        have S1 := Lib.hid s1
        clear b1 s1
        generalize V1.alloc (.cells #[] 2) = V2 at *
        have hX2 := Lib.hid XV.out.size
        refine wpAnyH_ready (rs := [5, 11]) (by kernel_rfl) (by simp) ?_
        refine AllReadyH.cons rfl (fun K hK => ?_) (AllReadyH.cons rfl (fun K hK => ?_) AllReadyH.nil)
        · skip
          refine step_fresh64 (by rfl) (.tmp 7) (.tmp 9) (by rfl) _ (by rfl) A n1 c1 msgs (by rfl) (H.out.m.below XV.out.below) (by omega) ?_
          intro R1 q1 V3 hr hf hb
          replace XV := Lib.hid (XV.out.step hb)
          have HR1 := Lib.hid hr
          have HF1 := Lib.hid hf
          have S2 := Lib.hid hb.size
          refine hK.out _ _ (hHeld.step hb) (fun hHeld => ?_)
          clear hK K hr hf hb
          try dsimp only
          have hX3 := Lib.hid XV.out.size
          refine wpAnyH_ready (rs := [9, 11]) (by kernel_rfl) (by simp) ?_
          refine AllReadyH.cons rfl (fun K hK => ?_) (AllReadyH.cons rfl (fun K hK => ?_) AllReadyH.nil)
          · skip
            refine step_freshI (by rfl) (.tmp 11) (.tmp 13) (by rfl) _ (by rfl) C n3 c3 recv (by rfl) (H.out.r.below XV.out.below) (by omega) ?_
            intro R2 q2 V4 hr hf hb
            replace HR1 := Lib.hid (HR1.out.below hb)
            replace XV := Lib.hid (XV.out.step hb)
            have HR2 := Lib.hid hr
            have HF2 := Lib.hid hf
            have S3 := Lib.hid hb.size
            refine hK.out _ _ (hHeld.step hb) (fun hHeld => ?_)
            clear hK K hr hf hb
            try dsimp only
            refine wpAnyH_takes (i := 10) (v := (.agg #[.int .i64 room, .slice R1 n1 q1, .slice none 0 0, .slice R2 n3 q2])) (some 15) rfl rfl (by kernel_rfl) (by kernel_rfl) (by kernel_rfl) (fun _ _ _ h => h) (Or.inl ⟨by rfl, (by intro W9 hSw; have s0 := hSw.c0; have s1 := hSw.c1; have s2 := hSw.c2; have s3 := hSw.c3; clear hSw; go_simp; first | done | with_reducible rfl)⟩) (by assumption) ?_
            simp only [Act.put, List.setIfInBounds_toArray]
            have hX4 := Lib.hid XV.out.size
            refine wpAnyH_ready (rs := [11]) (by kernel_rfl) (by simp) ?_
            refine AllReadyH.cons rfl (fun K hK => ?_) AllReadyH.nil
            go_simp
            have b4 := below_new V4 (.cells #[.int .i64 0, .slice none 0 0, .slice none 0 0, .slice none 0 0] 31)
            have s4 := hsz (W := V4) (.cells #[.int .i64 0, .slice none 0 0, .slice none 0 0, .slice none 0 0] 31)
            replace HR1 := Lib.hid (HR1.out.below b4)
            replace HR2 := Lib.hid (HR2.out.below b4)
            replace XV := Lib.hid (XV.out.step b4)
            have HQ := Lib.hid (Q4.new V4 (.int .i64 0) (.slice none 0 0) (.slice none 0 0) (.slice none 0 0) 31)
            refine hK.out _ _ (hHeld.step b4) (fun hHeld => ?_)
            clear hK K
            try dsimp only
            have S4 := Lib.hid s4
            clear b4 s4
            generalize V4.alloc (.cells #[.int .i64 0, .slice none 0 0, .slice none 0 0, .slice none 0 0] 31) = V5 at *
            have y0 := HQ.out.c0
            have y1 := HQ.out.c1
            have y2 := HQ.out.c2
            have y3 := HQ.out.c3
            have y4 := HQ.out.f0
            have y5 := HQ.out.f1
            have y6 := HQ.out.f2
            have y7 := HQ.out.f3
            have hX : w.heap.size + 2 ≤ V4.heap.size := hX4.out
            refine wpAnyH_ready (rs := [12]) (by kernel_rfl) (by simp) ?_
            refine AllReadyH.cons rfl (fun K hK => ?_) AllReadyH.nil
            go_simp
            have N1 : Nq R1 n1 V4.heap.size := fun ad e h0 => by have hs0 := S0.out; have hs1 := S1.out; have hs2 := S2.out; have hs3 := S3.out; have hs4 := S4.out; have := HF1.out ad e h0; omega
            have N2 : Nq R2 n3 V4.heap.size := fun ad e h0 => by have hs0 := S0.out; have hs1 := S1.out; have hs2 := S2.out; have hs3 := S3.out; have hs4 := S4.out; have := HF2.out ad e h0; omega
            have HQ9 := Lib.hid (HQ.out.put (.int .i64 room) (.slice R1 n1 q1) (.slice none 0 0) (.slice R2 n3 q2))
            have HR19 := Lib.hid (HR1.out.put4n (x := .int .i64 room) (y := .slice R1 n1 q1) (z := .slice none 0 0) (u := .slice R2 n3 q2) N1)
            have HR29 := Lib.hid (HR2.out.put4n (x := .int .i64 room) (y := .slice R1 n1 q1) (z := .slice none 0 0) (u := .slice R2 n3 q2) N2)
            have HX9 := Lib.hid (A4.elsewhere XV.out hX (.int .i64 room) (.slice R1 n1 q1) (.slice none 0 0) (.slice R2 n3 q2))
            have L1 : Lo R1 n1 (w.heap.size + 2) := fun ad e h0 => by have hs0 := S0.out; have hs1 := S1.out; have hs2 := S2.out; have hs3 := S3.out; have hs4 := S4.out; have h9 := hX0.out; have := HF1.out ad e h0; omega
            have L2 : Lo R2 n3 (w.heap.size + 2) := fun ad e h0 => by have hs0 := S0.out; have hs1 := S1.out; have hs2 := S2.out; have hs3 := S3.out; have hs4 := S4.out; have h9 := hX0.out; have := HF2.out ad e h0; omega
            have HLo := Lib.hid (And.intro L1 L2)
            have HN1 := Lib.hid N1
            have HN2 := Lib.hid N2
            have HX := Lib.hid hX
            refine hK.out _ _ HX9.out.p (fun hHeld => ?_)
            clear hK K y0 y1 y2 y3 y4 y5 y6 y7 N1 N2 L1 L2 hX
            try dsimp only
            refine wpAnyH_done (by kernel_rfl) ?_ _
            go_wp2_with fail
            go_meet
            exact ⟨_, R1, q1, R2, q2, rfl, HQ9, HR19, HR29, HN1, HN2, HLo, HX9, HX⟩
          · skip
            go_simp
            have b3 := below_new V3 (.cells #[.int .i64 0, .slice none 0 0, .slice none 0 0, .slice none 0 0] 31)
            have s3 := hsz (W := V3) (.cells #[.int .i64 0, .slice none 0 0, .slice none 0 0, .slice none 0 0] 31)
            replace HR1 := Lib.hid (HR1.out.below b3)
            replace XV := Lib.hid (XV.out.step b3)
            have HQ := Lib.hid (Q4.new V3 (.int .i64 0) (.slice none 0 0) (.slice none 0 0) (.slice none 0 0) 31)
            refine hK.out _ _ (hHeld.step b3) (fun hHeld => ?_)
            clear hK K
            try dsimp only
            have S3 := Lib.hid s3
            clear b3 s3
            generalize V3.alloc (.cells #[.int .i64 0, .slice none 0 0, .slice none 0 0, .slice none 0 0] 31) = V4 at *
            have hX4 := Lib.hid XV.out.size
            refine wpAnyH_ready (rs := [9]) (by kernel_rfl) (by simp) ?_
            refine AllReadyH.cons rfl (fun K hK => ?_) AllReadyH.nil
            refine step_freshI (by rfl) (.tmp 11) (.tmp 13) (by rfl) _ (by rfl) C n3 c3 recv (by rfl) (H.out.r.below XV.out.below) (by omega) ?_
            intro R2 q2 V5 hr hf hb
            replace HQ := Lib.hid (HQ.out.step hb)
            replace HR1 := Lib.hid (HR1.out.below hb)
            replace XV := Lib.hid (XV.out.step hb)
            have HR2 := Lib.hid hr
            have HF2 := Lib.hid hf
            have S4 := Lib.hid hb.size
            refine hK.out _ _ (hHeld.step hb) (fun hHeld => ?_)
            clear hK K hr hf hb
            try dsimp only
            refine wpAnyH_takes (i := 10) (v := (.agg #[.int .i64 room, .slice R1 n1 q1, .slice none 0 0, .slice R2 n3 q2])) (some 15) rfl rfl (by kernel_rfl) (by kernel_rfl) (by kernel_rfl) (fun _ _ _ h => h) (Or.inl ⟨by rfl, (by intro W9 hSw; have s0 := hSw.c0; have s1 := hSw.c1; have s2 := hSw.c2; have s3 := hSw.c3; clear hSw; go_simp; first | done | with_reducible rfl)⟩) (by assumption) ?_
            simp only [Act.put, List.setIfInBounds_toArray]
            have y0 := HQ.out.c0
            have y1 := HQ.out.c1
            have y2 := HQ.out.c2
            have y3 := HQ.out.c3
            have y4 := HQ.out.f0
            have y5 := HQ.out.f1
            have y6 := HQ.out.f2
            have y7 := HQ.out.f3
            have hX : w.heap.size + 2 ≤ V3.heap.size := hX3.out
            refine wpAnyH_ready (rs := [12]) (by kernel_rfl) (by simp) ?_
            refine AllReadyH.cons rfl (fun K hK => ?_) AllReadyH.nil
            go_simp
            have N1 : Nq R1 n1 V3.heap.size := fun ad e h0 => by have hs0 := S0.out; have hs1 := S1.out; have hs2 := S2.out; have hs3 := S3.out; have hs4 := S4.out; have := HF1.out ad e h0; omega
            have N2 : Nq R2 n3 V3.heap.size := fun ad e h0 => by have hs0 := S0.out; have hs1 := S1.out; have hs2 := S2.out; have hs3 := S3.out; have hs4 := S4.out; have := HF2.out ad e h0; omega
            have HQ9 := Lib.hid (HQ.out.put (.int .i64 room) (.slice R1 n1 q1) (.slice none 0 0) (.slice R2 n3 q2))
            have HR19 := Lib.hid (HR1.out.put4n (x := .int .i64 room) (y := .slice R1 n1 q1) (z := .slice none 0 0) (u := .slice R2 n3 q2) N1)
            have HR29 := Lib.hid (HR2.out.put4n (x := .int .i64 room) (y := .slice R1 n1 q1) (z := .slice none 0 0) (u := .slice R2 n3 q2) N2)
            have HX9 := Lib.hid (A4.elsewhere XV.out hX (.int .i64 room) (.slice R1 n1 q1) (.slice none 0 0) (.slice R2 n3 q2))
            have L1 : Lo R1 n1 (w.heap.size + 2) := fun ad e h0 => by have hs0 := S0.out; have hs1 := S1.out; have hs2 := S2.out; have hs3 := S3.out; have hs4 := S4.out; have h9 := hX0.out; have := HF1.out ad e h0; omega
            have L2 : Lo R2 n3 (w.heap.size + 2) := fun ad e h0 => by have hs0 := S0.out; have hs1 := S1.out; have hs2 := S2.out; have hs3 := S3.out; have hs4 := S4.out; have h9 := hX0.out; have := HF2.out ad e h0; omega
            have HLo := Lib.hid (And.intro L1 L2)
            have HN1 := Lib.hid N1
            have HN2 := Lib.hid N2
            have HX := Lib.hid hX
            refine hK.out _ _ HX9.out.p (fun hHeld => ?_)
            clear hK K y0 y1 y2 y3 y4 y5 y6 y7 N1 N2 L1 L2 hX
            try dsimp only
            refine wpAnyH_done (by kernel_rfl) ?_ _
            go_wp2_with fail
            go_meet
            exact ⟨_, R1, q1, R2, q2, rfl, HQ9, HR19, HR29, HN1, HN2, HLo, HX9, HX⟩
        · skip
          go_simp
          have b2 := below_new V2 (.cells #[.int .i64 0, .slice none 0 0, .slice none 0 0, .slice none 0 0] 31)
          have s2 := hsz (W := V2) (.cells #[.int .i64 0, .slice none 0 0, .slice none 0 0, .slice none 0 0] 31)
          replace XV := Lib.hid (XV.out.step b2)
          have HQ := Lib.hid (Q4.new V2 (.int .i64 0) (.slice none 0 0) (.slice none 0 0) (.slice none 0 0) 31)
          refine hK.out _ _ (hHeld.step b2) (fun hHeld => ?_)
          clear hK K
          try dsimp only
          have S2 := Lib.hid s2
          clear b2 s2
          generalize V2.alloc (.cells #[.int .i64 0, .slice none 0 0, .slice none 0 0, .slice none 0 0] 31) = V3 at *
          have hX3 := Lib.hid XV.out.size
          refine wpAnyH_ready (rs := [5]) (by kernel_rfl) (by simp) ?_
          refine AllReadyH.cons rfl (fun K hK => ?_) AllReadyH.nil
          refine step_fresh64 (by rfl) (.tmp 7) (.tmp 9) (by rfl) _ (by rfl) A n1 c1 msgs (by rfl) (H.out.m.below XV.out.below) (by omega) ?_
          intro R1 q1 V4 hr hf hb
          replace HQ := Lib.hid (HQ.out.step hb)
          replace XV := Lib.hid (XV.out.step hb)
          have HR1 := Lib.hid hr
          have HF1 := Lib.hid hf
          have S3 := Lib.hid hb.size
          refine hK.out _ _ (hHeld.step hb) (fun hHeld => ?_)
          clear hK K hr hf hb
          try dsimp only
          have hX4 := Lib.hid XV.out.size
          refine wpAnyH_ready (rs := [9]) (by kernel_rfl) (by simp) ?_
          refine AllReadyH.cons rfl (fun K hK => ?_) AllReadyH.nil
          refine step_freshI (by rfl) (.tmp 11) (.tmp 13) (by rfl) _ (by rfl) C n3 c3 recv (by rfl) (H.out.r.below XV.out.below) (by omega) ?_
          intro R2 q2 V5 hr hf hb
          replace HQ := Lib.hid (HQ.out.step hb)
          replace HR1 := Lib.hid (HR1.out.below hb)
          replace XV := Lib.hid (XV.out.step hb)
          have HR2 := Lib.hid hr
          have HF2 := Lib.hid hf
          have S4 := Lib.hid hb.size
          refine hK.out _ _ (hHeld.step hb) (fun hHeld => ?_)
          clear hK K hr hf hb
          try dsimp only
          refine wpAnyH_takes (i := 10) (v := (.agg #[.int .i64 room, .slice R1 n1 q1, .slice none 0 0, .slice R2 n3 q2])) (some 15) rfl rfl (by kernel_rfl) (by kernel_rfl) (by kernel_rfl) (fun _ _ _ h => h) (Or.inl ⟨by rfl, (by intro W9 hSw; have s0 := hSw.c0; have s1 := hSw.c1; have s2 := hSw.c2; have s3 := hSw.c3; clear hSw; go_simp; first | done | with_reducible rfl)⟩) (by assumption) ?_
          simp only [Act.put, List.setIfInBounds_toArray]
          have y0 := HQ.out.c0
          have y1 := HQ.out.c1
          have y2 := HQ.out.c2
          have y3 := HQ.out.c3
          have y4 := HQ.out.f0
          have y5 := HQ.out.f1
          have y6 := HQ.out.f2
          have y7 := HQ.out.f3
          have hX : w.heap.size + 2 ≤ V2.heap.size := hX2.out
          refine wpAnyH_ready (rs := [12]) (by kernel_rfl) (by simp) ?_
          refine AllReadyH.cons rfl (fun K hK => ?_) AllReadyH.nil
          go_simp
          have N1 : Nq R1 n1 V2.heap.size := fun ad e h0 => by have hs0 := S0.out; have hs1 := S1.out; have hs2 := S2.out; have hs3 := S3.out; have hs4 := S4.out; have := HF1.out ad e h0; omega
          have N2 : Nq R2 n3 V2.heap.size := fun ad e h0 => by have hs0 := S0.out; have hs1 := S1.out; have hs2 := S2.out; have hs3 := S3.out; have hs4 := S4.out; have := HF2.out ad e h0; omega
          have HQ9 := Lib.hid (HQ.out.put (.int .i64 room) (.slice R1 n1 q1) (.slice none 0 0) (.slice R2 n3 q2))
          have HR19 := Lib.hid (HR1.out.put4n (x := .int .i64 room) (y := .slice R1 n1 q1) (z := .slice none 0 0) (u := .slice R2 n3 q2) N1)
          have HR29 := Lib.hid (HR2.out.put4n (x := .int .i64 room) (y := .slice R1 n1 q1) (z := .slice none 0 0) (u := .slice R2 n3 q2) N2)
          have HX9 := Lib.hid (A4.elsewhere XV.out hX (.int .i64 room) (.slice R1 n1 q1) (.slice none 0 0) (.slice R2 n3 q2))
          have L1 : Lo R1 n1 (w.heap.size + 2) := fun ad e h0 => by have hs0 := S0.out; have hs1 := S1.out; have hs2 := S2.out; have hs3 := S3.out; have hs4 := S4.out; have h9 := hX0.out; have := HF1.out ad e h0; omega
          have L2 : Lo R2 n3 (w.heap.size + 2) := fun ad e h0 => by have hs0 := S0.out; have hs1 := S1.out; have hs2 := S2.out; have hs3 := S3.out; have hs4 := S4.out; have h9 := hX0.out; have := HF2.out ad e h0; omega
          have HLo := Lib.hid (And.intro L1 L2)
          have HN1 := Lib.hid N1
          have HN2 := Lib.hid N2
          have HX := Lib.hid hX
          refine hK.out _ _ HX9.out.p (fun hHeld => ?_)
          clear hK K y0 y1 y2 y3 y4 y5 y6 y7 N1 N2 L1 L2 hX
          try dsimp only
          refine wpAnyH_done (by kernel_rfl) ?_ _
          go_wp2_with fail
          go_meet
          exact ⟨_, R1, q1, R2, q2, rfl, HQ9, HR19, HR29, HN1, HN2, HLo, HX9, HX⟩
      · skip
        go_simp
        have b1 := below_new V1 (.cells #[.int .i64 0, .slice none 0 0, .slice none 0 0, .slice none 0 0] 31)
        have s1 := hsz (W := V1) (.cells #[.int .i64 0, .slice none 0 0, .slice none 0 0, .slice none 0 0] 31)
        replace XV := Lib.hid (XV.out.step b1)
        have HQ := Lib.hid (Q4.new V1 (.int .i64 0) (.slice none 0 0) (.slice none 0 0) (.slice none 0 0) 31)
        refine hK.out _ _ (hHeld.step b1) (fun hHeld => ?_)
        clear hK K
        try dsimp only
        have S1 := Lib.hid s1
        clear b1 s1
        generalize V1.alloc (.cells #[.int .i64 0, .slice none 0 0, .slice none 0 0, .slice none 0 0] 31) = V2 at *
        have hX2 := Lib.hid XV.out.size
        refine wpAnyH_ready (rs := [2]) (by kernel_rfl) (by simp) ?_
        refine AllReadyH.cons rfl (fun K hK => ?_) AllReadyH.nil
        go_simp
        have b2 := below_new V2 (.cells #[] 2)
        have s2 := hsz (W := V2) (.cells #[] 2)
        replace HQ := Lib.hid (HQ.out.step b2)
        replace XV := Lib.hid (XV.out.step b2)
        refine hK.out _ _ (hHeld.step b2) (fun hHeld => ?_)
        clear hK K
        try dsimp only
        have S2 := Lib.hid s2
        clear b2 s2
        generalize V2.alloc (.cells #[] 2) = V3 at *
        have hX3 := Lib.hid XV.out.size
        refine wpAnyH_ready (rs := [5]) (by kernel_rfl) (by simp) ?_
        refine AllReadyH.cons rfl (fun K hK => ?_) AllReadyH.nil
        refine step_fresh64 (by rfl) (.tmp 7) (.tmp 9) (by rfl) _ (by rfl) A n1 c1 msgs (by rfl) (H.out.m.below XV.out.below) (by omega) ?_
        intro R1 q1 V4 hr hf hb
        replace HQ := Lib.hid (HQ.out.step hb)
        replace XV := Lib.hid (XV.out.step hb)
        have HR1 := Lib.hid hr
        have HF1 := Lib.hid hf
        have S3 := Lib.hid hb.size
        refine hK.out _ _ (hHeld.step hb) (fun hHeld => ?_)
        clear hK K hr hf hb
        try dsimp only
        have hX4 := Lib.hid XV.out.size
        refine wpAnyH_ready (rs := [9]) (by kernel_rfl) (by simp) ?_
        refine AllReadyH.cons rfl (fun K hK => ?_) AllReadyH.nil
        refine step_freshI (by rfl) (.tmp 11) (.tmp 13) (by rfl) _ (by rfl) C n3 c3 recv (by rfl) (H.out.r.below XV.out.below) (by omega) ?_
        intro R2 q2 V5 hr hf hb
        replace HQ := Lib.hid (HQ.out.step hb)
        replace HR1 := Lib.hid (HR1.out.below hb)
        replace XV := Lib.hid (XV.out.step hb)
        have HR2 := Lib.hid hr
        have HF2 := Lib.hid hf
        have S4 := Lib.hid hb.size
        refine hK.out _ _ (hHeld.step hb) (fun hHeld => ?_)
        clear hK K hr hf hb
        try dsimp only
        refine wpAnyH_takes (i := 10) (v := (.agg #[.int .i64 room, .slice R1 n1 q1, .slice none 0 0, .slice R2 n3 q2])) (some 15) rfl rfl (by kernel_rfl) (by kernel_rfl) (by kernel_rfl) (fun _ _ _ h => h) (Or.inl ⟨by rfl, (by intro W9 hSw; have s0 := hSw.c0; have s1 := hSw.c1; have s2 := hSw.c2; have s3 := hSw.c3; clear hSw; go_simp; first | done | with_reducible rfl)⟩) (by assumption) ?_
        simp only [Act.put, List.setIfInBounds_toArray]
        have y0 := HQ.out.c0
        have y1 := HQ.out.c1
        have y2 := HQ.out.c2
        have y3 := HQ.out.c3
        have y4 := HQ.out.f0
        have y5 := HQ.out.f1
        have y6 := HQ.out.f2
        have y7 := HQ.out.f3
        have hX : w.heap.size + 2 ≤ V1.heap.size := hX1.out
        refine wpAnyH_ready (rs := [12]) (by kernel_rfl) (by simp) ?_
        refine AllReadyH.cons rfl (fun K hK => ?_) AllReadyH.nil
        go_simp
        have N1 : Nq R1 n1 V1.heap.size := fun ad e h0 => by have hs0 := S0.out; have hs1 := S1.out; have hs2 := S2.out; have hs3 := S3.out; have hs4 := S4.out; have := HF1.out ad e h0; omega
        have N2 : Nq R2 n3 V1.heap.size := fun ad e h0 => by have hs0 := S0.out; have hs1 := S1.out; have hs2 := S2.out; have hs3 := S3.out; have hs4 := S4.out; have := HF2.out ad e h0; omega
        have HQ9 := Lib.hid (HQ.out.put (.int .i64 room) (.slice R1 n1 q1) (.slice none 0 0) (.slice R2 n3 q2))
        have HR19 := Lib.hid (HR1.out.put4n (x := .int .i64 room) (y := .slice R1 n1 q1) (z := .slice none 0 0) (u := .slice R2 n3 q2) N1)
        have HR29 := Lib.hid (HR2.out.put4n (x := .int .i64 room) (y := .slice R1 n1 q1) (z := .slice none 0 0) (u := .slice R2 n3 q2) N2)
        have HX9 := Lib.hid (A4.elsewhere XV.out hX (.int .i64 room) (.slice R1 n1 q1) (.slice none 0 0) (.slice R2 n3 q2))
        have L1 : Lo R1 n1 (w.heap.size + 2) := fun ad e h0 => by have hs0 := S0.out; have hs1 := S1.out; have hs2 := S2.out; have hs3 := S3.out; have hs4 := S4.out; have h9 := hX0.out; have := HF1.out ad e h0; omega
        have L2 : Lo R2 n3 (w.heap.size + 2) := fun ad e h0 => by have hs0 := S0.out; have hs1 := S1.out; have hs2 := S2.out; have hs3 := S3.out; have hs4 := S4.out; have h9 := hX0.out; have := HF2.out ad e h0; omega
        have HLo := Lib.hid (And.intro L1 L2)
        have HN1 := Lib.hid N1
        have HN2 := Lib.hid N2
        have HX := Lib.hid hX
        refine hK.out _ _ HX9.out.p (fun hHeld => ?_)
        clear hK K y0 y1 y2 y3 y4 y5 y6 y7 N1 N2 L1 L2 hX
        try dsimp only
        refine wpAnyH_done (by kernel_rfl) ?_ _
        go_wp2_with fail
        go_meet
        exact ⟨_, R1, q1, R2, q2, rfl, HQ9, HR19, HR29, HN1, HN2, HLo, HX9, HX⟩
    · skip
      go_simp
      have b0 := below_new V0 (.cells #[.int .i64 0, .slice none 0 0, .slice none 0 0, .slice none 0 0] 31)
      have s0 := hsz (W := V0) (.cells #[.int .i64 0, .slice none 0 0, .slice none 0 0, .slice none 0 0] 31)
      replace XV := Lib.hid (XV.out.step b0)
      have HQ := Lib.hid (Q4.new V0 (.int .i64 0) (.slice none 0 0) (.slice none 0 0) (.slice none 0 0) 31)
      refine hK.out _ _ (hHeld.step b0) (fun hHeld => ?_)
      clear hK K
      try dsimp only
      have S0 := Lib.hid s0
      clear b0 s0
      generalize V0.alloc (.cells #[.int .i64 0, .slice none 0 0, .slice none 0 0, .slice none 0 0] 31) = V1 at *
      have hX1 := Lib.hid XV.out.size
      refine wpAnyH_ready (rs := [2, 6]) (by kernel_rfl) (by simp) ?_
      refine AllReadyH.cons rfl (fun K hK => ?_) (AllReadyH.cons rfl (fun K hK => ?_) AllReadyH.nil)
      · skip
        go_simp
        have b1 := below_new V1 (.cells #[] 2)
        have s1 := hsz (W := V1) (.cells #[] 2)
        replace HQ := Lib.hid (HQ.out.step b1)
        replace XV := Lib.hid (XV.out.step b1)
        refine hK.out _ _ (hHeld.step b1) (fun hHeld => ?_)
        clear hK K
        try dsimp only
        have S1 := Lib.hid s1
        clear b1 s1
        generalize V1.alloc (.cells #[] 2) = V2 at *
        have hX2 := Lib.hid XV.out.size
        refine wpAnyH_ready (rs := [5, 6]) (by kernel_rfl) (by simp) ?_
        refine AllReadyH.cons rfl (fun K hK => ?_) (AllReadyH.cons rfl (fun K hK => ?_) AllReadyH.nil)
        · skip
          refine step_fresh64 (by rfl) (.tmp 7) (.tmp 9) (by rfl) _ (by rfl) A n1 c1 msgs (by rfl) (H.out.m.below XV.out.below) (by omega) ?_
          intro R1 q1 V3 hr hf hb
          replace HQ := Lib.hid (HQ.out.step hb)
          replace XV := Lib.hid (XV.out.step hb)
          have HR1 := Lib.hid hr
          have HF1 := Lib.hid hf
          have S2 := Lib.hid hb.size
          refine hK.out _ _ (hHeld.step hb) (fun hHeld => ?_)
          clear hK K hr hf hb
          try dsimp only
          have hX3 := Lib.hid XV.out.size
          refine wpAnyH_ready (rs := [6]) (by kernel_rfl) (by simp) ?_
          refine AllReadyH.cons rfl (fun K hK => ?_) AllReadyH.nil
          go_simp
          have b3 := below_new V3 (.cells #[] 3)
          have s3 := hsz (W := V3) (.cells #[] 3)
          replace HQ := Lib.hid (HQ.out.step b3)
          replace HR1 := Lib.hid (HR1.out.below b3)
          replace XV := Lib.hid (XV.out.step b3)
          refine hK.out _ _ (hHeld.step b3) (fun hHeld => ?_)
          clear hK K
          try dsimp only
          have S3 := Lib.hid s3
          clear b3 s3
          generalize V3.alloc (.cells #[] 3) = V4 at *
          have hX4 := Lib.hid XV.out.size
          refine wpAnyH_ready (rs := [9]) (by kernel_rfl) (by simp) ?_
          refine AllReadyH.cons rfl (fun K hK => ?_) AllReadyH.nil
          refine step_freshI (by rfl) (.tmp 11) (.tmp 13) (by rfl) _ (by rfl) C n3 c3 recv (by rfl) (H.out.r.below XV.out.below) (by omega) ?_
          intro R2 q2 V5 hr hf hb
          replace HQ := Lib.hid (HQ.out.step hb)
          replace HR1 := Lib.hid (HR1.out.below hb)
          replace XV := Lib.hid (XV.out.step hb)
          have HR2 := Lib.hid hr
          have HF2 := Lib.hid hf
          have S4 := Lib.hid hb.size
          refine hK.out _ _ (hHeld.step hb) (fun hHeld => ?_)
          clear hK K hr hf hb
          try dsimp only
          refine wpAnyH_takes (i := 10) (v := (.agg #[.int .i64 room, .slice R1 n1 q1, .slice none 0 0, .slice R2 n3 q2])) (some 15) rfl rfl (by kernel_rfl) (by kernel_rfl) (by kernel_rfl) (fun _ _ _ h => h) (Or.inl ⟨by rfl, (by intro W9 hSw; have s0 := hSw.c0; have s1 := hSw.c1; have s2 := hSw.c2; have s3 := hSw.c3; clear hSw; go_simp; first | done | with_reducible rfl)⟩) (by assumption) ?_
          simp only [Act.put, List.setIfInBounds_toArray]
          have y0 := HQ.out.c0
          have y1 := HQ.out.c1
          have y2 := HQ.out.c2
          have y3 := HQ.out.c3
          have y4 := HQ.out.f0
          have y5 := HQ.out.f1
          have y6 := HQ.out.f2
          have y7 := HQ.out.f3
          have hX : w.heap.size + 2 ≤ V0.heap.size := hX0.out
          refine wpAnyH_ready (rs := [12]) (by kernel_rfl) (by simp) ?_
          refine AllReadyH.cons rfl (fun K hK => ?_) AllReadyH.nil
          go_simp
          have N1 : Nq R1 n1 V0.heap.size := fun ad e h0 => by have hs0 := S0.out; have hs1 := S1.out; have hs2 := S2.out; have hs3 := S3.out; have hs4 := S4.out; have := HF1.out ad e h0; omega
          have N2 : Nq R2 n3 V0.heap.size := fun ad e h0 => by have hs0 := S0.out; have hs1 := S1.out; have hs2 := S2.out; have hs3 := S3.out; have hs4 := S4.out; have := HF2.out ad e h0; omega
          have HQ9 := Lib.hid (HQ.out.put (.int .i64 room) (.slice R1 n1 q1) (.slice none 0 0) (.slice R2 n3 q2))
          have HR19 := Lib.hid (HR1.out.put4n (x := .int .i64 room) (y := .slice R1 n1 q1) (z := .slice none 0 0) (u := .slice R2 n3 q2) N1)
          have HR29 := Lib.hid (HR2.out.put4n (x := .int .i64 room) (y := .slice R1 n1 q1) (z := .slice none 0 0) (u := .slice R2 n3 q2) N2)
          have HX9 := Lib.hid (A4.elsewhere XV.out hX (.int .i64 room) (.slice R1 n1 q1) (.slice none 0 0) (.slice R2 n3 q2))
          have L1 : Lo R1 n1 (w.heap.size + 2) := fun ad e h0 => by have hs0 := S0.out; have hs1 := S1.out; have hs2 := S2.out; have hs3 := S3.out; have hs4 := S4.out; have h9 := hX0.out; have := HF1.out ad e h0; omega
          have L2 : Lo R2 n3 (w.heap.size + 2) := fun ad e h0 => by have hs0 := S0.out; have hs1 := S1.out; have hs2 := S2.out; have hs3 := S3.out; have hs4 := S4.out; have h9 := hX0.out; have := HF2.out ad e h0; omega
          have HLo := Lib.hid (And.intro L1 L2)
          have HN1 := Lib.hid N1
          have HN2 := Lib.hid N2
          have HX := Lib.hid hX
          refine hK.out _ _ HX9.out.p (fun hHeld => ?_)
          clear hK K y0 y1 y2 y3 y4 y5 y6 y7 N1 N2 L1 L2 hX
          try dsimp only
          refine wpAnyH_done (by kernel_rfl) ?_ _
          go_wp2_with fail
          go_meet
          exact ⟨_, R1, q1, R2, q2, rfl, HQ9, HR19, HR29, HN1, HN2, HLo, HX9, HX⟩
        · skip
          go_simp
          have b2 := below_new V2 (.cells #[] 3)
          have s2 := hsz (W := V2) (.cells #[] 3)
          replace HQ := Lib.hid (HQ.out.step b2)
          replace XV := Lib.hid (XV.out.step b2)
          refine hK.out _ _ (hHeld.step b2) (fun hHeld => ?_)
          clear hK K
          try dsimp only
          have S2 := Lib.hid s2
          clear b2 s2
          generalize V2.alloc (.cells #[] 3) = V3 at *
          have hX3 := Lib.hid XV.out.size
          refine wpAnyH_ready (rs := [5]) (by kernel_rfl) (by simp) ?_
          refine AllReadyH.cons rfl (fun K hK => ?_) AllReadyH.nil
          refine step_fresh64 (by rfl) (.tmp 7) (.tmp 9) (by rfl) _ (by rfl) A n1 c1 msgs (by rfl) (H.out.m.below XV.out.below) (by omega) ?_
          intro R1 q1 V4 hr hf hb
          replace HQ := Lib.hid (HQ.out.step hb)
          replace XV := Lib.hid (XV.out.step hb)
          have HR1 := Lib.hid hr
          have HF1 := Lib.hid hf
          have S3 := Lib.hid hb.size
          refine hK.out _ _ (hHeld.step hb) (fun hHeld => ?_)
          clear hK K hr hf hb
          try dsimp only
          have hX4 := Lib.hid XV.out.size
          refine wpAnyH_ready (rs := [9]) (by kernel_rfl) (by simp) ?_
          refine AllReadyH.cons rfl (fun K hK => ?_) AllReadyH.nil
          refine step_freshI (by rfl) (.tmp 11) (.tmp 13) (by rfl) _ (by rfl) C n3 c3 recv (by rfl) (H.out.r.below XV.out.below) (by omega) ?_
          intro R2 q2 V5 hr hf hb
          replace HQ := Lib.hid (HQ.out.step hb)
          replace HR1 := Lib.hid (HR1.out.below hb)
          replace XV := Lib.hid (XV.out.step hb)
          have HR2 := Lib.hid hr
          have HF2 := Lib.hid hf
          have S4 := Lib.hid hb.size
          refine hK.out _ _ (hHeld.step hb) (fun hHeld => ?_)
          clear hK K hr hf hb
          try dsimp only
          refine wpAnyH_takes (i := 10) (v := (.agg #[.int .i64 room, .slice R1 n1 q1, .slice none 0 0, .slice R2 n3 q2])) (some 15) rfl rfl (by kernel_rfl) (by kernel_rfl) (by kernel_rfl) (fun _ _ _ h => h) (Or.inl ⟨by rfl, (by intro W9 hSw; have s0 := hSw.c0; have s1 := hSw.c1; have s2 := hSw.c2; have s3 := hSw.c3; clear hSw; go_simp; first | done | with_reducible rfl)⟩) (by assumption) ?_
          simp only [Act.put, List.setIfInBounds_toArray]
          have y0 := HQ.out.c0
          have y1 := HQ.out.c1
          have y2 := HQ.out.c2
          have y3 := HQ.out.c3
          have y4 := HQ.out.f0
          have y5 := HQ.out.f1
          have y6 := HQ.out.f2
          have y7 := HQ.out.f3
          have hX : w.heap.size + 2 ≤ V0.heap.size := hX0.out
          refine wpAnyH_ready (rs := [12]) (by kernel_rfl) (by simp) ?_
          refine AllReadyH.cons rfl (fun K hK => ?_) AllReadyH.nil
          go_simp
          have N1 : Nq R1 n1 V0.heap.size := fun ad e h0 => by have hs0 := S0.out; have hs1 := S1.out; have hs2 := S2.out; have hs3 := S3.out; have hs4 := S4.out; have := HF1.out ad e h0; omega
          have N2 : Nq R2 n3 V0.heap.size := fun ad e h0 => by have hs0 := S0.out; have hs1 := S1.out; have hs2 := S2.out; have hs3 := S3.out; have hs4 := S4.out; have := HF2.out ad e h0; omega
          have HQ9 := Lib.hid (HQ.out.put (.int .i64 room) (.slice R1 n1 q1) (.slice none 0 0) (.slice R2 n3 q2))
          have HR19 := Lib.hid (HR1.out.put4n (x := .int .i64 room) (y := .slice R1 n1 q1) (z := .slice none 0 0) (u := .slice R2 n3 q2) N1)
          have HR29 := Lib.hid (HR2.out.put4n (x := .int .i64 room) (y := .slice R1 n1 q1) (z := .slice none 0 0) (u := .slice R2 n3 q2) N2)
          have HX9 := Lib.hid (A4.elsewhere XV.out hX (.int .i64 room) (.slice R1 n1 q1) (.slice none 0 0) (.slice R2 n3 q2))
          have L1 : Lo R1 n1 (w.heap.size + 2) := fun ad e h0 => by have hs0 := S0.out; have hs1 := S1.out; have hs2 := S2.out; have hs3 := S3.out; have hs4 := S4.out; have h9 := hX0.out; have := HF1.out ad e h0; omega
          have L2 : Lo R2 n3 (w.heap.size + 2) := fun ad e h0 => by have hs0 := S0.out; have hs1 := S1.out; have hs2 := S2.out; have hs3 := S3.out; have hs4 := S4.out; have h9 := hX0.out; have := HF2.out ad e h0; omega
          have HLo := Lib.hid (And.intro L1 L2)
          have HN1 := Lib.hid N1
          have HN2 := Lib.hid N2
          have HX := Lib.hid hX
          refine hK.out _ _ HX9.out.p (fun hHeld => ?_)
          clear hK K y0 y1 y2 y3 y4 y5 y6 y7 N1 N2 L1 L2 hX
          try dsimp only
          refine wpAnyH_done (by kernel_rfl) ?_ _
          go_wp2_with fail
          go_meet
          exact ⟨_, R1, q1, R2, q2, rfl, HQ9, HR19, HR29, HN1, HN2, HLo, HX9, HX⟩
      · skip
        go_simp
        have b1 := below_new V1 (.cells #[] 3)
        have s1 := hsz (W := V1) (.cells #[] 3)
        replace HQ := Lib.hid (HQ.out.step b1)
        replace XV := Lib.hid (XV.out.step b1)
        refine hK.out _ _ (hHeld.step b1) (fun hHeld => ?_)
        clear hK K
        try dsimp only
        have S1 := Lib.hid s1
        clear b1 s1
        generalize V1.alloc (.cells #[] 3) = V2 at *
        have hX2 := Lib.hid XV.out.size
        refine wpAnyH_ready (rs := [2]) (by kernel_rfl) (by simp) ?_
        refine AllReadyH.cons rfl (fun K hK => ?_) AllReadyH.nil
        go_simp
        have b2 := below_new V2 (.cells #[] 2)
        have s2 := hsz (W := V2) (.cells #[] 2)
        replace HQ := Lib.hid (HQ.out.step b2)
        replace XV := Lib.hid (XV.out.step b2)
        refine hK.out _ _ (hHeld.step b2) (fun hHeld => ?_)
        clear hK K
        try dsimp only
        have S2 := Lib.hid s2
        clear b2 s2
        generalize V2.alloc (.cells #[] 2) = V3 at *
        have hX3 := Lib.hid XV.out.size
        refine wpAnyH_ready (rs := [5]) (by kernel_rfl) (by simp) ?_
        refine AllReadyH.cons rfl (fun K hK => ?_) AllReadyH.nil
        refine step_fresh64 (by rfl) (.tmp 7) (.tmp 9) (by rfl) _ (by rfl) A n1 c1 msgs (by rfl) (H.out.m.below XV.out.below) (by omega) ?_
        intro R1 q1 V4 hr hf hb
        replace HQ := Lib.hid (HQ.out.step hb)
        replace XV := Lib.hid (XV.out.step hb)
        have HR1 := Lib.hid hr
        have HF1 := Lib.hid hf
        have S3 := Lib.hid hb.size
        refine hK.out _ _ (hHeld.step hb) (fun hHeld => ?_)
        clear hK K hr hf hb
        try dsimp only
        have hX4 := Lib.hid XV.out.size
        refine wpAnyH_ready (rs := [9]) (by kernel_rfl) (by simp) ?_
        refine AllReadyH.cons rfl (fun K hK => ?_) AllReadyH.nil
        refine step_freshI (by rfl) (.tmp 11) (.tmp 13) (by rfl) _ (by rfl) C n3 c3 recv (by rfl) (H.out.r.below XV.out.below) (by omega) ?_
        intro R2 q2 V5 hr hf hb
        replace HQ := Lib.hid (HQ.out.step hb)
        replace HR1 := Lib.hid (HR1.out.below hb)
        replace XV := Lib.hid (XV.out.step hb)
        have HR2 := Lib.hid hr
        have HF2 := Lib.hid hf
        have S4 := Lib.hid hb.size
        refine hK.out _ _ (hHeld.step hb) (fun hHeld => ?_)
        clear hK K hr hf hb
        try dsimp only
        refine wpAnyH_takes (i := 10) (v := (.agg #[.int .i64 room, .slice R1 n1 q1, .slice none 0 0, .slice R2 n3 q2])) (some 15) rfl rfl (by kernel_rfl) (by kernel_rfl) (by kernel_rfl) (fun _ _ _ h => h) (Or.inl ⟨by rfl, (by intro W9 hSw; have s0 := hSw.c0; have s1 := hSw.c1; have s2 := hSw.c2; have s3 := hSw.c3; clear hSw; go_simp; first | done | with_reducible rfl)⟩) (by assumption) ?_
        simp only [Act.put, List.setIfInBounds_toArray]
        have y0 := HQ.out.c0
        have y1 := HQ.out.c1
        have y2 := HQ.out.c2
        have y3 := HQ.out.c3
        have y4 := HQ.out.f0
        have y5 := HQ.out.f1
        have y6 := HQ.out.f2
        have y7 := HQ.out.f3
        have hX : w.heap.size + 2 ≤ V0.heap.size := hX0.out
        refine wpAnyH_ready (rs := [12]) (by kernel_rfl) (by simp) ?_
        refine AllReadyH.cons rfl (fun K hK => ?_) AllReadyH.nil
        go_simp
        have N1 : Nq R1 n1 V0.heap.size := fun ad e h0 => by have hs0 := S0.out; have hs1 := S1.out; have hs2 := S2.out; have hs3 := S3.out; have hs4 := S4.out; have := HF1.out ad e h0; omega
        have N2 : Nq R2 n3 V0.heap.size := fun ad e h0 => by have hs0 := S0.out; have hs1 := S1.out; have hs2 := S2.out; have hs3 := S3.out; have hs4 := S4.out; have := HF2.out ad e h0; omega
        have HQ9 := Lib.hid (HQ.out.put (.int .i64 room) (.slice R1 n1 q1) (.slice none 0 0) (.slice R2 n3 q2))
        have HR19 := Lib.hid (HR1.out.put4n (x := .int .i64 room) (y := .slice R1 n1 q1) (z := .slice none 0 0) (u := .slice R2 n3 q2) N1)
        have HR29 := Lib.hid (HR2.out.put4n (x := .int .i64 room) (y := .slice R1 n1 q1) (z := .slice none 0 0) (u := .slice R2 n3 q2) N2)
        have HX9 := Lib.hid (A4.elsewhere XV.out hX (.int .i64 room) (.slice R1 n1 q1) (.slice none 0 0) (.slice R2 n3 q2))
        have L1 : Lo R1 n1 (w.heap.size + 2) := fun ad e h0 => by have hs0 := S0.out; have hs1 := S1.out; have hs2 := S2.out; have hs3 := S3.out; have hs4 := S4.out; have h9 := hX0.out; have := HF1.out ad e h0; omega
        have L2 : Lo R2 n3 (w.heap.size + 2) := fun ad e h0 => by have hs0 := S0.out; have hs1 := S1.out; have hs2 := S2.out; have hs3 := S3.out; have hs4 := S4.out; have h9 := hX0.out; have := HF2.out ad e h0; omega
        have HLo := Lib.hid (And.intro L1 L2)
        have HN1 := Lib.hid N1
        have HN2 := Lib.hid N2
        have HX := Lib.hid hX
        refine hK.out _ _ HX9.out.p (fun hHeld => ?_)
        clear hK K y0 y1 y2 y3 y4 y5 y6 y7 N1 N2 L1 L2 hX
        try dsimp only
        refine wpAnyH_done (by kernel_rfl) ?_ _
        go_wp2_with fail
        go_meet
        exact ⟨_, R1, q1, R2, q2, rfl, HQ9, HR19, HR29, HN1, HN2, HLo, HX9, HX⟩
  case rest =>
    obtain ⟨X, A1, d1, A2, d2, rfl, HQ, HR1, HR2, HN1, HN2, HLo, HX, HXl⟩ := hcut
    obtain ⟨hN, hhN⟩ : ∃ B, B = wc.heap.size := ⟨_, rfl⟩
    have hXN : X < hN := by rw [hhN]; exact HQ.out.lt
    have HRl1 := Lib.hid (fun (ad : Addr) (e : A1 = some ad) (h0 : 0 < n1) => show ad.block < hN by rw [hhN]; obtain ⟨b, off, e2, hb, _⟩ := HR1.out.cells h0; rw [e] at e2; injection e2 with e2; rw [e2]; exact hb)
    have HRl2 := Lib.hid (fun (ad : Addr) (e : A2 = some ad) (h0 : 0 < n3) => show ad.block < hN by rw [hhN]; obtain ⟨b, off, e2, hb, _⟩ := HR2.out.cells h0; rw [e] at e2; injection e2 with e2; rw [e2]; exact hb)
    have HS0 := Lib.hid (show hN ≤ wc.heap.size from Nat.le_of_eq hhN)
    have HO0 := Lib.hid (World.ownsRow_nil wc hN 52 2)
    have HXN := Lib.hid hXN
    clear hhN hXN X0
    go_wp2_with fail
    go_loopw [4] (fun i wr => ∃ (k : Nat) (A5 : Option Addr) (d5 : Nat), k ≤ n2 ∧ i = .int .i64 k ∧ Hid (Q4 wr X (.int .i64 room) (.slice A1 n1 d1) (.slice A5 k d5) (.slice A2 n3 d2)) ∧ Hid (wr.ownsRow hN 52 2 (.slice A5 k d5) k (vcells (send.take k))) ∧ Hid (Row wr A1 n1 d1 msgs) ∧ Hid (Row wr A2 n3 d2 recv) ∧ Hid (A4 w wr (.int .i64 room) (.slice A n1 c1) (.slice B n2 c2) (.slice C n3 c3) (.int .i64 0) (.slice none 0 0) (.slice none 0 0) (.slice none 0 0)) ∧ Hid (hN ≤ wr.heap.size)) (fun i _ => n2 - (intOf i).toNat)
    case atStart => exact ⟨0, none, 0, Nat.zero_le _, rfl, HQ, HO0, HR1, HR2, HX, HS0⟩
    case round =>
      clear HQ HR1 HR2 HX HS0 HO0
      obtain ⟨k, A5, d5, hk, rfl, HQ, HO, HR1, HR2, HX, HS0⟩ := hrel
      have p0 := HX.out.p.c0
      have p1 := HX.out.p.c1
      have p2 := HX.out.p.c2
      have p3 := HX.out.p.c3
      by_cases hlt : k < n2
      · obtain ⟨z, hzk⟩ : ∃ z, send[k]? = some z := ⟨_, List.getElem?_eq_getElem (by omega)⟩
        obtain ⟨bs, off, rfl, hbs, hcs⟩ := H.out.s.cells (by omega)
        obtain ⟨hck, hdk⟩ := hcs k z hzk
        have HCK := Lib.hid hck
        have HDK := Lib.hid hdk
        have hck2 := keepcell HX.out.below hck
        have hdk2 := keepcell HX.out.below hdk
        have k0 : (0 : Int) ≤ (k : Int) := by omega
        have k1 : (k : Int) < (n2 : Int) := by omega
        have HT := Lib.hid (show send.take (k + 1) = send.take k ++ [z] by rw [List.take_add_one, hzk]; rfl)
        clear hcs hzk hck hdk
        go_wp2_with fail
        refine wp_region_held_drew (S := fun W => Q4 W w.heap.size (.int .i64 room) (.slice A n1 c1) (.slice (some ⟨bs, off, none⟩) n2 c2) (.slice C n3 c3) ∧ W.cell? ⟨bs, off + k * 2, none⟩ = some (.int .i64 z.1) ∧ W.cell? ⟨bs, off + k * 2 + 1, none⟩ = some (.int .i64 z.2)) (by kernel_rfl) ⟨HX.out.p.drew, hck2, hdk2⟩ (fun hHeld => ?_)
        clear hck2 hdk2 p0 p1 p2 p3
        have XV := Lib.hid HX.out.drew
        have QV := Lib.hid HQ.out.drew
        have OV := Lib.hid HO.out.drew
        have R1V := Lib.hid HR1.out.drew
        have R2V := Lib.hid HR2.out.drew
        have SV := Lib.hid (show hN ≤ wr.drew.heap.size from HS0.out)
        clear HX HQ HO HR1 HR2 HS0
        generalize wr.drew = V at *
        refine wpAnyH_takes (i := 0) (v := (.pointer (some ⟨X, 2, none⟩))) (some 23) rfl rfl (by kernel_rfl) (by kernel_rfl) (by kernel_rfl) (fun _ _ _ h => h) (Or.inl ⟨by rfl, (by intro W9 hSw; have s0 := hSw.1.c0; have s1 := hSw.1.c1; have s2 := hSw.1.c2; have s3 := hSw.1.c3; have s4 := hSw.2.1; have s5 := hSw.2.2; clear hSw; go_simp; first | done | with_reducible rfl)⟩) (by assumption) ?_
        simp only [Act.put, List.setIfInBounds_toArray, List.set_cons_zero, List.set_cons_succ]
        refine wpAnyH_takes (i := 2) (v := (.pointer (some ⟨w.heap.size, 2, none⟩))) (some 25) rfl rfl (by kernel_rfl) (by kernel_rfl) (by kernel_rfl) (fun _ _ _ h => h) (Or.inl ⟨by rfl, (by intro W9 hSw; have s0 := hSw.1.c0; have s1 := hSw.1.c1; have s2 := hSw.1.c2; have s3 := hSw.1.c3; have s4 := hSw.2.1; have s5 := hSw.2.2; clear hSw; go_simp; first | done | with_reducible rfl)⟩) (by assumption) ?_
        simp only [Act.put, List.setIfInBounds_toArray, List.set_cons_zero, List.set_cons_succ]
        refine wpAnyH_takes (i := 3) (v := (.slice (some ⟨bs, off, none⟩) n2 c2)) (some 26) rfl rfl (by kernel_rfl) (by kernel_rfl) (by kernel_rfl) (fun _ _ _ h => h) (Or.inl ⟨by rfl, (by intro W9 hSw; have s0 := hSw.1.c0; have s1 := hSw.1.c1; have s2 := hSw.1.c2; have s3 := hSw.1.c3; have s4 := hSw.2.1; have s5 := hSw.2.2; clear hSw; go_simp; first | done | with_reducible rfl)⟩) (by assumption) ?_
        simp only [Act.put, List.setIfInBounds_toArray, List.set_cons_zero, List.set_cons_succ]
        refine wpAnyH_takes (i := 4) (v := (.int .i64 k)) (some 27) rfl rfl (by kernel_rfl) (by kernel_rfl) (by kernel_rfl) (fun _ _ _ h => h) (Or.inl ⟨by rfl, (by intro W9 hSw; have s0 := hSw.1.c0; have s1 := hSw.1.c1; have s2 := hSw.1.c2; have s3 := hSw.1.c3; have s4 := hSw.2.1; have s5 := hSw.2.2; clear hSw; go_simp; first | done | with_reducible rfl)⟩) (by assumption) ?_
        simp only [Act.put, List.setIfInBounds_toArray, List.set_cons_zero, List.set_cons_succ]
        refine wpAnyH_takes (i := 5) (v := (.pointer (some ⟨bs, off + k * 2, none⟩))) (some 28) rfl rfl (by kernel_rfl) (by kernel_rfl) (by kernel_rfl) (fun _ _ _ h => h) (Or.inl ⟨by rfl, (by intro W9 hSw; have s0 := hSw.1.c0; have s1 := hSw.1.c1; have s2 := hSw.1.c2; have s3 := hSw.1.c3; have s4 := hSw.2.1; have s5 := hSw.2.2; clear hSw; go_simp; first | done | with_reducible rfl)⟩) (by assumption) ?_
        simp only [Act.put, List.setIfInBounds_toArray, List.set_cons_zero, List.set_cons_succ]
        refine wpAnyH_takes (i := 6) (v := (.pointer (some ⟨bs, off + k * 2, none⟩))) (some 29) rfl rfl (by kernel_rfl) (by kernel_rfl) (by kernel_rfl) (fun _ _ _ h => h) (Or.inl ⟨by rfl, (by intro W9 hSw; have s0 := hSw.1.c0; have s1 := hSw.1.c1; have s2 := hSw.1.c2; have s3 := hSw.1.c3; have s4 := hSw.2.1; have s5 := hSw.2.2; clear hSw; go_simp; first | done | with_reducible rfl)⟩) (by assumption) ?_
        simp only [Act.put, List.setIfInBounds_toArray, List.set_cons_zero, List.set_cons_succ]
        refine wpAnyH_takes (i := 7) (v := (.int .i64 z.1)) (some 30) rfl rfl (by kernel_rfl) (by kernel_rfl) (by kernel_rfl) (fun _ _ _ h => h) (Or.inl ⟨by rfl, (by intro W9 hSw; have s0 := hSw.1.c0; have s1 := hSw.1.c1; have s2 := hSw.1.c2; have s3 := hSw.1.c3; have s4 := hSw.2.1; have s5 := hSw.2.2; clear hSw; go_simp; first | done | with_reducible rfl)⟩) (by assumption) ?_
        simp only [Act.put, List.setIfInBounds_toArray, List.set_cons_zero, List.set_cons_succ]
        refine wpAnyH_takes (i := 8) (v := (.pointer (some ⟨w.heap.size, 2, none⟩))) (some 31) rfl rfl (by kernel_rfl) (by kernel_rfl) (by kernel_rfl) (fun _ _ _ h => h) (Or.inl ⟨by rfl, (by intro W9 hSw; have s0 := hSw.1.c0; have s1 := hSw.1.c1; have s2 := hSw.1.c2; have s3 := hSw.1.c3; have s4 := hSw.2.1; have s5 := hSw.2.2; clear hSw; go_simp; first | done | with_reducible rfl)⟩) (by assumption) ?_
        simp only [Act.put, List.setIfInBounds_toArray, List.set_cons_zero, List.set_cons_succ]
        refine wpAnyH_takes (i := 9) (v := (.slice (some ⟨bs, off, none⟩) n2 c2)) (some 32) rfl rfl (by kernel_rfl) (by kernel_rfl) (by kernel_rfl) (fun _ _ _ h => h) (Or.inl ⟨by rfl, (by intro W9 hSw; have s0 := hSw.1.c0; have s1 := hSw.1.c1; have s2 := hSw.1.c2; have s3 := hSw.1.c3; have s4 := hSw.2.1; have s5 := hSw.2.2; clear hSw; go_simp; first | done | with_reducible rfl)⟩) (by assumption) ?_
        simp only [Act.put, List.setIfInBounds_toArray, List.set_cons_zero, List.set_cons_succ]
        refine wpAnyH_takes (i := 10) (v := (.int .i64 k)) (some 33) rfl rfl (by kernel_rfl) (by kernel_rfl) (by kernel_rfl) (fun _ _ _ h => h) (Or.inl ⟨by rfl, (by intro W9 hSw; have s0 := hSw.1.c0; have s1 := hSw.1.c1; have s2 := hSw.1.c2; have s3 := hSw.1.c3; have s4 := hSw.2.1; have s5 := hSw.2.2; clear hSw; go_simp; first | done | with_reducible rfl)⟩) (by assumption) ?_
        simp only [Act.put, List.setIfInBounds_toArray, List.set_cons_zero, List.set_cons_succ]
        refine wpAnyH_takes (i := 11) (v := (.pointer (some ⟨bs, off + k * 2, none⟩))) (some 34) rfl rfl (by kernel_rfl) (by kernel_rfl) (by kernel_rfl) (fun _ _ _ h => h) (Or.inl ⟨by rfl, (by intro W9 hSw; have s0 := hSw.1.c0; have s1 := hSw.1.c1; have s2 := hSw.1.c2; have s3 := hSw.1.c3; have s4 := hSw.2.1; have s5 := hSw.2.2; clear hSw; go_simp; first | done | with_reducible rfl)⟩) (by assumption) ?_
        simp only [Act.put, List.setIfInBounds_toArray, List.set_cons_zero, List.set_cons_succ]
        refine wpAnyH_takes (i := 12) (v := (.pointer (some ⟨bs, off + k * 2 + 1, none⟩))) (some 35) rfl rfl (by kernel_rfl) (by kernel_rfl) (by kernel_rfl) (fun _ _ _ h => h) (Or.inl ⟨by rfl, (by intro W9 hSw; have s0 := hSw.1.c0; have s1 := hSw.1.c1; have s2 := hSw.1.c2; have s3 := hSw.1.c3; have s4 := hSw.2.1; have s5 := hSw.2.2; clear hSw; go_simp; first | done | with_reducible rfl)⟩) (by assumption) ?_
        simp only [Act.put, List.setIfInBounds_toArray, List.set_cons_zero, List.set_cons_succ]
        refine wpAnyH_takes (i := 13) (v := (.int .i64 z.2)) (some 36) rfl rfl (by kernel_rfl) (by kernel_rfl) (by kernel_rfl) (fun _ _ _ h => h) (Or.inl ⟨by rfl, (by intro W9 hSw; have s0 := hSw.1.c0; have s1 := hSw.1.c1; have s2 := hSw.1.c2; have s3 := hSw.1.c3; have s4 := hSw.2.1; have s5 := hSw.2.2; clear hSw; go_simp; first | done | with_reducible rfl)⟩) (by assumption) ?_
        simp only [Act.put, List.setIfInBounds_toArray, List.set_cons_zero, List.set_cons_succ]
        refine wpAnyH_takes (i := 14) (v := (.agg #[.int .i64 z.1, .int .i64 z.2])) (some 37) rfl rfl (by kernel_rfl) (by kernel_rfl) (by kernel_rfl) (fun _ _ _ h => h) (Or.inl ⟨by rfl, (by intro W9 hSw; have s0 := hSw.1.c0; have s1 := hSw.1.c1; have s2 := hSw.1.c2; have s3 := hSw.1.c3; have s4 := hSw.2.1; have s5 := hSw.2.2; clear hSw; go_simp; first | done | with_reducible rfl)⟩) (by assumption) ?_
        simp only [Act.put, List.setIfInBounds_toArray, List.set_cons_zero, List.set_cons_succ]
        refine wpAnyH_ready (rs := [1, 15]) (by kernel_rfl) (by simp) ?_
        refine AllReadyH.cons rfl (fun K hK => ?_) (AllReadyH.cons rfl (fun K hK => ?_) AllReadyH.nil)
        · skip
          have x2 := QV.out.c2
          go_simp
          refine hK.out _ _ hHeld (fun hHeld => ?_)
          clear hK K x2
          try dsimp only
          refine wpAnyH_ready (rs := [15]) (by kernel_rfl) (by simp) ?_
          refine AllReadyH.cons rfl (fun K hK => ?_) AllReadyH.nil
          go_simp
          have hn5 := below_new V (.cells #[.int .i64 z.1, .int .i64 z.2] 52)
          have hY5 := pr_at_mail V z.1 z.2 _ rfl
          refine hK.out _ _ ⟨hHeld.1.step hn5, keepcell hn5 hHeld.2.1, keepcell hn5 hHeld.2.2⟩ (fun hHeld => ?_)
          clear hK K
          try dsimp only
          replace XV := Lib.hid (XV.out.step hn5)
          replace QV := Lib.hid (QV.out.step hn5)
          replace OV := Lib.hid (own_below OV.out hn5)
          replace R1V := Lib.hid (R1V.out.below hn5)
          replace R2V := Lib.hid (R2V.out.below hn5)
          have SV2 := Lib.hid (Nat.le_trans SV.out hn5.size)
          have Y6 := Lib.hid hY5
          clear hn5 hY5
          generalize V.alloc (.cells #[.int .i64 z.1, .int .i64 z.2] 52) = V6 at *
          skip
          refine wpAnyH_ready (rs := [16]) (by kernel_rfl) (by simp) ?_
          refine AllReadyH.cons rfl (fun K hK => ?_) AllReadyH.nil
          refine step_append_mail (by rfl) (.tmp 24) (.tmp 38) (by rfl) hN (.slice A5 k d5) k (send.take k) (by rfl) OV.out _ 1 1 [(z.1, z.2)] (by rfl) Y6.out (by have := h123.out; omega) SV2.out ?_
          intro v7 V7 ho7 hg7
          obtain ⟨A7, d7, rfl⟩ := own_form ho7
          have hlt7 : ∀ j, (Value.slice A5 k d5).ownBlock = some j → hN ≤ j := fun j e => (OV.out.lt j e).1
          have hXl := HXl.out
          have hXN := HXN.out
          have hX7 := XV.out.grown hg7 (fun j e => by have := hlt7 j e; omega)
          have hQ7 := QV.out.grown hg7 (fun j e => by have := hlt7 j e; omega)
          have hR17 := R1V.out.grown2 hg7 (fun j e ad e2 h0 => by have := hlt7 j e; have := HRl1.out ad e2 h0; omega)
          have hR27 := R2V.out.grown2 hg7 (fun j e ad e2 h0 => by have := hlt7 j e; have := HRl2.out ad e2 h0; omega)
          refine hK.out _ _ ⟨hX7.p, keepcell hX7.below HCK.out, keepcell hX7.below HDK.out⟩ (fun hHeld => ?_)
          clear hK K
          try dsimp only
          have y0 := hQ7.c0
          have y1 := hQ7.c1
          have y2 := hQ7.c2
          have y3 := hQ7.c3
          have y4 := hQ7.f2
          have O7 := Lib.hid (show V7.ownsRow hN 52 2 (.slice A7 (k + 1) d7) (k + 1) (vcells (send.take (k + 1))) by rw [HT.out]; exact ho7)
          have HQ9 := Lib.hid (hQ7.set2 (.slice A7 (k + 1) d7))
          have HO9 := Lib.hid (ownsRow_setCell_below (a := ⟨X, 2, none⟩) O7.out hXN (.slice A7 (k + 1) d7))
          have HR19 := Lib.hid (hR17.farn (X := X) (j := 2) (u := .slice A7 (k + 1) d7) HN1.out)
          have HR29 := Lib.hid (hR27.farn (X := X) (j := 2) (u := .slice A7 (k + 1) d7) HN2.out)
          have hX9 := hX7.setX hXl 2 (.slice A7 (k + 1) d7)
          have HX9 := Lib.hid hX9
          have HS9 := Lib.hid (show hN ≤ (V7.setCell ⟨X, 2, none⟩ (.slice A7 (k + 1) d7)).heap.size by have h8 := hg7.size; have h9 := SV2.out; simp [World.setCell]; omega)
          clear ho7 hg7 hlt7 hX7 hR17 hR27 OV R1V R2V SV SV2 QV XV Y6 O7
          refine wpAnyH_takes (i := 17) (v := (.pointer (some ⟨X, 2, none⟩))) (some 40) rfl rfl (by kernel_rfl) (by kernel_rfl) (by kernel_rfl) (fun _ _ _ h => h) (Or.inl ⟨by rfl, (by intro W9 hSw; have s0 := hSw.1.c0; have s1 := hSw.1.c1; have s2 := hSw.1.c2; have s3 := hSw.1.c3; have s4 := hSw.2.1; have s5 := hSw.2.2; clear hSw; go_simp; first | done | with_reducible rfl)⟩) (by assumption) ?_
          simp only [Act.put, List.setIfInBounds_toArray]
          refine wpAnyH_ready (rs := [18]) (by kernel_rfl) (by simp) ?_
          refine AllReadyH.cons rfl (fun K hK => ?_) AllReadyH.nil
          go_simp
          refine hK.out _ _ ⟨hX9.p, keepcell hX9.below HCK.out, keepcell hX9.below HDK.out⟩ (fun hHeld => ?_)
          clear hK K y0 y1 y2 y3 y4 hX9 hXN
          try dsimp only
          refine wpAnyH_done (by kernel_rfl) ?_ _
          go_wp2_with fail
          go_roundw
          case rel => exact ⟨k + 1, A7, d7, by omega, by go_num, HQ9, HO9, HR19, HR29, HX9, HS9⟩
          case measure => simp [intOf]; omega
        · skip
          go_simp
          have hn5 := below_new V (.cells #[.int .i64 z.1, .int .i64 z.2] 52)
          have hY5 := pr_at_mail V z.1 z.2 _ rfl
          refine hK.out _ _ ⟨hHeld.1.step hn5, keepcell hn5 hHeld.2.1, keepcell hn5 hHeld.2.2⟩ (fun hHeld => ?_)
          clear hK K
          try dsimp only
          replace XV := Lib.hid (XV.out.step hn5)
          replace QV := Lib.hid (QV.out.step hn5)
          replace OV := Lib.hid (own_below OV.out hn5)
          replace R1V := Lib.hid (R1V.out.below hn5)
          replace R2V := Lib.hid (R2V.out.below hn5)
          have SV2 := Lib.hid (Nat.le_trans SV.out hn5.size)
          have Y6 := Lib.hid hY5
          clear hn5 hY5
          generalize V.alloc (.cells #[.int .i64 z.1, .int .i64 z.2] 52) = V6 at *
          refine wpAnyH_ready (rs := [1]) (by kernel_rfl) (by simp) ?_
          refine AllReadyH.cons rfl (fun K hK => ?_) AllReadyH.nil
          have x2 := QV.out.c2
          go_simp
          refine hK.out _ _ hHeld (fun hHeld => ?_)
          clear hK K x2
          try dsimp only
          skip
          refine wpAnyH_ready (rs := [16]) (by kernel_rfl) (by simp) ?_
          refine AllReadyH.cons rfl (fun K hK => ?_) AllReadyH.nil
          refine step_append_mail (by rfl) (.tmp 24) (.tmp 38) (by rfl) hN (.slice A5 k d5) k (send.take k) (by rfl) OV.out _ 1 1 [(z.1, z.2)] (by rfl) Y6.out (by have := h123.out; omega) SV2.out ?_
          intro v7 V7 ho7 hg7
          obtain ⟨A7, d7, rfl⟩ := own_form ho7
          have hlt7 : ∀ j, (Value.slice A5 k d5).ownBlock = some j → hN ≤ j := fun j e => (OV.out.lt j e).1
          have hXl := HXl.out
          have hXN := HXN.out
          have hX7 := XV.out.grown hg7 (fun j e => by have := hlt7 j e; omega)
          have hQ7 := QV.out.grown hg7 (fun j e => by have := hlt7 j e; omega)
          have hR17 := R1V.out.grown2 hg7 (fun j e ad e2 h0 => by have := hlt7 j e; have := HRl1.out ad e2 h0; omega)
          have hR27 := R2V.out.grown2 hg7 (fun j e ad e2 h0 => by have := hlt7 j e; have := HRl2.out ad e2 h0; omega)
          refine hK.out _ _ ⟨hX7.p, keepcell hX7.below HCK.out, keepcell hX7.below HDK.out⟩ (fun hHeld => ?_)
          clear hK K
          try dsimp only
          have y0 := hQ7.c0
          have y1 := hQ7.c1
          have y2 := hQ7.c2
          have y3 := hQ7.c3
          have y4 := hQ7.f2
          have O7 := Lib.hid (show V7.ownsRow hN 52 2 (.slice A7 (k + 1) d7) (k + 1) (vcells (send.take (k + 1))) by rw [HT.out]; exact ho7)
          have HQ9 := Lib.hid (hQ7.set2 (.slice A7 (k + 1) d7))
          have HO9 := Lib.hid (ownsRow_setCell_below (a := ⟨X, 2, none⟩) O7.out hXN (.slice A7 (k + 1) d7))
          have HR19 := Lib.hid (hR17.farn (X := X) (j := 2) (u := .slice A7 (k + 1) d7) HN1.out)
          have HR29 := Lib.hid (hR27.farn (X := X) (j := 2) (u := .slice A7 (k + 1) d7) HN2.out)
          have hX9 := hX7.setX hXl 2 (.slice A7 (k + 1) d7)
          have HX9 := Lib.hid hX9
          have HS9 := Lib.hid (show hN ≤ (V7.setCell ⟨X, 2, none⟩ (.slice A7 (k + 1) d7)).heap.size by have h8 := hg7.size; have h9 := SV2.out; simp [World.setCell]; omega)
          clear ho7 hg7 hlt7 hX7 hR17 hR27 OV R1V R2V SV SV2 QV XV Y6 O7
          refine wpAnyH_takes (i := 17) (v := (.pointer (some ⟨X, 2, none⟩))) (some 40) rfl rfl (by kernel_rfl) (by kernel_rfl) (by kernel_rfl) (fun _ _ _ h => h) (Or.inl ⟨by rfl, (by intro W9 hSw; have s0 := hSw.1.c0; have s1 := hSw.1.c1; have s2 := hSw.1.c2; have s3 := hSw.1.c3; have s4 := hSw.2.1; have s5 := hSw.2.2; clear hSw; go_simp; first | done | with_reducible rfl)⟩) (by assumption) ?_
          simp only [Act.put, List.setIfInBounds_toArray]
          refine wpAnyH_ready (rs := [18]) (by kernel_rfl) (by simp) ?_
          refine AllReadyH.cons rfl (fun K hK => ?_) AllReadyH.nil
          go_simp
          refine hK.out _ _ ⟨hX9.p, keepcell hX9.below HCK.out, keepcell hX9.below HDK.out⟩ (fun hHeld => ?_)
          clear hK K y0 y1 y2 y3 y4 hX9 hXN
          try dsimp only
          refine wpAnyH_done (by kernel_rfl) ?_ _
          go_wp2_with fail
          go_roundw
          case rel => exact ⟨k + 1, A7, d7, by omega, by go_num, HQ9, HO9, HR19, HR29, HX9, HS9⟩
          case measure => simp [intOf]; omega
      · obtain rfl : k = n2 := by omega
        rw [List.take_of_length_le (by omega)] at HO
        obtain ⟨A5', d5', e5, hR5, hF5⟩ := PR.of_own' HO.out
        injection e5 with e5 _ e6
        subst e5 e6
        have hXl := HXl.out
        have hXN := HXN.out
        have r0 := HX.out.r.c0
        have r1 := HX.out.r.c1
        have r2 := HX.out.r.c2
        have r3 := HX.out.r.c3
        have r4 := HX.out.r.f0
        have r5 := HX.out.r.f1
        have r6 := HX.out.r.f2
        have r7 := HX.out.r.f3
        have q0 := HQ.out.c0
        have q1 := HQ.out.c1
        have q2 := HQ.out.c2
        have q3 := HQ.out.c3
        have hne1 : Nq A1 n1 (w.heap.size + 1) := fun ad e h0 => by have := HLo.out.1 ad e h0; omega
        have hne2 : Nq A2 n3 (w.heap.size + 1) := fun ad e h0 => by have := HLo.out.2 ad e h0; omega
        have hbe := put4_below (x := .int .i64 room) (y := .slice A1 n1 d1) (z := .slice A5 k d5) (u := .slice A2 n3 d2) HX.out.below (show w.heap.size ≤ w.heap.size + 1 by omega)
        have HM := Lib.hid (tellR (b := ⟨room, msgs, send, recv⟩) (HR1.out.put4n (x := .int .i64 room) (y := .slice A1 n1 d1) (z := .slice A5 k d5) (u := .slice A2 n3 d2) hne1) (hR5.put4 (x := .int .i64 room) (y := .slice A1 n1 d1) (z := .slice A5 k d5) (u := .slice A2 n3 d2) (hF5.mono (by omega : w.heap.size + 1 + 1 ≤ hN))) (HR2.out.put4n (x := .int .i64 room) (y := .slice A1 n1 d1) (z := .slice A5 k d5) (u := .slice A2 n3 d2) hne2) hbe)
        have K := HX.out.r.put (.int .i64 room) (.slice A1 n1 d1) (.slice A5 k d5) (.slice A2 n3 d2)
        have k0 := K.c0
        have k1 := K.c1
        have k2 := K.c2
        have k3 := K.c3
        clear K hne1 hne2 hbe hR5 hF5 hXN hXl
        go_wp2_with fail
        refine bodyPost_ret (v := .agg #[.int .i64 room, .slice A1 n1 d1, .slice A5 k d5, .slice A2 n3 d2]) ?_ rfl ?_
        · simp [results, Try.results10, go_sem, k0, k1, k2, k3]
        exact ⟨_, rfl, HM.out⟩
end Go.Proofs.Ytjpnfjiccckaiaa

