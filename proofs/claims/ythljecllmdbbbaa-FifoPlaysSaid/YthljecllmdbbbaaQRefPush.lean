/- The document's Push, by its contract. -/
import Derived.Test.YthljecllmdbbbaaQWith
import Derived.Test.YthljecllmdbbbaaRApp
namespace Go.Proofs.Ythljecllmdbbbaa
open Go.RowKit
set_option linter.unusedVariables false

/-- What a call leaves that has made an arena, and tells a number. -/
def MadeXI (P : Nat → Prop) (m : Int) (r : List (List Int) × Int) (w0 : World) (e : Ending) (w' : World) : Prop :=
  ∃ A n c, e = .returned (.tuple #[.agg #[.int .i64 m, .slice A n c], .int .i64 r.2]) ∧ Rws w' P A n c r.1 ∧ Below w0.heap.size w0 w'
/-- Two cells of a block are written in which no row lies. -/
theorem Rws.told {W : World} {P : Nat → Prop} {X n c : Nat} {A : Option Addr} {q : List (List Int)} {u v : Value} (h : Rws W (fun x => P x ∧ x ≠ X) A n c q) : Rws ((W.setCell ⟨X, 0, none⟩ u).setCell ⟨X, 1, none⟩ v) P A n c q :=
  ((h.turned (grown_setCell W X 0 u) (fun e => e.2 rfl)).turned (grown_setCell _ X 1 v) (fun e => e.2 rfl)).imp (fun _ _ hp => hp.1)
theorem put_keep {W : World} {X b o : Nat} {u v z : Value} (h : W.cell? ⟨b, o, none⟩ = some z) (hne : b ≠ X) : ((W.setCell ⟨X, 0, none⟩ u).setCell ⟨X, 1, none⟩ v).cell? ⟨b, o, none⟩ = some z := by
  rw [World.cell?_setCell_other _ _ _ _ (fun e => by injection e with e; exact hne e.symm), World.cell?_setCell_other _ _ _ _ (fun e => by injection e with e; exact hne e.symm)]
  exact h
set_option maxHeartbeats 4000000 in
set_option maxRecDepth 100000 in
theorem refPush_any (m : Int) (P : Nat → Prop) (A : Option Addr) (n c : Nat) (q : List (List Int)) (k g : Int) (w : World) (h : Rws w P A n c q) (hB : ∀ b, w.heap.size ≤ b → P b) (hn : n ≤ 1000) (hll : ∀ (i : Nat) l, q[i]? = some l → l.length ≤ 1000) :
    Calls Try.prog 13 #[.agg #[.int .i64 m, .slice A n c], .int .i64 k, .int .i64 g] w (MadeXI P m (Qp.push q m k g) w) := by
  have H := Lib.hid h
  have hcap := h.cap
  have hmost := h.most
  have HLEN := Lib.hid h.len
  have HLL := Lib.hid hll
  clear h hll
  obtain ⟨W0, hW0, hX0⟩ := Bx.start w (.int .i64 m) (.slice A n c) (.int .i64 0) (.slice none 0 0) 30 30
  have X0 := Lib.hid hX0
  have E0 := Lib.hid hW0
  clear hX0 hW0
  have c0 := X0.out.c0
  have c1 := X0.out.c1
  cases hh : (Qp.hasL k q.length && Qp.hasN g m) with
  | false =>
    have HP := Lib.hid (show Qp.push q m k g = (q, 1) by unfold Qp.push; rw [hh]; rfl)
    have hn2 : ¬ (0 ≤ k ∧ k < n ∧ 1 ≤ g ∧ g ≤ m) := by
      intro ⟨a, b, c, d⟩
      rw [show (Qp.hasL k q.length && Qp.hasN g m) = true by rw [Bool.and_eq_true, Qp.hasL_iff, Qp.hasN_iff, HLEN.out]; exact ⟨⟨a, b⟩, c, d⟩] at hh
      cases hh
    clear hh
    by_cases k0 : k < 0
    · clear hn2
      go_enter Try.func13, Try.ntmps13
      go_wp2_with fail
      obtain ⟨W9, hW9, X9⟩ := Bx.start w (.int .i64 m) (.slice A n c) (.int .i64 m) (.slice A n c) 30 30
      rw [← hW9]
      have k0 := X9.r0
      have k1 := X9.r1
      refine bodyPost_ret (v := .tuple #[.agg #[.int .i64 m, .slice A n c], .int .i64 1]) ?_ rfl ?_
      · simp [results, Try.results13, go_sem, k0, k1]
      rw [HP.out]
      exact ⟨A, n, c, rfl, H.out.step X9.below, X9.below⟩
    · obtain ⟨k, rfl⟩ : ∃ i : Nat, k = i := ⟨k.toNat, by omega⟩
      by_cases k1 : n ≤ k
      · clear hn2
        go_enter Try.func13, Try.ntmps13
        go_wp2_with fail
        obtain ⟨W9, hW9, X9⟩ := Bx.start w (.int .i64 m) (.slice A n c) (.int .i64 m) (.slice A n c) 30 30
        rw [← hW9]
        have k0 := X9.r0
        have k1 := X9.r1
        refine bodyPost_ret (v := .tuple #[.agg #[.int .i64 m, .slice A n c], .int .i64 1]) ?_ rfl ?_
        · simp [results, Try.results13, go_sem, k0, k1]
        rw [HP.out]
        exact ⟨A, n, c, rfl, H.out.step X9.below, X9.below⟩
      · by_cases g0 : g < 1
        · clear hn2
          go_enter Try.func13, Try.ntmps13
          go_wp2_with fail
          obtain ⟨W9, hW9, X9⟩ := Bx.start w (.int .i64 m) (.slice A n c) (.int .i64 m) (.slice A n c) 30 30
          rw [← hW9]
          have k0 := X9.r0
          have k1 := X9.r1
          refine bodyPost_ret (v := .tuple #[.agg #[.int .i64 m, .slice A n c], .int .i64 1]) ?_ rfl ?_
          · simp [results, Try.results13, go_sem, k0, k1]
          rw [HP.out]
          exact ⟨A, n, c, rfl, H.out.step X9.below, X9.below⟩
        · have g1 : m < g := by omega
          clear hn2
          go_enter Try.func13, Try.ntmps13
          go_wp2_with fail
          obtain ⟨W9, hW9, X9⟩ := Bx.start w (.int .i64 m) (.slice A n c) (.int .i64 m) (.slice A n c) 30 30
          rw [← hW9]
          have k0 := X9.r0
          have k1 := X9.r1
          refine bodyPost_ret (v := .tuple #[.agg #[.int .i64 m, .slice A n c], .int .i64 1]) ?_ rfl ?_
          · simp [results, Try.results13, go_sem, k0, k1]
          rw [HP.out]
          exact ⟨A, n, c, rfl, H.out.step X9.below, X9.below⟩
  | true =>
    rw [Bool.and_eq_true, Qp.hasL_iff, Qp.hasN_iff] at hh
    obtain ⟨⟨k0, k1⟩, g0, g1⟩ := hh
    obtain ⟨k, rfl⟩ : ∃ i : Nat, k = i := ⟨k.toNat, by omega⟩
    rw [HLEN.out] at k1
    have k2 : k < n := by omega
    have HH := Lib.hid (show (Qp.hasL k q.length && Qp.hasN g m) = true by rw [Bool.and_eq_true, Qp.hasL_iff, Qp.hasN_iff, HLEN.out]; exact ⟨⟨k0, k1⟩, g0, g1⟩)
    have g1' : ¬ m < g := by omega
    by_cases ho : 0 ≤ Qp.of q g
    · have HP := Lib.hid (show Qp.push q m k g = (q, 5) by unfold Qp.push; rw [if_pos HH.out, if_pos ho])
      have ho' : ¬ Qp.of q g < 0 := by omega
      obtain ⟨o, hoe⟩ : ∃ o, o = Qp.of q g := ⟨_, rfl⟩
      rw [← hoe] at ho ho'
      have HO := Lib.hid hoe
      clear hoe
      go_enter Try.func13, Try.ntmps13
      go_wp2_with fail
      rw [← E0.out]
      clear E0
      refine (refOf_any m P A n c q g W0 (H.out.step X0.out.below)).mono ?_
      rintro e w2 ⟨rfl, hb2⟩
      rw [← HO.out]
      have X2 := X0.out.step hb2
      have d0 := X2.c0
      have d1 := X2.c1
      have d2 := X2.r0
      have d3 := X2.r1
      have d4 := X2.f0
      have d5 := X2.f1
      obtain ⟨k0, k1⟩ := told2 (u := .int .i64 m) (v := .slice A n c) d2 d3
      have hbw := (X2.below.setCell (p := ⟨w.heap.size + 1, 0, none⟩) (by simp only; omega) (.int .i64 m)).setCell (p := ⟨w.heap.size + 1, 1, none⟩) (by simp only; omega) (.slice A n c)
      have HM := Lib.hid (show MadeXI P m (q, 5) w (.returned (.tuple #[.agg #[.int .i64 m, .slice A n c], .int .i64 5])) _ from ⟨A, n, c, rfl, H.out.step hbw, hbw⟩)
      clear hbw hb2 X2
      go_wp2_with fail
      refine bodyPost_ret (v := .tuple #[.agg #[.int .i64 m, .slice A n c], .int .i64 5]) ?_ rfl ?_
      · simp [results, Try.results13, go_sem, k0, k1]
      rw [HP.out]
      exact HM.out
    · have hat := Qp.getD_at (q := q) (k := k) (by rw [HLEN.out]; exact k2)
      obtain ⟨l, hl⟩ : ∃ l, l = q.getD k [] := ⟨_, rfl⟩
      rw [← hl] at hat
      have HP := Lib.hid (show Qp.push q m k g = (q.set k (l ++ [g]), 0) by unfold Qp.push; rw [if_pos HH.out, if_neg ho]; simp [hl])
      obtain ⟨o, hoe⟩ : ∃ o, o = Qp.of q g := ⟨_, rfl⟩
      have ho' : o < 0 := by omega
      have ho2 : ¬ (0 : Int) ≤ o := by omega
      have HO := Lib.hid hoe
      obtain ⟨b, off, rfl, hb, hcells⟩ := H.out.cells (by omega)
      obtain ⟨Ak, ck, hck, hrk, _⟩ := hcells k l hat
      obtain ⟨N, hN⟩ : ∃ N, l.length = N := ⟨_, rfl⟩
      have hNb : N ≤ 1000 := by rw [← hN]; exact HLL.out k l hat
      rw [hN] at hck hrk
      have RK := Lib.hid hrk
      clear hoe ho hl hat hcells hrk hN
      go_enter Try.func13, Try.ntmps13
      go_wp2_with fail
      rw [← E0.out]
      clear E0
      refine (refOf_any m P _ n c q g W0 (H.out.step X0.out.below)).mono ?_
      rintro e w1 ⟨rfl, hb1⟩
      rw [← HO.out]
      have X1 := Lib.hid (X0.out.step hb1)
      have hckw : w1.cell? ⟨b, off + k, none⟩ = some (.slice Ak N ck) := (X1.out.below.cell (p := ⟨b, off + k, none⟩) hb).trans hck
      have d0 := X1.out.c0
      have d1 := X1.out.c1
      have hs1 := X1.out.size
      clear hb1 hck c0 c1
      go_wp2_with fail
      go_region_held3 (fun w' => w'.cell? ⟨w.heap.size, 0, none⟩ = some (.int .i64 m) ∧ w'.cell? ⟨w.heap.size, 1, none⟩ = some (.slice (some ⟨b, off, none⟩) n c) ∧ w'.cell? ⟨b, off + k, none⟩ = some (.slice Ak N ck))
        (first | (refine ⟨?_, ?_, ?_⟩ <;> assumption) | (refine ⟨keepcell (below_new _ _) (by assumption), keepcell (below_new _ _) (by assumption), keepcell (below_new _ _) (by assumption)⟩) | (refine ⟨put_keep (by assumption) (by omega), put_keep (by assumption) (by omega), put_keep (by assumption) (by omega)⟩) | go_keep)
        (first
          | ((refine step_append_own2 (by rfl) (.tmp 35) (.tmp 40) (by rfl) (w.heap.size + 2) _ 0 [] (by rfl) (.inr ⟨_, rfl, rfl, rfl, by simp; omega⟩) Ak N ck l (by rfl) (RK.out.below (by first | exact (X1.out.below.alloc X1.out.below.size _).drew | exact ((X1.out.below.alloc X1.out.below.size _).alloc (by simp; omega) _).drew)) (by omega) (by simp; omega) ?_; intro v2 w2 ho2 hg2);
             (have hb2 : Below w1.heap.size w1 w2 := (by first | exact ((Below.refl _ _).alloc (Nat.le_refl _) _).drew.grown hg2 (by simp) (fun k hk => by simp [Value.ownBlock] at hk; omega) | exact (((Below.refl _ _).alloc (Nat.le_refl _) _).alloc (by simp) _).drew.grown hg2 (by simp; omega) (fun k hk => by simp [Value.ownBlock] at hk; omega)));
             (first
               | have G2 : Row w2 (some ⟨w1.heap.size + 1, 0, none⟩) 1 1 [g] := (row_at (w1.alloc (.cells #[] 3)) g _ (by simp)).drew.grown hg2 (by intro ad e; injection e with e; subst e; simp [Value.ownBlock])
               | have G2 : Row w2 (some ⟨w1.heap.size, 0, none⟩) 1 1 [g] := ((row_at w1 g _ rfl).below (below_new _ (.cells #[] 3))).drew.grown hg2 (by intro ad e; injection e with e; subst e; simp [Value.ownBlock])
               | skip);
             rw [Nat.zero_add, List.nil_append] at ho2; have O2 := ho2; obtain ⟨A2, q2, rfl, hr2, hf2⟩ := Own2.row ho2; have X2 := X1.out.step hb2; have p0 := X2.c0; have p1 := X2.c1; have p2 := (X2.below.cell (p := ⟨b, off + k, none⟩) hb).trans ((X1.out.below.cell (p := ⟨b, off + k, none⟩) hb).symm.trans hckw))
          | ((refine step_append_own2 (by rfl) (.tmp 41) (.tmp 43) (by rfl) (w.heap.size + 2) (.slice A2 N q2) N l (by rfl) (by first | exact O2 | exact O2.alloc _) _ 1 1 [g] (by rfl) (by first | exact G2 | exact row_at w2 g _ rfl) (by omega) (by have := X2.size; simp; omega) ?_; intro v3 w3 ho3 hg3);
             obtain ⟨A3, q3, rfl, hr3, hf3⟩ := Own2.row ho3;
             have X3 : Bx w w3 (.int .i64 m) (.slice (some ⟨b, off, none⟩) n c) (.int .i64 0) (.slice none 0 0) := (by first | exact X2.grown hg3 (own_from hf2) | exact (X2.alloc _).grown hg3 (own_from hf2)); have b0 := X3.c0; have b1 := X3.c1; have b2 := (X3.below.cell (p := ⟨b, off + k, none⟩) hb).trans ((X1.out.below.cell (p := ⟨b, off + k, none⟩) hb).symm.trans hckw))
          | ((go_at_call 28; refine (with_any m (fun x => P x ∧ x ≠ w.heap.size + 1) (some ⟨b, off, none⟩) n c q k A3 (N + 1) q3 (l ++ [g]) w3 ((H.out.imp (fun x hx hp => ⟨hp, by omega⟩)).step X3.below) hr3 (hf3.fromP (fun x hx => ⟨hB x (by omega), by omega⟩) _) (fun x hx => by have := X3.size; exact ⟨hB x (by omega), by omega⟩) k2 hn).mono ?_; rintro e w4 ⟨A4, n4, c4, rfl, hR4, hb4⟩); have X4 := X3.step hb4; have l0 := X4.c0; have l1 := X4.c1; have l2 := X4.r0; have l3 := X4.r1; have l4 := X4.f0; have l5 := X4.f1; have l6 := (X4.below.cell (p := ⟨b, off + k, none⟩) hb).trans ((X1.out.below.cell (p := ⟨b, off + k, none⟩) hb).symm.trans hckw)))
      all_goals
        rename_i hHeld
        clear hHeld
        obtain ⟨k0, k1⟩ := told2 (u := .int .i64 m) (v := .slice A4 n4 c4) l2 l3
        have hbw := (X4.below.setCell (p := ⟨w.heap.size + 1, 0, none⟩) (by simp only; omega) (.int .i64 m)).setCell (p := ⟨w.heap.size + 1, 1, none⟩) (by simp only; omega) (.slice A4 n4 c4)
        have HM := Lib.hid (show MadeXI P m (q.set k (l ++ [g]), 0) w (.returned (.tuple #[.agg #[.int .i64 m, .slice A4 n4 c4], .int .i64 0])) _ from ⟨A4, n4, c4, rfl, hR4.told, hbw⟩)
        clear hbw hR4 hb4 X4 l0 l1 l2 l3 l4 l5 l6 b0 b1 b2 hr3 hf3 ho3 hg3 X3 p0 p1 p2 hr2 hf2 ho2 O2 hg2 hb2 X2
        go_wp2_with fail
        refine bodyPost_ret (v := .tuple #[.agg #[.int .i64 m, .slice A4 n4 c4], .int .i64 0]) ?_ rfl ?_
        · simp [results, Try.results13, go_sem, k0, k1]
        rw [HP.out]
        exact HM.out
end Go.Proofs.Ythljecllmdbbbaa

