/- An arena of queues: what each of its methods answers, and how the queues stand then. -/
import Derived.Test.YthljecllmdbbbaaQRaw
namespace Go.Proofs.Ythljecllmdbbbaa
open Go.RowKit
set_option linter.unusedVariables false

theorem raw_other {W : World} {b o o' : Nat} {v u : Value} (h : W.cell? ⟨b, o, none⟩ = some v) (hne : o ≠ o') : (W.setCell ⟨b, o', none⟩ u).cell? ⟨b, o, none⟩ = some v :=
  (World.cell?_setCell_other _ _ _ _ (fun e => by injection e with _ e; omega)).trans h
theorem Raw.setN {W : World} {b : Nat} {m n : Int} {N I : Int → Int} {F L : Nat → Int} (h : Raw W b m n N I F L) (j : Nat) (hj : j < 65) (v : Int) : Raw (W.setCell ⟨b, 2 + j, none⟩ (.int .i64 v)) b m n (Qp.upd N j v) I F L := by
  refine ⟨raw_other h.r (by omega), raw_other h.c (by omega), fun i hi => ?_, fun i hi => raw_other (h.i i hi) (by omega), fun i hi => raw_other (h.f i hi) (by omega), fun i hi => raw_other (h.l i hi) (by omega), fun o => by rw [World.frozen?_setCell]; exact h.z o⟩
  by_cases e : i = j
  · subst e; rw [Qp.upd_same]; exact World.cell?_setCell_same' _ _ _ (by rw [h.n i hi]; rfl)
  · rw [Qp.upd_ne _ _ (by omega)]; exact raw_other (h.n i hi) (by omega)
theorem Raw.setI {W : World} {b : Nat} {m n : Int} {N I : Int → Int} {F L : Nat → Int} (h : Raw W b m n N I F L) (j : Nat) (hj : j < 65) (v : Int) : Raw (W.setCell ⟨b, 67 + j, none⟩ (.int .i64 v)) b m n N (Qp.upd I j v) F L := by
  refine ⟨raw_other h.r (by omega), raw_other h.c (by omega), fun i hi => raw_other (h.n i hi) (by omega), fun i hi => ?_, fun i hi => raw_other (h.f i hi) (by omega), fun i hi => raw_other (h.l i hi) (by omega), fun o => by rw [World.frozen?_setCell]; exact h.z o⟩
  by_cases e : i = j
  · subst e; rw [Qp.upd_same]; exact World.cell?_setCell_same' _ _ _ (by rw [h.i i hi]; rfl)
  · rw [Qp.upd_ne _ _ (by omega)]; exact raw_other (h.i i hi) (by omega)
theorem Raw.setF {W : World} {b : Nat} {m n : Int} {N I : Int → Int} {F L : Nat → Int} (h : Raw W b m n N I F L) (j : Nat) (hj : j < 64) (v : Int) : Raw (W.setCell ⟨b, 132 + j, none⟩ (.int .i64 v)) b m n N I (Qp.updn F j v) L := by
  refine ⟨raw_other h.r (by omega), raw_other h.c (by omega), fun i hi => raw_other (h.n i hi) (by omega), fun i hi => raw_other (h.i i hi) (by omega), fun i hi => ?_, fun i hi => raw_other (h.l i hi) (by omega), fun o => by rw [World.frozen?_setCell]; exact h.z o⟩
  unfold Qp.updn
  by_cases e : i = j
  · subst e; rw [if_pos rfl]; exact World.cell?_setCell_same' _ _ _ (by rw [h.f i hi]; rfl)
  · rw [if_neg e]; exact raw_other (h.f i hi) (by omega)
theorem Raw.setL {W : World} {b : Nat} {m n : Int} {N I : Int → Int} {F L : Nat → Int} (h : Raw W b m n N I F L) (j : Nat) (hj : j < 64) (v : Int) : Raw (W.setCell ⟨b, 196 + j, none⟩ (.int .i64 v)) b m n N I F (Qp.updn L j v) := by
  refine ⟨raw_other h.r (by omega), raw_other h.c (by omega), fun i hi => raw_other (h.n i hi) (by omega), fun i hi => raw_other (h.i i hi) (by omega), fun i hi => raw_other (h.f i hi) (by omega), fun i hi => ?_, fun o => by rw [World.frozen?_setCell]; exact h.z o⟩
  unfold Qp.updn
  by_cases e : i = j
  · subst e; rw [if_pos rfl]; exact World.cell?_setCell_same' _ _ _ (by rw [h.l i hi]; rfl)
  · rw [if_neg e]; exact raw_other (h.l i hi) (by omega)
theorem Raw.keep {W W' : World} {b : Nat} {m n : Int} {N I : Int → Int} {F L : Nat → Int} (h : Raw W b m n N I F L) (hk : W'.heap[b]? = W.heap[b]?) : Raw W' b m n N I F L :=
  ⟨(World.cell?_of_block (w := W) hk).trans h.r, (World.cell?_of_block (w := W) hk).trans h.c, fun i hi => (World.cell?_of_block (w := W) hk).trans (h.n i hi), fun i hi => (World.cell?_of_block (w := W) hk).trans (h.i i hi), fun i hi => (World.cell?_of_block (w := W) hk).trans (h.f i hi), fun i hi => (World.cell?_of_block (w := W) hk).trans (h.l i hi), fun o => (World.frozen?_of_block (w := W) hk).trans (h.z o)⟩
theorem Raw.lt {W : World} {b : Nat} {m n : Int} {N I : Int → Int} {F L : Nat → Int} (h : Raw W b m n N I F L) : b < W.heap.size := World.block_lt_of_cell? W ⟨b, 0, none⟩ h.r

/-- Block b holds an arena of m numbers in which these queues stand. -/
structure Ar (W : World) (b m : Nat) (q : List (List Int)) : Prop where
  m1 : 1 ≤ m
  m64 : m ≤ 64
  n1 : 1 ≤ q.length
  n64 : q.length ≤ 64
  raw : ∃ N I F L, Raw W b m q.length N I F L ∧ Qp.Lay m q N I F L
theorem Ar.keep {W W' : World} {b m : Nat} {q : List (List Int)} (h : Ar W b m q) (hk : W'.heap[b]? = W.heap[b]?) : Ar W' b m q := by
  obtain ⟨N, I, F, L, hr, hl⟩ := h.raw
  exact ⟨h.m1, h.m64, h.n1, h.n64, N, I, F, L, hr.keep hk, hl⟩
theorem Ar.lt {W : World} {b m : Nat} {q : List (List Int)} (h : Ar W b m q) : b < W.heap.size := by obtain ⟨N, I, F, L, hr, hl⟩ := h.raw; exact hr.lt
theorem Ar.step {W W' : World} {b m : Nat} {q : List (List Int)} (h : Ar W b m q) (hb : Below W.heap.size W W') : Ar W' b m q := h.keep (hb.block b h.lt)
theorem Ar.drewN {W : World} {b m : Nat} {q : List (List Int)} (h : Ar W b m q) (k : Nat) : Ar (W.drewN k) b m q := h.keep rfl
theorem Ar.ok {W : World} {b m : Nat} {q : List (List Int)} (h : Ar W b m q) : Qp.Ok m q := by obtain ⟨N, I, F, L, hr, hl⟩ := h.raw; exact hl.ok
/-- What a method leaves that turns the arena alone. -/
def Turned (b m : Nat) (q : List (List Int)) (w : World) (v : Value) (e : Ending) (w' : World) : Prop := e = .returned v ∧ Ar w' b m q ∧ w.grownBy w' (some b)
theorem grown_setCell (w : World) (b o : Nat) (u : Value) : w.grownBy (w.setCell ⟨b, o, none⟩ u) (some b) := ⟨rfl, rfl, rfl, by simp [World.setCell], fun k _ hk => Below.heap_setCell w ⟨b, o, none⟩ u k (fun e => hk (by rw [e]))⟩
theorem grown_refl (w : World) (r : Option Nat) : w.grownBy w r := ⟨rfl, rfl, rfl, Nat.le_refl _, fun _ _ _ => rfl⟩

theorem of_bounds {W : World} {b m : Nat} {q : List (List Int)} (h : Ar W b m q) (g : Int) : -1 ≤ Qp.of q g ∧ Qp.of q g ≤ 63 := by
  have := Qp.of_ge q g
  have := h.n64
  omega
theorem of_hasN {m : Nat} {q : List (List Int)} (h : Qp.Ok m q) {g : Int} (hg : Qp.hasN g m = false) : Qp.of q g < 0 := by
  rw [Qp.of_none]
  intro i l hi hl
  have := h.mem _ _ _ hi hl
  rw [Qp.hasN_iff.2 this] at hg
  cases hg
theorem of_any (b m : Nat) (q : List (List Int)) (g : Int) (w : World) (h : Ar w b m q) :
    Calls Try.prog 22 #[.pointer (some ⟨b, 0, none⟩), .int .i64 g] w fun e w' => e = .returned (.int .i64 (Qp.of q g)) ∧ w = w' := by
  have h1 := of_bounds h g
  obtain ⟨N, I, F, L, hr, hl⟩ := h.raw
  have e := hl.inn g
  refine (of_raw b m q.length N I F L g w hr (by have := h.m64; omega) (by omega) (fun hn => by have := of_hasN hl.ok hn; rw [e, Qp.of_eq_none this]; rfl)).mono ?_
  rintro e' w' ⟨rfl, rfl⟩
  exact ⟨by rw [e]; congr 2; omega, rfl⟩
theorem hasList_ar (b m : Nat) (q : List (List Int)) (k : Int) (w : World) (h : Ar w b m q) :
    Calls Try.prog 25 #[.pointer (some ⟨b, 0, none⟩), .int .i64 k] w fun e w' => e = .returned (.bool (Qp.hasL k q.length)) ∧ w = w' := by
  obtain ⟨N, I, F, L, hr, hl⟩ := h.raw
  exact hasList_any b m q.length N I F L k w hr
theorem hasNumber_ar (b m : Nat) (q : List (List Int)) (g : Int) (w : World) (h : Ar w b m q) :
    Calls Try.prog 26 #[.pointer (some ⟨b, 0, none⟩), .int .i64 g] w fun e w' => e = .returned (.bool (Qp.hasN g m)) ∧ w = w' := by
  obtain ⟨N, I, F, L, hr, hl⟩ := h.raw
  exact hasNumber_any b m q.length N I F L g w hr
theorem push_any (b m : Nat) (q : List (List Int)) (k g : Int) (w : World) (h : Ar w b m q) :
    Calls Try.prog 12 #[.pointer (some ⟨b, 0, none⟩), .int .i64 k, .int .i64 g] w (Turned b m (Qp.push q m k g).1 w (.int .i64 (Qp.push q m k g).2)) := by
  have C1 := Lib.hid (hasList_ar b m q k w h)
  have C2 := Lib.hid (hasNumber_ar b m q g w h)
  have C3 := Lib.hid (of_any b m q g w h)
  have H := Lib.hid h
  clear h
  cases hk : Qp.hasL k q.length with
  | false =>
    rw [hk] at C1
    have HP := Lib.hid (show Qp.push q m k g = (q, 1) by unfold Qp.push; rw [hk]; rfl)
    clear hk
    go_enter Try.func12, Try.ntmps12
    go_wp2_with fail
    refine C1.out.mono ?_
    rintro e w' ⟨rfl, rfl⟩
    go_wp2_with fail
    go_ret
    rw [HP.out]
    exact ⟨rfl, H.out, grown_refl _ _⟩
  | true =>
    rw [hk] at C1
    cases hg : Qp.hasN g m with
    | false =>
      rw [hg] at C2
      have HP := Lib.hid (show Qp.push q m k g = (q, 1) by unfold Qp.push; rw [hg, Bool.and_false]; rfl)
      clear hk hg
      go_enter Try.func12, Try.ntmps12
      go_wp2_with fail
      refine C1.out.mono ?_
      rintro e w' ⟨rfl, rfl⟩
      go_wp2_with fail
      refine C2.out.mono ?_
      rintro e w' ⟨rfl, rfl⟩
      go_wp2_with fail
      go_ret
      rw [HP.out]
      exact ⟨rfl, H.out, grown_refl _ _⟩
    | true =>
      rw [hg] at C2
      by_cases ho : 0 ≤ Qp.of q g
      · have HP := Lib.hid (show Qp.push q m k g = (q, 5) by unfold Qp.push; rw [hk, hg]; simp [ho])
        clear hk hg
        go_enter Try.func12, Try.ntmps12
        go_wp2_with fail
        refine C1.out.mono ?_
        rintro e w' ⟨rfl, rfl⟩
        go_wp2_with fail
        refine C2.out.mono ?_
        rintro e w' ⟨rfl, rfl⟩
        go_wp2_with fail
        refine C3.out.mono ?_
        rintro e w' ⟨rfl, rfl⟩
        go_wp2_with fail
        go_ret
        rw [HP.out]
        exact ⟨rfl, H.out, grown_refl _ _⟩
      · obtain ⟨k0, k1⟩ := Qp.hasL_iff.1 hk
        obtain ⟨g0, g1⟩ := Qp.hasN_iff.1 hg
        obtain ⟨k, rfl⟩ : ∃ i : Nat, k = i := ⟨k.toNat, by omega⟩
        obtain ⟨g, rfl⟩ : ∃ i : Nat, g = i := ⟨g.toNat, by omega⟩
        have hq := Qp.getD_at (q := q) (k := k) (by omega)
        obtain ⟨l, hl⟩ : ∃ l, l = q.getD k [] := ⟨_, rfl⟩
        rw [← hl] at hq
        have m64 := H.out.m64
        have n64 := H.out.n64
        have HP := Lib.hid (show Qp.push q m k g = (q.set k (l ++ [(g : Int)]), 0) by unfold Qp.push; rw [hk, hg]; simp [ho, hl])
        obtain ⟨N, I, F, L, hr, hlay⟩ := H.out.raw
        have hlast := hlay.lst k
        rw [← hl] at hlast
        have HL := Lib.hid (Qp.lay_push hlay hq (by omega) g0 g1)
        have hz := Qp.zero_iff (m := m) (l := l) (fun x hx => hlay.ok.mem _ _ _ hq hx)
        have hk64 : k < 64 := by omega
        have hg65 : g < 65 := by omega
        have hlm : ∀ x ∈ l, 1 ≤ x ∧ x ≤ (m : Int) := fun x hx => hlay.ok.mem _ _ _ hq hx
        have cl := hr.l k hk64
        by_cases he : l = []
        · subst he
          rw [if_pos rfl, if_pos rfl] at HL
          rw [show L k = 0 from hlast] at cl
          have RR := Lib.hid hr
          have ho' := Lib.hid ho
          clear hlast hz hlm hl hlay hk hg hq ho hr
          go_enter Try.func12, Try.ntmps12
          go_wp2_with fail
          refine C1.out.mono ?_
          rintro e w' ⟨rfl, rfl⟩
          go_wp2_with fail
          refine C2.out.mono ?_
          rintro e w' ⟨rfl, rfl⟩
          go_wp2_with fail
          refine C3.out.mono ?_
          rintro e w' ⟨rfl, rfl⟩
          have ho := ho'.out
          clear ho'
          go_wp2_with fail
          refine (link_first b m q.length N I F L k g w RR.out hk64).mono ?_
          rintro e w1 ⟨rfl, hw1⟩
          have R1 := RR.out.setF k hk64 g
          have G1 := grown_setCell w b (132 + k) (.int .i64 g)
          rw [hw1] at R1 G1
          have d1 := R1.l k hk64
          have d2 := R1.i g hg65
          have z1 := R1.z (196 + k)
          have z2 := R1.z (67 + g)
          have RR1 := Lib.hid R1
          have GG1 := Lib.hid G1
          clear hw1 R1 G1 cl
          go_wp2_with fail
          go_ret
          rw [HP.out]
          exact ⟨rfl, ⟨H.out.m1, m64, by rw [List.length_set]; exact H.out.n1, by rw [List.length_set]; exact n64, _, _, _, _, by rw [List.length_set]; exact (RR1.out.setL k hk64 g).setI g hg65 ((k : Int) + 1), HL.out⟩, (GG1.out.trans (grown_setCell w1 b (196 + k) (.int .i64 g))).trans (grown_setCell _ b (67 + g) (.int .i64 ((k : Int) + 1)))⟩
        · rw [if_neg he, if_neg he] at HL
          have hlm2 := hlm _ (Qp.last_mem he)
          rw [← hlast] at hlm2
          have RR := Lib.hid hr
          have ho' := Lib.hid ho
          have HL1 := Lib.hid hlast
          clear hlast hz hlm hl hlay hk hg hq ho hr
          go_enter Try.func12, Try.ntmps12
          go_wp2_with fail
          refine C1.out.mono ?_
          rintro e w' ⟨rfl, rfl⟩
          go_wp2_with fail
          refine C2.out.mono ?_
          rintro e w' ⟨rfl, rfl⟩
          go_wp2_with fail
          refine C3.out.mono ?_
          rintro e w' ⟨rfl, rfl⟩
          have ho := ho'.out
          clear ho'
          go_wp2_with fail
          refine (link_next b m q.length N I F L k (L k) g w RR.out hlm2.1 (by omega)).mono ?_
          rintro e w1 ⟨rfl, hw1⟩
          obtain ⟨j, hj⟩ : ∃ j : Nat, L k = j := ⟨(L k).toNat, by omega⟩
          have ej : (L k).toNat = j := by omega
          have R1 := RR.out.setN j (by omega) g
          have G1 := grown_setCell w b (2 + j) (.int .i64 g)
          rw [← HL1.out, hj] at HL
          rw [ej] at hw1
          clear ej hj
          rw [hw1] at R1 G1
          have d1 := R1.l k hk64
          have d2 := R1.i g hg65
          have z1 := R1.z (196 + k)
          have z2 := R1.z (67 + g)
          have RR1 := Lib.hid R1
          have GG1 := Lib.hid G1
          clear hw1 R1 G1 cl
          go_wp2_with fail
          go_ret
          rw [HP.out]
          exact ⟨rfl, ⟨H.out.m1, m64, by rw [List.length_set]; exact H.out.n1, by rw [List.length_set]; exact n64, _, _, _, _, by rw [List.length_set]; exact (RR1.out.setL k hk64 g).setI g hg65 ((k : Int) + 1), HL.out⟩, (GG1.out.trans (grown_setCell w1 b (196 + k) (.int .i64 g))).trans (grown_setCell _ b (67 + g) (.int .i64 ((k : Int) + 1)))⟩
end Go.Proofs.Ythljecllmdbbbaa

