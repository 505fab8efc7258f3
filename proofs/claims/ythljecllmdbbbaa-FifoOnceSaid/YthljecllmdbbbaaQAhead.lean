/- Who stands right ahead of one of a queue: the walk along the links, by a goto. -/
import Derived.Test.YthljecllmdbbbaaQArena
import Derived.Scope
import Derived.ScopeJumps
import Derived.WalkMore
namespace Go.Proofs.Ythljecllmdbbbaa
open Go.RowKit
set_option linter.unusedVariables false

/-- The last one of a row, and the first one; 0 if there is none. -/
def la (a : List Int) : Int := a.getLastD 0
def hd (a : List Int) : Int := a.headD 0
theorem la_snoc (a : List Int) (x : Int) : la (a ++ [x]) = x := by unfold la; rw [Qp.last_app _ _ _ (by simp)]; rfl
theorem idx_bare {α : Type} (a b : α) : (a, b).1 = a := rfl
/-- How many of a row come from one on. -/
def rank (a : List Int) (x : Int) : Nat := a.length - a.idxOf x
theorem rank_at {a1 a2 : List Int} {g : Int} {c : List Int} (hn : (a1 ++ a2 ++ g :: c).Nodup) : rank (a1 ++ a2) (hd (a2 ++ g :: c)) = a2.length := by
  obtain ⟨hg, _⟩ := Qp.not_mid hn
  unfold rank hd
  cases a2 with
  | nil => simp at hg ⊢; rw [List.idxOf_eq_length hg]; omega
  | cons x t =>
    have hx : x ∉ a1 := by
      rw [List.append_assoc, List.cons_append] at hn
      exact (Qp.not_mid hn).1
    simp [List.idxOf_append, hx]
/-- The walk's frame at the label. -/
def Along (b k : Nat) (g : Int) (a c : List Int) (w : World) (A : Act) (W : World) : Prop :=
  ∃ (a1 a2 : List Int) (u9 u10 u11 u12 u13 u14 u15 u16 u17 u18 u19 u20 u21 u22 u23 u24 u25 : Value),
    A = { tmps := #[.pointer (some ⟨b, 0, none⟩), .int .i64 k, .int .i64 g, undef, undef, undef, .int .i64 0, .int .i64 (la a1), .int .i64 (hd (a2 ++ g :: c)), u9, u10, u11, u12, u13, u14, u15, u16, u17, u18, u19, u20, u21, u22, u23, u24, u25], defers := [] } ∧
    a1 ++ a2 = a ∧ Hid (∃ q, W = w.drewN q)
/-- A scope that jumps back to its label: the way from the label on is walked once. -/
theorem wp_scope_again {P : Program} {A : Act} {W : World} {Q : Exit → Act → World → Prop} {c rest : Code} (l : Nat) (J : Act → World → Prop) (μ : Act → World → Nat) (hf : findLabel c l = some (.seq .skip rest))
    (pass : ∀ a w, J a w → rest.wp P (Exit.jump l (fun a' w' => J a' w' ∧ μ a' w' < μ a w) Q) a w)
    (first : (∀ a w, J a w → rest.wp P (Exit.jump l J Q) a w) → c.wp P (Exit.jump l J Q) A W) : (Code.scope c).wp P Q A W :=
  wp_scope_jumps l J μ hf (first fun a w hj => wp_mono (pass a w hj) (fun e a w h => by cases e <;> first | exact h | exact ⟨h.1, h.2.1⟩)) fun a w hj => wp_seq (wp_skip (pass a w hj))
set_option maxRecDepth 100000 in
theorem ahead_any (b : Nat) (m n : Int) (N I : Int → Int) (F L : Nat → Int) (k : Nat) (a c : List Int) (g : Int) (w : World) (h : Raw w b m n N I F L) (hk : k < 64) (hF : F k = (a ++ g :: c).headD 0) (hl : Qp.Links N (a ++ g :: c)) (hn : (a ++ g :: c).Nodup) (hm : ∀ x ∈ a ++ g :: c, 1 ≤ x ∧ x ≤ 64) :
    Calls Try.prog 29 #[.pointer (some ⟨b, 0, none⟩), .int .i64 k, .int .i64 g] w fun e w' => e = .returned (.int .i64 (la a)) ∧ ∃ q, w' = w.drewN q := by
  have cf := h.f k hk
  have H := Lib.hid h
  have HF := Lib.hid hF
  have HL := Lib.hid hl
  have HM := Lib.hid hm
  have HN := Lib.hid hn
  clear h hF hl hm hn
  go_enter Try.func29, Try.ntmps29
  go_wp2
  refine wp_scope_again 0 (Along b k g a c w) (fun A _ => rank a (intOf (A.tmps.getD 8 undef))) rfl ?_ ?_
  · rintro A W ⟨a1, a2, u9, u10, u11, u12, u13, u14, u15, u16, u17, u18, u19, u20, u21, u22, u23, u24, u25, rfl, ha, HW⟩
    cases a2 with
    | nil =>
      rw [show hd ([] ++ g :: c) = g from rfl] at *
      go_wp2_with fail
      simp only [Exit.jump]
      go_ret
      rw [List.append_nil] at ha
      subst ha
      exact ⟨rfl, HW.out⟩
    | cons x t =>
      subst ha
      rw [show hd (x :: t ++ g :: c) = x from rfl] at *
      have hmx := HM.out x (by simp)
      obtain ⟨j, rfl⟩ : ∃ j : Nat, x = j := ⟨x.toNat, by omega⟩
      have hnx := HN.out
      have hne : ((j : Int) != g) = true := by
        rw [bne_iff_ne]
        intro e
        have := (Qp.not_mid hnx).1
        simp [e] at this
      have hlx := HL.out
      rw [List.append_assoc] at hlx
      have hnj := (Qp.links_after hlx).1
      have cn : W.cell? ⟨b, 2 + j, none⟩ = some (.int .i64 (hd (t ++ g :: c))) := by
        obtain ⟨q, rfl⟩ := HW.out
        exact (H.out.n j (by omega)).trans (by rw [hnj]; rfl)
      have i1 : (j : Int) < 65 := by omega
      have i2 : j < 65 := by omega
      have r1 := rank_at (a1 := a1) (a2 := (j : Int) :: t) hnx
      have r2 := rank_at (a1 := a1 ++ [(j : Int)]) (a2 := t) (g := g) (c := c) (by simpa using hnx)
      have RK := Lib.hid (And.intro r1 r2)
      clear hnx hlx hnj r1 r2 hmx cf
      go_wp2_with fail
      go_quiet (fail)
      go_wp2_with fail
      go_step3
      exact ⟨rfl, ⟨a1 ++ [(j : Int)], t, _, _, _, _, _, _, _, _, _, _, _, _, _, _, _, _, _, by rw [la_snoc], by simp, by obtain ⟨q, hq⟩ := HW.out; exact Lib.hid ⟨q + nq, by rw [hq, World.drewN_drewN]⟩⟩, by
        have e1 := RK.out.1
        have e2 := RK.out.2
        rw [List.append_assoc] at e2
        simp only [List.singleton_append] at e2
        show rank _ (hd (t ++ g :: c)) < rank _ (j : Int)
        rw [show hd ((j : Int) :: t ++ g :: c) = (j : Int) from rfl] at e1
        rw [e2, e1]
        simp⟩
  · intro rest
    have HFF := Lib.hid (show F k = hd (a ++ g :: c) from HF.out)
    rw [HFF.out] at cf
    have i1 : (k : Int) < 64 := by omega
    go_wp2
    go_quiet (fail)
    go_wp2_with fail
    go_step3
    rename_i hK
    refine hK _ _ (rest _ _ ⟨[], a, _, _, _, _, _, _, _, _, _, _, _, _, _, _, _, _, _, rfl, rfl, Lib.hid ⟨_, rfl⟩⟩)
end Go.Proofs.Ythljecllmdbbbaa

