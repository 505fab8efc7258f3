/- The document's Pop, by its contract. -/
import Derived.Test.YthljecllmdbbbaaQRefDrop
import Derived.Test.YthljecllmdbbbaaQDrop
namespace Go.Proofs.Ythljecllmdbbbaa
open Go.RowKit
set_option linter.unusedVariables false

/-- What a call leaves that has made an arena, and tells a number, and whether. -/
def MadeXIB (P : Nat → Prop) (m : Int) (q : List (List Int)) (g : Int) (s : Bool) (w0 : World) (e : Ending) (w' : World) : Prop :=
  ∃ A n c, e = .returned (.tuple #[.agg #[.int .i64 m, .slice A n c], .int .i64 g, .bool s]) ∧ Rws w' P A n c q ∧ Below w0.heap.size w0 w'
theorem put_keep_drew {W : World} {X b o : Nat} {u v z : Value} (h : W.cell? ⟨b, o, none⟩ = some z) (hne : b ≠ X) : ((W.setCell ⟨X, 0, none⟩ u).setCell ⟨X, 1, none⟩ v).drew.cell? ⟨b, o, none⟩ = some z := put_keep h hne
/-- What there is when the arena without the first one lies in a variable. -/
structure PopAt (P : Nat → Prop) (w W : World) (c5 : Nat) (m : Int) (sl : Value) (A : Option Addr) (n c : Nat) (q : List (List Int)) (b1 o1 : Nat) (x : Int) : Prop where
  bx : Bx w W (.int .i64 m) sl (.int .i64 0) (.slice none 0 0)
  cel : Cel5 W c5 (.int .i64 m) (.slice A n c)
  rws : Rws W (fun x => P x ∧ x ≠ w.heap.size + 1) A n c q
  at1 : W.cell? ⟨b1, o1, none⟩ = some (.int .i64 x)
  far : w.heap.size + 2 ≤ c5
theorem popAt_new {P : Nat → Prop} {w W : World} {m : Int} {sl : Value} {A : Option Addr} {n c : Nat} {q : List (List Int)} {b1 o1 : Nat} {x : Int} (T : TypeId) (hx : Bx w W (.int .i64 m) sl (.int .i64 0) (.slice none 0 0))
    (hr : Rws W (fun x => P x ∧ x ≠ w.heap.size + 1) A n c q) (h1 : W.cell? ⟨b1, o1, none⟩ = some (.int .i64 x)) : ∃ W5, W5 = W.alloc (.cells #[.int .i64 m, .slice A n c] T) ∧ PopAt P w W5 W.heap.size m sl A n c q b1 o1 x :=
  ⟨_, rfl, hx.step (below_new _ _), Cel5.new _ _ _ _, hr.step (below_new _ _), keepcell (below_new _ _) h1, hx.size⟩
theorem popAt_put {P : Nat → Prop} {w W : World} {c5 : Nat} {m : Int} {sl y z : Value} {A : Option Addr} {n c : Nat} {q : List (List Int)} {b1 o1 : Nat} {x : Int} (hx : Bx w W (.int .i64 m) sl (.int .i64 0) (.slice none 0 0)) (hc : Cel5 W c5 y z)
    (hr : Rws W (fun x => (P x ∧ x ≠ w.heap.size + 1) ∧ x ≠ c5) A n c q) (h1 : W.cell? ⟨b1, o1, none⟩ = some (.int .i64 x)) (h5 : w.heap.size + 2 ≤ c5) (hb : b1 ≠ c5) : ∃ W5, W5 = (W.setCell ⟨c5, 0, none⟩ (.int .i64 m)).setCell ⟨c5, 1, none⟩ (.slice A n c) ∧ PopAt P w W5 c5 m sl A n c q b1 o1 x :=
  ⟨_, rfl, (hx.grown (grown_setCell W c5 0 _) (fun k e => by injection e with e; omega)).grown (grown_setCell _ c5 1 _) (fun k e => by injection e with e; omega), hc.put _ _, hr.told, put_keep h1 hb, h5⟩
set_option maxHeartbeats 4000000 in
set_option maxRecDepth 100000 in
theorem refPop_any (m m' : Int) (P : Nat → Prop) (A : Option Addr) (n c : Nat) (q : List (List Int)) (k : Int) (w : World) (h : Rws w P A n c q) (hB : ∀ b, w.heap.size ≤ b → P b) (hn : n ≤ 1000) (hll : ∀ (i : Nat) l, q[i]? = some l → l.length ≤ 1000) (hok : Qp.Ok m' q) :
    Calls Try.prog 15 #[.agg #[.int .i64 m, .slice A n c], .int .i64 k] w (MadeXIB P m (Qp.pop q k) (Qp.first q k) (Qp.some? q k) w) := by
  have H := Lib.hid h
  have hcap := h.cap
  have hmost := h.most
  have HLL := Lib.hid hll
  have HOK := Lib.hid hok
  clear h hll hok
  obtain ⟨W0, hW0, hX0⟩ := Bx.start w (.int .i64 m) (.slice A n c) (.int .i64 0) (.slice none 0 0) 30 30
  have X0 := Lib.hid hX0
  have E0 := Lib.hid hW0
  clear hX0 hW0
  have hpi := pop_is HOK.out k
  have HPI := Lib.hid hpi
  obtain ⟨l, hl⟩ : ∃ l, l = Qp.all q k := ⟨_, rfl⟩
  have HF := Lib.hid (show Qp.first q k = l.headD 0 by rw [hl]; rfl)
  have HS := Lib.hid (show Qp.some? q k = !l.isEmpty by rw [hl]; rfl)
  have HP := Lib.hid (show l.isEmpty = true → Qp.pop q k = q from fun e => by unfold Qp.pop; rw [← hl, if_pos e])
  have HA := Lib.hid hl
  clear hpi hl
  go_enter Try.func15, Try.ntmps15
  go_wp2_with fail
  rw [← E0.out]
  clear E0
  refine (refAll_any m (fun x => P x ∧ x ≠ w.heap.size + 1) A n c q k W0 ((H.out.imp (fun x hx hp => ⟨hp, by omega⟩)).step X0.out.below)).mono ?_
  rintro e w1 ⟨A1, n1, c1, rfl, hr1, hf1, hb1⟩
  rw [← HA.out] at hr1 hf1
  have X1 := Lib.hid (X0.out.step hb1)
  have d0 := X1.out.c0
  have d1 := X1.out.c1
  have d2 := X1.out.r0
  have d3 := X1.out.r1
  have d4 := X1.out.f0
  have d5 := X1.out.f1
  have hlen := hr1.len
  cases l with
  | nil =>
    simp only [List.length_nil] at hlen
    subst hlen
    obtain ⟨k0, k1⟩ := told2 (u := .int .i64 m) (v := .slice A n c) d2 d3
    have hbw := (X1.out.below.setCell (p := ⟨w.heap.size + 1, 0, none⟩) (by simp only; omega) (.int .i64 m)).setCell (p := ⟨w.heap.size + 1, 1, none⟩) (by simp only; omega) (.slice A n c)
    have HM := Lib.hid (show MadeXIB P m q 0 false w (.returned (.tuple #[.agg #[.int .i64 m, .slice A n c], .int .i64 0, .bool false])) _ from ⟨A, n, c, rfl, H.out.step hbw, hbw⟩)
    clear hbw hb1 hr1 hf1
    go_wp2_with fail
    refine bodyPost_ret (v := .tuple #[.agg #[.int .i64 m, .slice A n c], .int .i64 0, .bool false]) ?_ rfl ?_
    · simp [results, Try.results15, go_sem, k0, k1]
    rw [HP.out rfl, HF.out, HS.out]
    exact HM.out
  | cons x t =>
    have hn1 : 0 < n1 := by simp at hlen; omega
    obtain ⟨b1, o1, rfl, hb1', hc1⟩ := hr1.cells hn1
    have cx := hc1 0 x rfl
    have hb1n : b1 ≠ w.heap.size + 1 := (hf1 _ rfl (by simp)).2
    rw [Nat.add_zero] at cx
    have hne : ((n1 : Int) == 0) = false := by rw [beq_eq_false_iff_ne]; omega
    have HF2 := Lib.hid (show Qp.first q k = x from HF.out)
    have HS2 := Lib.hid (show Qp.some? q k = true from HS.out)
    have HPO := Lib.hid (show Qp.drop q x = Qp.pop q k by have := HPI.out.1; rwa [HF2.out] at this)
    have HSX := Lib.hid (show Qp.stands q x = true by have := HPI.out.2; rwa [HF2.out, HS2.out] at this)
    have hsz := X1.out.size
    have i1 : (0 : Int) < (n1 : Int) := by omega
    clear hb1 hr1 hf1 hlen hc1
    go_wp2_with fail
    go_region_held3 (fun w' => w'.cell? ⟨w.heap.size, 0, none⟩ = some (.int .i64 m) ∧ w'.cell? ⟨w.heap.size, 1, none⟩ = some (.slice A n c) ∧ w'.cell? ⟨b1, o1, none⟩ = some (.int .i64 x))
      (first | (refine ⟨?_, ?_, ?_⟩ <;> assumption) | (refine ⟨keepcell (below_new _ _) (by assumption), keepcell (below_new _ _) (by assumption), keepcell (below_new _ _) (by assumption)⟩) | (refine ⟨put_keep (by assumption) (by omega), put_keep (by assumption) (by omega), put_keep (by assumption) (by omega)⟩) | (refine ⟨put_keep (keepcell (below_new _ _) (by assumption)) (by have := hb4.size; simp at this; omega), put_keep (keepcell (below_new _ _) (by assumption)) (by have := hb4.size; simp at this; omega), put_keep (keepcell (below_new _ _) (by assumption)) (by have := hb4.size; simp at this; omega)⟩) | go_keep)
      ((go_at_call 17; (first | refine (refDrop_any m m' (fun x => (P x ∧ x ≠ w.heap.size + 1) ∧ x ≠ w1.heap.size) A n c q x _ ((H.out.imp (fun x hx hp => ⟨⟨hp, by omega⟩, by omega⟩)).step (by first | exact X1.out.below.drew | exact (X1.out.below.alloc X1.out.below.size _).drew)) (fun x hx => by have := X1.out.size; simp at hx; exact ⟨⟨hB x (by omega), by omega⟩, by omega⟩) hn HLL.out HOK.out).mono ?_ | refine (refDrop_any m m' (fun x => P x ∧ x ≠ w.heap.size + 1) A n c q x _ ((H.out.imp (fun x hx hp => ⟨hp, by omega⟩)).step (by first | exact X1.out.below.drew | exact (X1.out.below.alloc X1.out.below.size _).drew)) (fun x hx => by have := X1.out.size; simp at hx; exact ⟨hB x (by omega), by omega⟩) hn HLL.out HOK.out).mono ?_); rintro e w4 ⟨A4, n4, c4, rfl, hR4, hb4⟩; have X4 : Bx w w4 (.int .i64 m) (.slice A n c) (.int .i64 0) (.slice none 0 0) := (by first | exact X1.out.drew.step hb4 | exact (X1.out.step (below_new _ _)).drew.step hb4); have e0 := X4.c0; have e1 := X4.c1; have ex : w4.cell? ⟨b1, o1, none⟩ = some (.int .i64 x) := (by first | exact keepcell_drew hb4 cx | exact keepcell_drew hb4 (keepcell (below_new _ _) cx)); (first | (have C4 : Cel5 w4 w1.heap.size (.int .i64 0) (.slice none 0 0) := (Cel5.new w1 _ _ _).drew.step hb4; have u0 := C4.c0; have u1 := C4.c1; have u2 := C4.f0; have u3 := C4.f1) | skip)))
    all_goals
      rename_i hHeld
      clear hHeld
      first
        | (obtain ⟨W5, hW5, Q5⟩ := popAt_new (P := P) (b1 := b1) (o1 := o1) (x := x) 30 X4 hR4 ex; rw [← hW5]; clear hW5; generalize w4.heap.size = c5 at Q5 ⊢)
        | (obtain ⟨W5, hW5, Q5⟩ := popAt_put (P := P) (b1 := b1) (o1 := o1) (x := x) (c5 := w1.heap.size) X4 C4 hR4 ex hsz (by omega); rw [← hW5]; clear hW5; generalize w1.heap.size = c5 at Q5 ⊢)
      clear hR4 hb4 X4 e0 e1 ex d0 d1 d2 d3 d4 d5
      have Q := Lib.hid Q5
      have e0 := Q5.cel.c0
      have e1 := Q5.cel.c1
      have ex := Q5.at1
      have l2 := Q5.bx.r0
      have l3 := Q5.bx.r1
      have l4 := Q5.bx.f0
      have l5 := Q5.bx.f1
      have hfar := Q5.far
      have hbw' := Q5.bx.below.size
      obtain ⟨k0, k1⟩ := told2 (u := .int .i64 m) (v := .slice A4 n4 c4) l2 l3
      have hbw := (Q5.bx.below.setCell (p := ⟨w.heap.size + 1, 0, none⟩) (by simp only; omega) (.int .i64 m)).setCell (p := ⟨w.heap.size + 1, 1, none⟩) (by simp only; omega) (.slice A4 n4 c4)
      have HM := Lib.hid (show MadeXIB P m (Qp.drop q x) x true w (.returned (.tuple #[.agg #[.int .i64 m, .slice A4 n4 c4], .int .i64 x, .bool true])) _ from ⟨A4, n4, c4, rfl, Q5.rws.told, hbw⟩)
      clear hbw Q5
      go_wp2_with fail
      go_region_held3 (fun w' => w'.cell? ⟨c5, 0, none⟩ = some (.int .i64 m) ∧ w'.cell? ⟨c5, 1, none⟩ = some (.slice A4 n4 c4) ∧ w'.cell? ⟨b1, o1, none⟩ = some (.int .i64 x))
        (first | (refine ⟨?_, ?_, ?_⟩ <;> assumption) | (refine ⟨put_keep_drew (by assumption) (by omega), put_keep_drew (by assumption) (by omega), put_keep_drew (by assumption) (by omega)⟩) | go_keep) (fail)
      all_goals
        rename_i hHeld
        clear hHeld
        have k0' : (((W5.setCell ⟨w.heap.size + 1, 0, none⟩ (.int .i64 m)).setCell ⟨w.heap.size + 1, 1, none⟩ (.slice A4 n4 c4)).drew).cell? ⟨w.heap.size + 1, 0, none⟩ = some (.int .i64 m) := k0
        have k1' : (((W5.setCell ⟨w.heap.size + 1, 0, none⟩ (.int .i64 m)).setCell ⟨w.heap.size + 1, 1, none⟩ (.slice A4 n4 c4)).drew).cell? ⟨w.heap.size + 1, 1, none⟩ = some (.slice A4 n4 c4) := k1
        go_wp2_with fail
        refine bodyPost_ret (v := .tuple #[.agg #[.int .i64 m, .slice A4 n4 c4], .int .i64 x, .bool true]) ?_ rfl ?_
        · simp [results, Try.results15, go_sem, k0, k1]
        rw [← HPO.out, HF2.out, HS2.out]
        obtain ⟨A9, n9, c9, e9, hr9, hb9⟩ := HM.out
        exact ⟨A9, n9, c9, e9, hr9.step (Below.refl _ _).drew, hb9.drew⟩
end Go.Proofs.Ythljecllmdbbbaa

