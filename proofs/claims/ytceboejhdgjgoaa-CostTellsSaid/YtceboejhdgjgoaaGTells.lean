/- CostTells: of any cost whether it may be; and, of those that may, with any move, and together, are the document's: the call answers true and changes nothing that was there; for every input. -/
import Derived.Test.YtceboejhdgjgoaaGShown
import Derived.Deep.RegionHeld3
namespace Go.Proofs.Ytceboejhdgjgoaa.costTells
open Go.ChangeShapes Go.WideShapes Go.ChangeAt Go.RowKit
set_option linter.unusedVariables false

theorem held_trans {W9 W w' : World} (h : Below W9.heap.size W9 W) (hb : Below W.heap.size W w') : Below W9.heap.size W9 w' := h.trans (hb.mono h.size)
/-- The four boxes of the law's. -/
structure Bs (w W : World) (Px Py : Nat) (x y u v : Int) : Prop where
  a : Cel2 W w.heap.size (.int .i64 x) (.int .i64 y)
  b : Cel2 W (w.heap.size + 1) (.int .i64 u) (.int .i64 v)
  c : Cel2 W Px (.int .i64 x) (.int .i64 y)
  d : Cel2 W Py (.int .i64 u) (.int .i64 v)
  below : Below w.heap.size w W
theorem Bs.step {w W W' : World} {Px Py : Nat} {x y u v : Int} (h : Bs w W Px Py x y u v) (hb : Below W.heap.size W W') : Bs w W' Px Py x y u v := ⟨h.a.step hb, h.b.step hb, h.c.step hb, h.d.step hb, h.below.trans (hb.mono h.below.size)⟩
theorem Bs.new {w w1 : World} {x y u v : Int} {Px Py : Nat} (T U : TypeId) (hb : Below (w.heap.size + 2) ((w.alloc (.cells #[.int .i64 x, .int .i64 y] T)).alloc (.cells #[.int .i64 u, .int .i64 v] T)) w1) (hx : w1.heap.size = Px) (hy : w1.heap.size + 1 = Py) :
    Bs w ((w1.alloc (.cells #[.int .i64 x, .int .i64 y] U)).alloc (.cells #[.int .i64 u, .int .i64 v] U)) Px Py x y u v := by
  have hs : ((w.alloc (.cells #[.int .i64 x, .int .i64 y] T)).alloc (.cells #[.int .i64 u, .int .i64 v] T)).heap.size = w.heap.size + 2 := by simp
  have h0 : Below w.heap.size w ((w.alloc (.cells #[.int .i64 x, .int .i64 y] T)).alloc (.cells #[.int .i64 u, .int .i64 v] T)) := ((Below.refl _ w).alloc (Nat.le_refl _) _).alloc (by simp) _
  have a1 := (Cel2.new w (.int .i64 x) (.int .i64 y) T).step (below_new _ (.cells #[.int .i64 u, .int .i64 v] T))
  have b1 := Cel2.new (w.alloc (.cells #[.int .i64 x, .int .i64 y] T)) (.int .i64 u) (.int .i64 v) T
  rw [show (w.alloc (.cells #[.int .i64 x, .int .i64 y] T)).heap.size = w.heap.size + 1 by simp] at b1
  have hb' := hb
  rw [← hs] at hb'
  have a2 := a1.step hb'
  have b2 := b1.step hb'
  have n1 := below_new w1 (.cells #[.int .i64 x, .int .i64 y] U)
  have n2 := below_new (w1.alloc (.cells #[.int .i64 x, .int .i64 y] U)) (.cells #[.int .i64 u, .int .i64 v] U)
  have c1 := Cel2.new w1 (.int .i64 x) (.int .i64 y) U
  have d1 := Cel2.new (w1.alloc (.cells #[.int .i64 x, .int .i64 y] U)) (.int .i64 u) (.int .i64 v) U
  rw [show (w1.alloc (.cells #[.int .i64 x, .int .i64 y] U)).heap.size = Py by rw [← hy]; simp] at d1
  rw [hx] at c1
  have hz := h0.trans (hb'.mono h0.size)
  exact ⟨(a2.step n1).step n2, (b2.step n1).step n2, c1.step n2, d1, hz.trans ((n1.trans (n2.mono n1.size)).mono hz.size)⟩
theorem pre {w w1 : World} {x y u v : Int} (T : TypeId) (hb : Below (w.heap.size + 2) ((w.alloc (.cells #[.int .i64 x, .int .i64 y] T)).alloc (.cells #[.int .i64 u, .int .i64 v] T)) w1) : Cel2 w1 w.heap.size (.int .i64 x) (.int .i64 y) ∧ Cel2 w1 (w.heap.size + 1) (.int .i64 u) (.int .i64 v) := by
  have hs : ((w.alloc (.cells #[.int .i64 x, .int .i64 y] T)).alloc (.cells #[.int .i64 u, .int .i64 v] T)).heap.size = w.heap.size + 2 := by simp
  have a1 := (Cel2.new w (.int .i64 x) (.int .i64 y) T).step (below_new _ (.cells #[.int .i64 u, .int .i64 v] T))
  have b1 := Cel2.new (w.alloc (.cells #[.int .i64 x, .int .i64 y] T)) (.int .i64 u) (.int .i64 v) T
  rw [show (w.alloc (.cells #[.int .i64 x, .int .i64 y] T)).heap.size = w.heap.size + 1 by simp] at b1
  have hb' := hb
  rw [← hs] at hb'
  exact ⟨a1.step hb', b1.step hb'⟩
set_option maxRecDepth 100000 in
set_option maxHeartbeats 2000000 in
theorem walk (x y u v far : Int) (w : World) (ix : In64 x) (iy : In64 y) (iu : In64 u) (iv : In64 v) (hf : In64 far) :
    Calls Try.prog 3 #[.agg #[.int .i64 x, .int .i64 y], .agg #[.int .i64 u, .int .i64 v], .int .i64 far] w fun e w' => e = .returned (.bool true) ∧ Below w.heap.size w w' := by
  obtain ⟨T, hT⟩ : ∃ T, decide (Gp.May (x, y)) = T := ⟨_, rfl⟩
  obtain ⟨U, hU⟩ : ∃ U, decide (Gp.May (u, v)) = U := ⟨_, rfl⟩
  have HT := Lib.hid hT
  have HU := Lib.hid hU
  have HF := Lib.hid hf
  clear hT hU hf ix iy iu iv
  go_enter Try.func3, Try.ntmps3
  go_wp2_with fail
  refine (shown_any _).mono ?_
  rintro e w1 ⟨rfl, hb1⟩
  obtain ⟨Px, hPx⟩ : ∃ Px, Px = w1.heap.size := ⟨_, rfl⟩
  obtain ⟨Py, hPy⟩ : ∃ Py, Py = w1.heap.size + 1 := ⟨_, rfl⟩
  have B1 := Lib.hid (Bs.new (Px := Px) (Py := Py) 23 25 (by simpa using hb1) hPx.symm hPy.symm)
  obtain ⟨p1, p2⟩ := pre 23 (show Below (w.heap.size + 2) _ w1 by simpa using hb1)
  have q2 := p2.step (below_new w1 (.cells #[.int .i64 x, .int .i64 y] 25))
  have j0 := p1.c0
  have j1 := p1.c1
  have j2 := q2.c0
  have j3 := q2.c1
  clear hb1 p1 p2 q2
  go_wp2_with fail
  rw [← hPy, ← hPx]
  generalize (w1.alloc (.cells #[.int .i64 x, .int .i64 y] 25)).alloc (.cells #[.int .i64 u, .int .i64 v] 25) = V at *
  clear hPx hPy j0 j1 j2 j3
  have a0 := B1.out.a.c0
  have a1 := B1.out.a.c1
  have b0 := B1.out.b.c0
  have b1 := B1.out.b.c1
  have c0 := B1.out.c.c0
  have c1 := B1.out.c.c1
  have d0 := B1.out.d.c0
  have d1 := B1.out.d.c1
  have bz : Below V.heap.size V V.drew := (Below.refl _ _).drew
  have tt : (T != T) = false := by simp
  have uu : (U != U) = false := by simp
  go_region_held3 (fun w' => w'.cell? ⟨w.heap.size, 0, none⟩ = some (.int .i64 x) ∧ w'.cell? ⟨w.heap.size, 1, none⟩ = some (.int .i64 y) ∧ w'.cell? ⟨w.heap.size + 1, 0, none⟩ = some (.int .i64 u) ∧ w'.cell? ⟨w.heap.size + 1, 1, none⟩ = some (.int .i64 v) ∧ w'.cell? ⟨Px, 0, none⟩ = some (.int .i64 x) ∧ w'.cell? ⟨Px, 1, none⟩ = some (.int .i64 y) ∧ w'.cell? ⟨Py, 0, none⟩ = some (.int .i64 u) ∧ w'.cell? ⟨Py, 1, none⟩ = some (.int .i64 v))
    (first
      | (go_split_ands; refine ⟨keepcell hbX (by assumption), keepcell hbX (by assumption), keepcell hbX (by assumption), keepcell hbX (by assumption), keepcell hbX (by assumption), keepcell hbX (by assumption), keepcell hbX (by assumption), keepcell hbX (by assumption)⟩)
      | (refine ⟨a0, a1, b0, b1, c0, c1, d0, d1⟩))
    (first
      | (go_at_call_of 9 (Value.agg #[.int .i64 x, .int .i64 y]); refine (may_any x y T HT _).mono ?_; rintro e u1 ⟨rfl, hbX⟩; have m1 := held_trans bz hbX)
      | (go_at_call_of 10 (Value.agg #[.int .i64 x, .int .i64 y]); refine (refMay_any x y T HT _).mono ?_; rintro e u2 ⟨rfl, hbX⟩; have m2 := held_trans m1 hbX)
      | (go_at_call_of 9 (Value.agg #[.int .i64 u, .int .i64 v]); refine (may_any u v U HU _).mono ?_; rintro e u3 ⟨rfl, hbX⟩; have m3 := held_trans m2 hbX)
      | (go_at_call_of 10 (Value.agg #[.int .i64 u, .int .i64 v]); refine (refMay_any u v U HU _).mono ?_; rintro e u4 ⟨rfl, hbX⟩; have m4 := held_trans m3 hbX))
  have B2 := Lib.hid (B1.out.step m4)
  clear m1 m2 m3 m4 bz hbX a0 a1 b0 b1 c0 c1 d0 d1 B1
  have a0 := B2.out.a.c0
  have a1 := B2.out.a.c1
  have b0 := B2.out.b.c0
  have b1 := B2.out.b.c1
  have c0 := B2.out.c.c0
  have c1 := B2.out.c.c1
  have d0 := B2.out.d.c0
  have d1 := B2.out.d.c1
  go_wp2_with fail
  refine (may_any x y T HT _).mono ?_
  rintro e u5 ⟨rfl, hb5⟩
  have B5 := Lib.hid (B2.out.step hb5)
  clear hb5 B2 a0 a1 b0 b1 c0 c1 d0 d1
  cases T with
  | false =>
    go_wp2_with fail
    go_ret
    exact ⟨rfl, B5.out.below⟩
  | true =>
    have a0 := B5.out.a.c0
    have a1 := B5.out.a.c1
    have b0 := B5.out.b.c0
    have b1 := B5.out.b.c1
    have c0 := B5.out.c.c0
    have c1 := B5.out.c.c1
    have d0 := B5.out.d.c0
    have d1 := B5.out.d.c1
    go_wp2_with fail
    refine (may_any u v U HU _).mono ?_
    rintro e u6 ⟨rfl, hb6⟩
    have B6 := Lib.hid (B5.out.step hb6)
    clear hb6 B5 a0 a1 b0 b1 c0 c1 d0 d1
    cases U with
    | false =>
      go_wp2_with fail
      go_ret
      exact ⟨rfl, B6.out.below⟩
    | true =>
      have hm : Gp.May (x, y) := of_decide_eq_true HT.out
      have hk : Gp.May (u, v) := of_decide_eq_true HU.out
      obtain ⟨⟨p, q⟩, hpq⟩ : ∃ r, r = Gp.add (x, y) far := ⟨_, rfl⟩
      obtain ⟨⟨r, s⟩, hrs⟩ : ∃ r, r = Gp.join (x, y) (u, v) := ⟨_, rfl⟩
      have A1 := Lib.hid (fun W => add_any x y far W hm HF.out)
      have A2 := Lib.hid (fun W => refAdd_any x y far W hm HF.out)
      have J1 := Lib.hid (fun W => join_any x y u v W hm hk)
      have J2 := Lib.hid (fun W => refJoin_any x y u v W hm hk)
      rw [← hpq] at A1 A2
      rw [← hrs] at J1 J2
      unfold TellC cv at A1 A2 J1 J2
      simp only at A1 A2 J1 J2
      clear hm hk hpq hrs
      have a0 := B6.out.a.c0
      have a1 := B6.out.a.c1
      have b0 := B6.out.b.c0
      have b1 := B6.out.b.c1
      have c0 := B6.out.c.c0
      have c1 := B6.out.c.c1
      have d0 := B6.out.d.c0
      have d1 := B6.out.d.c1
      have bz : Below u6.heap.size u6 u6.drew := (Below.refl _ _).drew
      go_wp2_with fail
      go_region_held3 (fun w' => w'.cell? ⟨w.heap.size, 0, none⟩ = some (.int .i64 x) ∧ w'.cell? ⟨w.heap.size, 1, none⟩ = some (.int .i64 y) ∧ w'.cell? ⟨w.heap.size + 1, 0, none⟩ = some (.int .i64 u) ∧ w'.cell? ⟨w.heap.size + 1, 1, none⟩ = some (.int .i64 v) ∧ w'.cell? ⟨Px, 0, none⟩ = some (.int .i64 x) ∧ w'.cell? ⟨Px, 1, none⟩ = some (.int .i64 y) ∧ w'.cell? ⟨Py, 0, none⟩ = some (.int .i64 u) ∧ w'.cell? ⟨Py, 1, none⟩ = some (.int .i64 v))
        (first
          | (go_split_ands; refine ⟨keepcell hbX (by assumption), keepcell hbX (by assumption), keepcell hbX (by assumption), keepcell hbX (by assumption), keepcell hbX (by assumption), keepcell hbX (by assumption), keepcell hbX (by assumption), keepcell hbX (by assumption)⟩)
          | (refine ⟨a0, a1, b0, b1, c0, c1, d0, d1⟩))
        (first
          | (go_at_call 12; refine (A1.out _).mono ?_; rintro e v1 ⟨rfl, hbX⟩; have m1 := held_trans bz hbX)
          | (go_at_call 13; refine (A2.out _).mono ?_; rintro e v2 ⟨rfl, hbX⟩; have m2 := held_trans m1 hbX)
          | (go_at_call_of 11 (Value.agg #[.int .i64 p, .int .i64 q]); refine (same_any p q _).mono ?_; rintro e v3 ⟨rfl, hbX⟩; have m3 := held_trans m2 hbX)
          | (go_at_call 14; refine (J1.out _).mono ?_; rintro e v4 ⟨rfl, hbX⟩; have m4 := held_trans m3 hbX)
          | (go_at_call 15; refine (J2.out _).mono ?_; rintro e v5 ⟨rfl, hbX⟩; have m5 := held_trans m4 hbX)
          | (go_at_call_of 11 (Value.agg #[.int .i64 r, .int .i64 s]); refine (same_any r s _).mono ?_; rintro e v6 ⟨rfl, hbX⟩; have m6 := held_trans m5 hbX))
      have B9 := Lib.hid (B6.out.step m6)
      clear m1 m2 m3 m4 m5 m6 bz hbX a0 a1 b0 b1 c0 c1 d0 d1 B6
      go_wp2_with fail
      go_ret
      exact ⟨rfl, B9.out.below⟩
set_option maxRecDepth 100000 in
theorem lifted (os : Os) (started : os.Started) (H : Type) (enc : TypeId × Value → H) :
    ReturnsInHanded {} Try.checked os 3 .any (Rows.costTellsSpec.pre6 enc Try.prog Try.f3 Rows.costTellsRow.domain false) (Rows.costTellsSpec.post enc Try.prog Try.f3 false true false false) := by
  refine returnsInHanded_of_change (C := Try.checked) own started (by kernel_rfl) Try.func3
    (ChangeSpec.witness6 (enc := enc) (C := Try.checked) false ⟨#[], #[.agg #[.int .i64 0, .int .i64 0], .agg #[.int .i64 0, .int .i64 0], .int .i64 0], []⟩ 8 (by kernel_rfl) (by kernel_rfl) (by kernel_rfl) (by kernel_rfl)) ?_
  intro W base args ds gs before hval0 hW hcnd _
  have hval : ∀ (j : Nat) t v, Try.f3.params[j]? = some t → args[j]? = some v → Value.okWide Try.prog W .any base t v := hval0
  have hW' := hW
  obtain ⟨p, q, hA0, hV, rfl, hfz, hnd⟩ := hW
  have hA : DataW.TrodAll enc Try.prog W 0 (fun _ => true) true Try.f3.params.toList args.toList ds p := hA0
  rw [Try.params3] at hA hval
  obtain ⟨v0, vs0, d0, ds0, p0, q0, hargs, rfl, rfl, h0, r0⟩ := trodAll_cons hA
  obtain ⟨v1, vs1, d1, ds1, p1, q1, rfl, rfl, rfl, h1, r1⟩ := trodAll_cons r0
  obtain ⟨v2, vs2, d2, ds2, p2, q2, rfl, rfl, rfl, h2, r2⟩ := trodAll_cons r1
  obtain ⟨rfl, rfl, rfl⟩ := trodAll_nil r2
  obtain rfl : args = #[v0, v1, v2] := by cases args; simp_all
  obtain ⟨rfl, rfl⟩ := trodVars_none hV
  have k0 := h0
  have lt0 : ∀ x ∈ p0, x.block < W.heap.size := by obtain ⟨m, hm⟩ := k0; exact DataW.trod_lt m _ _ _ hm
  obtain ⟨x0, y0, rfl, ix0, iy0⟩ := open_cost (hval 0 23 v0 rfl rfl) h0
  have k1 := h1
  have lt1 : ∀ x ∈ p1, x.block < W.heap.size := by obtain ⟨m, hm⟩ := k1; exact DataW.trod_lt m _ _ _ hm
  obtain ⟨x1, y1, rfl, ix1, iy1⟩ := open_cost (hval 1 23 v1 rfl rfl) h1
  obtain ⟨a2, rfl, rfl, rfl, w2⟩ := open_int Try.underlying3 (hval 2 3 v2 rfl rfl) h2
  clear hA0 hval0
  refine (walk x0 y0 x1 y1 a2 W ix0 iy0 ix1 iy1 (in64_of_wf w2)).mono fun e W' ⟨he, bel⟩ => ?_
  subst he
  exact ⟨_, rfl, _, _, _, [], _, [], hW', trodAll_mk1 (shut_bool Try.underlying4 _), (trodAll_cons_mk (Below.trod laidOut (by kernel_rfl) (of_decide_eq_true (by kernel_rfl)) k0 bel lt0) (trodAll_cons_mk (Below.trod laidOut (by kernel_rfl) (of_decide_eq_true (by kernel_rfl)) k1 bel lt1) (trodAll_cons_mk (shut_int Try.underlying3 w2) trodAll_mk0))), rfl, bel.frame _, fun h => by cases h⟩
theorem over : Rows.costTellsRow.holds Try.pinned (OpenSpec.ofChange Rows.costTellsSpec) :=
  OpenClaim.holds_of_wide 3 Try.f3 rfl rfl rfl rfl rfl rfl rfl ⟨rfl, rfl, rfl, rfl, rfl⟩ rfl rfl rfl rfl rfl (by kernel_rfl) Try.func3 (by kernel_rfl)
    (of_decide_eq_true (by kernel_rfl)) (by unfold Func.isWrapper; first | (rw [if_pos (by decide +kernel)]; kernel_rfl) | (rw [if_neg (by decide +kernel)]; exact ⟨rfl, rfl⟩))
    (fun os started H enc _ => lifted os started H enc)
theorem proved : Rows.CostTellsSaid := over
end Go.Proofs.Ytceboejhdgjgoaa.costTells

