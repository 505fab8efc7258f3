/- ring.Put, Take, All and Half, by their contracts. -/
import Derived.Test.YthbofkhlbkdboaaRAdd
import Derived.Test.YthbofkhlbkdboaaRApp
namespace Go.Proofs.Ythbofkhlbkdboaa
open Go.RowKit
set_option linter.unusedVariables false

set_option maxHeartbeats 1600000 in
theorem put_any (x : Int) (A : Option Addr) (n c : Nat) (zs : List Int) (g s : Int) (w : World) (h : Row w A n c zs) (hn : n ≤ 100000) :
    Calls Try.prog 12 #[.agg #[.int .i64 x, .slice A n c], .int .i64 g, .int .i64 s] w (MadeRL w (Rp.put (x, zs) g s)) := by
  have H := Lib.hid h
  clear h
  obtain ⟨W0, hW0, hX0⟩ := Bx.start w (.int .i64 x) (.slice A n c) (.int .i64 0) (.slice none 0 0) 26 26
  have X0 := Lib.hid hX0
  have E0 := Lib.hid hW0
  clear hX0 hW0
  by_cases hx : x = 0
  · subst hx
    have HR := Lib.hid (show Rp.put (0, zs) g s = ((g, zs), []) from rfl)
    go_enter Try.func12, Try.ntmps12
    go_wp2_with fail
    rw [← E0.out]
    clear E0
    refine (left_at A n c zs 0 _ _ rfl (H.out.below X0.out.below) (by omega) (by omega)).mono ?_
    rintro e w2 ⟨A2, n2, c2, rfl, hr2, hf2, hb2⟩
    have X2 := X0.out.step hb2
    rw [List.drop_zero] at hr2
    have HM := made_rl (r := ((g, zs), [])) (x := g) (m := 0) (u := .int .i64 g) (v := .slice A2 n2 c2) (w := w) rfl hr2 (hf2.mono X0.out.size) (Row.nothing _) (From.none _) X2.below
    rw [← HR.out] at HM
    have HM := Lib.hid HM
    have d2 := X2.r0
    have d3 := X2.r1
    have d4 := X2.f0
    have d5 := X2.f1
    obtain ⟨k0, k1⟩ := told2 (u := .int .i64 g) (v := .slice A2 n2 c2) d2 d3
    clear hr2 hf2 hb2 HR
    go_wp2_with fail
    refine bodyPost_ret (v := .tuple #[.agg #[.int .i64 g, .slice A2 n2 c2], .slice none 0 0]) ?_ rfl ?_
    · simp [results, Try.results12, go_sem, k0, k1]
    exact HM.out
  · have HR := Lib.hid (show Rp.put (x, zs) g s = Rp.add (g, zs) x s by unfold Rp.put; rw [if_neg hx])
    have t1 : (x == 0) = false := by rw [beq_eq_false_iff_ne]; exact hx
    go_enter Try.func12, Try.ntmps12
    go_wp2_with fail
    rw [← E0.out]
    clear E0
    refine (add_any g A n c zs x s _ (H.out.below X0.out.below) hn).mono ?_
    rintro e w2 ⟨A2, n2, c2, B2, m2, d2, rfl, hr2, hf2, hq2, hg2, hb2⟩
    have X2 := X0.out.step hb2
    obtain ⟨y, hy⟩ : ∃ y, y = (Rp.add (g, zs) x s).1.1 := ⟨_, rfl⟩
    rw [← hy]
    have HM := made_rl (r := Rp.add (g, zs) x s) (x := y) (u := .int .i64 y) (v := .slice A2 n2 c2) (w := w) hy hr2 (hf2.mono X0.out.size) hq2 (hg2.mono X0.out.size) X2.below
    rw [← HR.out] at HM
    have HM := Lib.hid HM
    have l2 := X2.r0
    have l3 := X2.r1
    have l4 := X2.f0
    have l5 := X2.f1
    obtain ⟨k0, k1⟩ := told2 (u := .int .i64 y) (v := .slice A2 n2 c2) l2 l3
    clear hr2 hf2 hq2 hg2 hb2 hy
    go_wp2_with fail
    refine bodyPost_ret (v := .tuple #[.agg #[.int .i64 y, .slice A2 n2 c2], .slice B2 m2 d2]) ?_ rfl ?_
    · simp [results, Try.results12, go_sem, k0, k1]
    exact HM.out
/-- What a call leaves that has made a ring and a number. -/
def MadeRI (w0 : World) (r : (Int × List Int) × Int) (e : Ending) (w' : World) : Prop :=
  ∃ A n c, e = .returned (.tuple #[.agg #[.int .i64 r.1.1, .slice A n c], .int .i64 r.2]) ∧ Row w' A n c r.1.2 ∧ From w0.heap.size A ∧ Below w0.heap.size w0 w'
theorem made_ri {w W2 : World} {r : (Int × List Int) × Int} {A : Option Addr} {n c : Nat} {x y : Int} {u v : Value} (hx : x = r.1.1) (hy : y = r.2) (ha : Row W2 A n c r.1.2) (fa : From (w.heap.size + 2) A) (hbe : Below w.heap.size w W2) :
    MadeRI w r (.returned (.tuple #[.agg #[.int .i64 x, .slice A n c], .int .i64 y])) ((W2.setCell ⟨w.heap.size + 1, 0, none⟩ u).setCell ⟨w.heap.size + 1, 1, none⟩ v) := by
  subst hx hy
  exact ⟨A, n, c, rfl, (ha.set fa).set fa, fa.mono (by omega), (hbe.setCell (by simp) _).setCell (by simp) _⟩
set_option maxHeartbeats 1600000 in
theorem take_any (x : Int) (A : Option Addr) (n c : Nat) (zs : List Int) (w : World) (h : Row w A n c zs) (hn : n ≤ 100000) :
    Calls Try.prog 19 #[.agg #[.int .i64 x, .slice A n c]] w (MadeRI w (Rp.take (x, zs))) := by
  have H := Lib.hid h
  clear h
  obtain ⟨W0, hW0, hX0⟩ := Bx.start w (.int .i64 x) (.slice A n c) (.int .i64 0) (.slice none 0 0) 26 26
  have c0 := hX0.c0
  have c1 := hX0.c1
  have X0 := Lib.hid hX0
  have E0 := Lib.hid hW0
  clear hX0 hW0
  by_cases hx : x = 0
  · subst hx
    have t1 : ((0 : Int) != 0) = false := rfl
    by_cases h0 : n = 0
    · subst h0
      have hz : zs = [] := List.length_eq_zero_iff.1 H.out.len
      subst hz
      have HR := Lib.hid (show Rp.take (0, []) = ((0, []), 0) from rfl)
      go_enter Try.func19, Try.ntmps19
      go_wp2_with fail
      rw [← E0.out]
      clear E0
      go_region_held3 (fun w' => w'.cell? ⟨w.heap.size, 0, none⟩ = some (.int .i64 0) ∧ w'.cell? ⟨w.heap.size, 1, none⟩ = some (.slice A 0 c))
        (first | (refine ⟨?_, ?_⟩ <;> assumption) | go_keep)
        (first | (go_at_call 29; refine (left_at A 0 c [] 0 _ _ rfl (by exact H.out.below (X0.out.drew).below) (by omega) (by omega)).mono ?_; rintro e w2 ⟨A2, n2, c2, rfl, hr2, hf2, hb2⟩; have X2 := X0.out.drew.step hb2; have d0 := X2.c0; have d1 := X2.c1; have d2 := X2.r0; have d3 := X2.r1; have d4 := X2.f0; have d5 := X2.f1))
      rw [List.drop_zero] at hr2
      have HM := made_ri (r := ((0, []), 0)) (x := 0) (y := 0) (u := .int .i64 0) (v := .slice A2 n2 c2) (w := w) rfl rfl hr2 (hf2.mono X0.out.size) X2.below
      rw [← HR.out] at HM
      have HM := Lib.hid HM
      obtain ⟨k0, k1⟩ := told2 (u := .int .i64 0) (v := .slice A2 n2 c2) d2 d3
      clear d0 d1 d2 d3 d4 d5 hr2 hf2 hb2 HR c0 c1
      go_wp2_with fail
      refine bodyPost_ret (v := .tuple #[.agg #[.int .i64 0, .slice A2 n2 c2], .int .i64 0]) ?_ rfl ?_
      · simp [results, Try.results19, go_sem, k0, k1]
      exact HM.out
    · obtain ⟨b, off, rfl, hbk, hcs⟩ := H.out.cells (by omega)
      obtain ⟨z0, hz0⟩ : ∃ z, zs[0]? = some z := ⟨_, List.getElem?_eq_getElem (by rw [H.out.len]; omega)⟩
      have hc0 := hcs 0 z0 hz0
      rw [Nat.add_zero] at hc0
      have hd0 := keepcell X0.out.below hc0
      have HR := Lib.hid (show Rp.take (0, zs) = ((0, zs.drop 1), z0) by unfold Rp.take; rw [if_pos rfl]; congr 1; cases zs with | nil => cases hz0 | cons y ys => injection hz0)
      have hn0 : ((n : Int) == 0) = false := by rw [beq_eq_false_iff_ne]; omega
      have hn1 : (0 : Int) < (n : Int) := by omega
      have hn2 : 1 ≤ n := by omega
      have hn3 : 0 < n := by omega
      clear hcs hz0 hc0
      go_enter Try.func19, Try.ntmps19
      go_wp2_with fail
      rw [← E0.out]
      clear E0
      go_region_held3 (fun w' => w'.cell? ⟨w.heap.size, 0, none⟩ = some (.int .i64 0) ∧ w'.cell? ⟨w.heap.size, 1, none⟩ = some (.slice (some ⟨b, off, none⟩) n c) ∧ w'.cell? ⟨b, off, none⟩ = some (.int .i64 z0))
        (first | (refine ⟨?_, ?_, ?_⟩ <;> assumption) | (refine ⟨by go_keep, by go_keep, ?_⟩; (rw [World.cell?_setCell_other _ _ _ _ (fun e => by injection e with e; omega), World.cell?_setCell_other _ _ _ _ (fun e => by injection e with e; omega)]; assumption)))
        (first | (go_at_call 29; refine (left_at (some ⟨b, off, none⟩) n c zs 1 _ _ rfl (by exact H.out.below (X0.out.drew).below) (by omega) (by omega)).mono ?_; rintro e w2 ⟨A2, n2, c2, rfl, hr2, hf2, hb2⟩; have X2 := X0.out.drew.step hb2; have d0 := X2.c0; have d1 := X2.c1; have d2 := X2.r0; have d3 := X2.r1; have d4 := X2.f0; have d5 := X2.f1; have d6 := keepcell_drew hb2 hd0))
      have HM := made_ri (r := ((0, zs.drop 1), z0)) (x := 0) (y := z0) (u := .int .i64 0) (v := .slice A2 n2 c2) (w := w) rfl rfl hr2 (hf2.mono X0.out.size) X2.below
      rw [← HR.out] at HM
      have HM := Lib.hid HM
      obtain ⟨k0, k1⟩ := told2 (u := .int .i64 0) (v := .slice A2 n2 c2) d2 d3
      clear d0 d1 d2 d3 d4 d5 d6 hr2 hf2 hb2 HR c0 c1
      go_wp2_with fail
      refine bodyPost_ret (v := .tuple #[.agg #[.int .i64 0, .slice A2 n2 c2], .int .i64 z0]) ?_ rfl ?_
      · simp [results, Try.results19, go_sem, k0, k1]
      exact HM.out
  · have HR := Lib.hid (show Rp.take (x, zs) = ((0, zs), x) by unfold Rp.take; rw [if_neg hx])
    have t1 : (x != 0) = true := by simpa using hx
    go_enter Try.func19, Try.ntmps19
    go_wp2_with fail
    rw [← E0.out]
    clear E0
    go_region_held3 (fun w' => w'.cell? ⟨w.heap.size, 0, none⟩ = some (.int .i64 x) ∧ w'.cell? ⟨w.heap.size, 1, none⟩ = some (.slice A n c))
      (first | (refine ⟨?_, ?_⟩ <;> assumption) | go_keep)
      (first | (go_at_call 29; refine (left_at A n c zs 0 _ _ rfl (by exact H.out.below (X0.out.drew).below) (by omega) (by omega)).mono ?_; rintro e w2 ⟨A2, n2, c2, rfl, hr2, hf2, hb2⟩; have X2 := X0.out.drew.step hb2; have d0 := X2.c0; have d1 := X2.c1; have d2 := X2.r0; have d3 := X2.r1; have d4 := X2.f0; have d5 := X2.f1))
    rw [List.drop_zero] at hr2
    have HM := made_ri (r := ((0, zs), x)) (x := 0) (y := x) (u := .int .i64 0) (v := .slice A2 n2 c2) (w := w) rfl rfl hr2 (hf2.mono X0.out.size) X2.below
    rw [← HR.out] at HM
    have HM := Lib.hid HM
    obtain ⟨k0, k1⟩ := told2 (u := .int .i64 0) (v := .slice A2 n2 c2) d2 d3
    clear d0 d1 d2 d3 d4 d5 hr2 hf2 hb2 HR c0 c1
    go_wp2_with fail
    refine bodyPost_ret (v := .tuple #[.agg #[.int .i64 0, .slice A2 n2 c2], .int .i64 x]) ?_ rfl ?_
    · simp [results, Try.results19, go_sem, k0, k1]
    exact HM.out
end Go.Proofs.Ythbofkhlbkdboaa

