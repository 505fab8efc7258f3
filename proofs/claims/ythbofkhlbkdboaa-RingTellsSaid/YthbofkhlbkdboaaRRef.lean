/- The document's Take, All and Half, by their contracts. -/
import Derived.Test.YthbofkhlbkdboaaRSame
namespace Go.Proofs.Ythbofkhlbkdboaa
open Go.RowKit
set_option linter.unusedVariables false

/-- What a call leaves that tells a ring and a number. -/
def TellRI (w0 : World) (r : (Int × List Int) × Int) (e : Ending) (w' : World) : Prop :=
  ∃ A n c, e = .returned (.tuple #[.agg #[.int .i64 r.1.1, .slice A n c], .int .i64 r.2]) ∧ Row w' A n c r.1.2 ∧ Below w0.heap.size w0 w'
/-- What a call leaves that tells a ring and a row. -/
def TellRL (w0 : World) (r : (Int × List Int) × List Int) (e : Ending) (w' : World) : Prop :=
  ∃ A n c B m d, e = .returned (.tuple #[.agg #[.int .i64 r.1.1, .slice A n c], .slice B m d]) ∧ Row w' A n c r.1.2 ∧ Row w' B m d r.2 ∧ Below w0.heap.size w0 w'
def TellL (w0 : World) (l : List Int) (e : Ending) (w' : World) : Prop :=
  ∃ A n c, e = .returned (.slice A n c) ∧ Row w' A n c l ∧ Below w0.heap.size w0 w'
set_option maxHeartbeats 1000000 in
theorem refAll_any (x : Int) (A : Option Addr) (n c : Nat) (zs : List Int) (w : World) (h : Row w A n c zs) (hn : n ≤ 100000) :
    Calls Try.prog 24 #[.agg #[.int .i64 x, .slice A n c]] w (TellL w (Rp.all (x, zs))) := by
  have H := Lib.hid h
  clear h
  by_cases hx : x = 0
  · subst hx
    have hb := Lib.hid (below_new w (.cells #[.int .i64 0, .slice A n c] 24))
    have HR := Lib.hid (show Rp.all (0, zs) = zs from rfl)
    go_enter Try.func24, Try.ntmps24
    go_wp2_with fail
    go_ret
    exact ⟨A, n, c, rfl, by rw [HR.out]; exact H.out.below hb.out, hb.out⟩
  · have t1 : (x == 0) = false := by rw [beq_eq_false_iff_ne]; exact hx
    have HR := Lib.hid (show Rp.all (x, zs) = [x] ++ zs by unfold Rp.all; rw [if_neg hx]; rfl)
    have hb := Lib.hid (below_new w (.cells #[.int .i64 x, .slice A n c] 24))
    have hb1 := Lib.hid (below_new (w.alloc (.cells #[.int .i64 x, .slice A n c] 24)) (.cells #[.int .i64 x] 3))
    have hown := Lib.hid (own_lit (w.alloc (.cells #[.int .i64 x, .slice A n c] 24)) [x] w.heap.size (by simp) (by simp))
    go_enter Try.func24, Try.ntmps24
    go_wp2_with (at_builtin; refine wpList_append_row rfl (.tmp 10) (.tmp 12) rfl w.heap.size (.slice (some ⟨w.heap.size + 1, 0, none⟩) 1 1) 1 [x] rfl ?c1 A n c zs rfl ?c2 (by omega) ?c3 ?_)
    case c1 => simpa using hown.out
    case c2 => exact (H.out.below hb.out).below hb1.out
    case c3 => simp; omega
    intro v2 w2 hown2 hg2
    have hbe : Below w.heap.size w w2 := (hb.out.trans (hb1.out.mono hb.out.size)).grown hg2 (by simp; omega) (fun k hk => by simp [Value.ownBlock] at hk; omega)
    obtain ⟨A2, c2, rfl, hr2⟩ := Row.of_own (zs := [x] ++ zs) (by simpa using hown2)
    go_wp2_with fail
    go_ret
    exact ⟨A2, _, c2, rfl, by rw [HR.out]; exact hr2, hbe⟩
theorem told_ri {w W2 : World} {r : (Int × List Int) × Int} {A : Option Addr} {n c : Nat} {x y : Int} {u v : Value} (ha : Row w A n c r.1.2) (hbe : Below w.heap.size w W2) (hx : x = r.1.1) (hy : y = r.2) :
    TellRI w r (.returned (.tuple #[.agg #[.int .i64 x, .slice A n c], .int .i64 y])) ((W2.setCell ⟨w.heap.size + 1, 0, none⟩ u).setCell ⟨w.heap.size + 1, 1, none⟩ v) := by
  subst hx hy
  have hb := (hbe.setCell (p := ⟨w.heap.size + 1, 0, none⟩) (by simp) u).setCell (p := ⟨w.heap.size + 1, 1, none⟩) (by simp) v
  exact ⟨A, n, c, rfl, ha.below hb, hb⟩
theorem TellRI.drew {w W : World} {r : (Int × List Int) × Int} {e : Ending} (h : TellRI w r e W) : TellRI w r e W.drew := by
  obtain ⟨A, n, c, he, hr, hb⟩ := h
  exact ⟨A, n, c, he, hr.drew, hb.drew⟩
theorem TellRL.drew {w W : World} {r : (Int × List Int) × List Int} {e : Ending} (h : TellRL w r e W) : TellRL w r e W.drew := by
  obtain ⟨A, n, c, B, m, d, he, hr, hs, hb⟩ := h
  exact ⟨A, n, c, B, m, d, he, hr.drew, hs.drew, hb.drew⟩
set_option maxHeartbeats 1000000 in
theorem refTake_any (x : Int) (A : Option Addr) (n c : Nat) (zs : List Int) (w : World) (h : Row w A n c zs) (hn : n ≤ 100000) :
    Calls Try.prog 20 #[.agg #[.int .i64 x, .slice A n c]] w (TellRI w (Rp.take (x, zs))) := by
  have h1 := h.cap
  have h2 := h.most
  have H := Lib.hid h
  clear h
  obtain ⟨W0, hW0, hX0⟩ := Bx.start w (.int .i64 x) (.slice A n c) (.int .i64 0) (.slice none 0 0) 24 24
  have c0 := hX0.c0
  have c1 := hX0.c1
  have d2 := hX0.r0
  have d3 := hX0.r1
  have d4 := hX0.f0
  have d5 := hX0.f1
  have X0 := Lib.hid hX0
  have E0 := Lib.hid hW0
  clear hX0 hW0
  by_cases hx : x = 0
  · subst hx
    by_cases h0 : n = 0
    · subst h0
      have hz : zs = [] := List.length_eq_zero_iff.1 H.out.len
      subst hz
      have HR := Lib.hid (show Rp.take (0, []) = ((0, []), 0) from rfl)
      go_enter Try.func20, Try.ntmps20
      go_wp2_with fail
      refine bodyPost_ret (v := .tuple #[.agg #[.int .i64 0, .slice A 0 c], .int .i64 0]) (by simp [results, Try.results20, go_sem]) rfl ?_
      rw [HR.out]
      have hb := ((below_new w (.cells #[.int .i64 0, .slice A 0 c] 24)).trans ((below_new _ (.cells #[.int .i64 0, .slice A 0 c] 24)).mono (by simp)))
      exact ⟨A, 0, c, rfl, H.out.below hb, hb⟩
    · obtain ⟨b, off, rfl, hbk, hcs⟩ := H.out.cells (by omega)
      obtain ⟨z0, hz0⟩ : ∃ z, zs[0]? = some z := ⟨_, List.getElem?_eq_getElem (by rw [H.out.len]; omega)⟩
      have hc0 := hcs 0 z0 hz0
      rw [Nat.add_zero] at hc0
      have hd0 := keepcell X0.out.below hc0
      have HR := Lib.hid (show Rp.take (0, zs) = ((0, zs.drop 1), z0) by unfold Rp.take; rw [if_pos rfl]; congr 1; cases zs with | nil => cases hz0 | cons y ys => injection hz0)
      have hn0 : ((n : Int) == 0) = false := by rw [beq_eq_false_iff_ne]; omega
      have hn1 : (0 : Int) < (n : Int) := by omega
      have hn2 : 1 ≤ n := by omega
      have hn3 : 0 < n := by omega
      clear hcs hz0 hc0
      go_enter Try.func20, Try.ntmps20
      go_wp2_with fail
      rw [← E0.out]
      clear E0
      have HS := (H.out.slice 1 hn2)
      generalize hA' : (if c = 1 then some (⟨b, off, none⟩ : Addr) else some ⟨b, off + 1, none⟩) = A' at HS
      have HA := Lib.hid hA'
      have HS' := Lib.hid HS
      clear hA' HS
      go_region
      simp only [HA.out]
      obtain ⟨k0, k1⟩ := told2 (u := .int .i64 0) (v := .slice A' (n - 1) (c - 1)) d2 d3
      have HM := Lib.hid (told_ri (r := ((0, zs.drop 1), z0)) (x := 0) (y := z0) (u := .int .i64 0) (v := .slice A' (n - 1) (c - 1)) HS'.out X0.out.below rfl rfl)
      clear d2 d3 d4 d5 c0 c1 hd0
      go_wp2_with fail
      refine bodyPost_ret (v := .tuple #[.agg #[.int .i64 0, .slice A' (n - 1) (c - 1)], .int .i64 z0]) ?_ rfl ?_
      · simp [results, Try.results20, go_sem, k0, k1]
      rw [HR.out]
      exact HM.out.drew
  · have HR := Lib.hid (show Rp.take (x, zs) = ((0, zs), x) by unfold Rp.take; rw [if_neg hx])
    have t1 : (x != 0) = true := by simpa using hx
    go_enter Try.func20, Try.ntmps20
    go_wp2_with fail
    rw [← E0.out]
    clear E0
    go_region
    obtain ⟨k0, k1⟩ := told2 (u := .int .i64 0) (v := .slice A n c) d2 d3
    have HM := Lib.hid (told_ri (r := ((0, zs), x)) (x := 0) (y := x) (u := .int .i64 0) (v := .slice A n c) H.out X0.out.below rfl rfl)
    clear d2 d3 d4 d5 c0 c1
    go_wp2_with fail
    refine bodyPost_ret (v := .tuple #[.agg #[.int .i64 0, .slice A n c], .int .i64 x]) ?_ rfl ?_
    · simp [results, Try.results20, go_sem, k0, k1]
    rw [HR.out]
    exact HM.out.drew
end Go.Proofs.Ythbofkhlbkdboaa

