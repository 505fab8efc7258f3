/- The document's Put, by its contract. -/
import Derived.Test.YthbofkhlbkdboaaRRefAdd
namespace Go.Proofs.Ythbofkhlbkdboaa
open Go.RowKit
set_option linter.unusedVariables false

set_option maxHeartbeats 1000000 in
theorem refPut_any (x : Int) (A : Option Addr) (n c : Nat) (zs : List Int) (g s : Int) (w : World) (h : Row w A n c zs) (hn : n ≤ 100000) :
    Calls Try.prog 13 #[.agg #[.int .i64 x, .slice A n c], .int .i64 g, .int .i64 s] w (TellRL w (Rp.put (x, zs) g s)) := by
  have H := Lib.hid h
  clear h
  obtain ⟨W0, hW0, hX0⟩ := Bx.start w (.int .i64 x) (.slice A n c) (.int .i64 0) (.slice none 0 0) 24 24
  have E0 := Lib.hid hW0
  have X1 := Lib.hid (hX0.alloc (.cells #[.int .i64 g, .slice A n c] 24))
  have hs0 := Lib.hid (show W0.heap.size = w.heap.size + 2 by rw [hW0]; simp)
  clear hX0 hW0
  by_cases hx : x = 0
  · subst hx
    have HR := Lib.hid (show Rp.put (0, zs) g s = ((g, zs), []) from rfl)
    go_enter Try.func13, Try.ntmps13
    go_wp2_with fail
    refine bodyPost_ret (v := .tuple #[.agg #[.int .i64 g, .slice A n c], .slice none 0 0]) (by simp [results, Try.results13, go_sem]) rfl ?_
    rw [HR.out]
    have hb := (((Below.refl w.heap.size w).alloc (Nat.le_refl _) (.cells #[.int .i64 0, .slice A n c] 24)).alloc (by simp) (.cells #[.int .i64 g, .slice A n c] 24)).alloc (by simp; omega) (.cells #[.int .i64 g, .slice A n c] 24)
    exact ⟨A, n, c, none, 0, 0, rfl, H.out.below hb, Row.nothing _, hb⟩
  · have HR := Lib.hid (show Rp.put (x, zs) g s = Rp.add (g, zs) x s by unfold Rp.put; rw [if_neg hx])
    have t1 : (x == 0) = false := by rw [beq_eq_false_iff_ne]; exact hx
    go_enter Try.func13, Try.ntmps13
    go_wp2_with fail
    rw [← E0.out]
    clear E0
    refine (refAdd_any g A n c zs x s _ (H.out.below X1.out.below) hn).mono ?_
    rintro e w2 ⟨A2, n2, c2, B2, m2, d2, rfl, hr2, hf2, hq2, hg2, hb2⟩
    have X2 := X1.out.step hb2
    obtain ⟨y, hy⟩ : ∃ y, y = (Rp.add (g, zs) x s).1.1 := ⟨_, rfl⟩
    rw [← hy]
    have hsz : w.heap.size + 2 ≤ (W0.alloc (.cells #[.int .i64 g, .slice A n c] 24)).heap.size := by simp [hs0.out]
    have HM : TellRL w (Rp.put (x, zs) g s) (.returned (.tuple #[.agg #[.int .i64 y, .slice A2 n2 c2], .slice B2 m2 d2])) ((w2.setCell ⟨w.heap.size + 1, 0, none⟩ (.int .i64 y)).setCell ⟨w.heap.size + 1, 1, none⟩ (.slice A2 n2 c2)) := by
      rw [HR.out, hy]
      exact ⟨A2, n2, c2, B2, m2, d2, rfl, (hr2.set (hf2.mono hsz)).set (hf2.mono hsz), (hq2.set (hg2.mono hsz)).set (hg2.mono hsz), (X2.below.setCell (by simp) _).setCell (by simp) _⟩
    have HM := Lib.hid HM
    have l2 := X2.r0
    have l3 := X2.r1
    have l4 := X2.f0
    have l5 := X2.f1
    obtain ⟨k0, k1⟩ := told2 (u := .int .i64 y) (v := .slice A2 n2 c2) l2 l3
    clear hr2 hf2 hq2 hg2 hb2 hy hsz
    go_wp2_with fail
    refine bodyPost_ret (v := .tuple #[.agg #[.int .i64 y, .slice A2 n2 c2], .slice B2 m2 d2]) ?_ rfl ?_
    · simp [results, Try.results13, go_sem, k0, k1]
    exact HM.out
end Go.Proofs.Ythbofkhlbkdboaa

