/- The document's example of layer 16, at the head of all statements. -/
import Derived.Test.YtinmmcikhjacoaaDoorYFind
import Derived.Test.YtinmmcikhjacoaaDoorYOne
import Derived.Test.YtinmmcikhjacoaaDoorM4
namespace Go.Proofs.YtinmmcikhjacoaaDoor
open Go.RowKit
set_option linter.unusedVariables false

theorem one_may : Jp.May oneR := by
  have hp0 : ∀ (x : Int × List Int) (p : Nat) y, [x][p]? = some y → p = 0 ∧ y = x := by
    intro x p y hy
    cases p with
    | zero => simp at hy; exact ⟨rfl, hy.symm⟩
    | succ p => simp at hy
  exact ⟨by decide, by decide, by decide, by decide, by decide, by decide, by decide, fun p x hx => by obtain ⟨rfl, rfl⟩ := hp0 _ p x hx; exact ⟨by decide, .inr (by decide)⟩, by decide⟩
theorem one_low : Low oneR := by
  have fit : ∀ l : List Int, (∀ z ∈ l, 0 ≤ z ∧ z ≤ 9) → ∀ z ∈ l, In64 z := fun l h z hz => by have := h z hz; unfold In64; omega
  exact ⟨by decide, by decide, by decide, by decide, by decide, fit _ (by decide)⟩
theorem one_first : Jp.loc oneR 0 1 = (Jp.ringed oneR 0 (0, [2]), 4, 1) := by
  rw [show (0 : Int) = ((0 : Nat) : Int) from rfl, Jp.loc_on one_may (by decide)]
  exact Jp.locOn_next (m := 0) (l := [1]) (x := 4) (t := [2]) (by decide) (by decide) (by decide) (by decide) (by decide)
theorem one_turn : Jp.loc oneR 0 61 = (Jp.rowed oneR 0 [], 1, 3) := by
  rw [show (0 : Int) = ((0 : Nat) : Int) from rfl, Jp.loc_on one_may (by decide)]
  exact Jp.locOn_row (m := 0) (l := [1]) (x := 4) (t := [2]) (by decide) (by decide) (by decide) (by decide) (by decide)
set_option maxRecDepth 100000 in
set_option maxHeartbeats 1000000 in
theorem yshown_any (w : World) (hT : Tab w) : Calls Tryd.prog 8 #[] w fun e w' => e = .returned (.bool true) ∧ Below w.heap.size w w' := by
  have HT := Lib.hid hT
  clear hT
  go_enter Tryd.func8, Tryd.ntmps8
  go_wp2_with fail
  refine (yone_any w).mono ?_
  rintro e w1 ⟨⟨A0, nt, ct, R, nr, cr, S, ns, cs⟩, rfl, hm1, hb1⟩
  have FL := findLocal_any ⟨A0, nt, ct, R, nr, cr, S, ns, cs⟩ oneR 0 1 w1 hm1.bound (fun b hb => hb.2) one_low ⟨by decide, by decide⟩ ⟨by decide, by decide⟩ (HT.out.step hb1)
  rw [one_first] at FL
  unfold jv at FL ⊢
  simp only at FL ⊢
  have C := Lib.hid FL
  have B1 := Lib.hid hb1
  clear FL hb1 hm1
  go_wp2_with fail
  refine C.out.mono ?_
  rintro e w2 ⟨⟨A1, nt1, ct1, R1, nr1, cr1, S1, ns1, cs1⟩, rfl, _, hb2⟩
  have B2 := Lib.hid (held_trans B1.out hb2)
  clear C B1 hb2
  unfold jv
  simp only
  go_wp2_with fail
  have hb3 := below_new w2 (.cells #[.slice A1 nt1 ct1, .int .i64 (Jp.ringed oneR 0 (0, [2])).size, .slice R1 nr1 cr1, .slice S1 ns1 cs1, .int .u64 ((Jp.ringed oneR 0 (0, [2])).on : Nat)] 33)
  have B3 := Lib.hid (held_trans B2.out hb3)
  clear B2 hb3
  refine (yone_any _).mono ?_
  rintro e w4 ⟨⟨A4, nt4, ct4, R4, nr4, cr4, S4, ns4, cs4⟩, rfl, hm4, hb4⟩
  have hb4' := held_trans B3.out hb4
  have FL := findLocal_any ⟨A4, nt4, ct4, R4, nr4, cr4, S4, ns4, cs4⟩ oneR 0 61 w4 hm4.bound (fun b hb => hb.2) one_low ⟨by decide, by decide⟩ ⟨by decide, by decide⟩ (HT.out.step hb4')
  rw [one_turn] at FL
  unfold jv at FL ⊢
  simp only at FL ⊢
  have C := Lib.hid FL
  have B4 := Lib.hid hb4'
  clear FL hb4 hb4' hm4 B3
  go_wp2_with fail
  refine C.out.mono ?_
  rintro e w5 ⟨⟨A5, nt5, ct5, R5, nr5, cr5, S5, ns5, cs5⟩, rfl, _, hb5⟩
  have hb6 := below_new w5 (.cells #[.slice A5 nt5 ct5, .int .i64 (Jp.rowed oneR 0 []).size, .slice R5 nr5 cr5, .slice S5 ns5 cs5, .int .u64 ((Jp.rowed oneR 0 []).on : Nat)] 33)
  have B6 := Lib.hid (held_trans (held_trans B4.out hb5) hb6)
  clear C B4 hb5 hb6
  unfold jv
  simp only
  go_wp2_with fail
  refine (turn_any 0 _ ⟨by decide, by decide⟩).mono ?_
  rintro e w7 ⟨rfl, hb7⟩
  have B7 := Lib.hid (held_trans B6.out hb7)
  clear hb7 B6
  go_wp2_with fail
  go_ret
  exact ⟨rfl, B7.out⟩
end Go.Proofs.YtinmmcikhjacoaaDoor

