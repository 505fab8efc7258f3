/- The document's example at the head of all statements: it is as shown. -/
import Derived.Test.YthbofkhlbkdboaaRPut
import Derived.Test.YthbofkhlbkdboaaRSame
namespace Go.Proofs.Ythbofkhlbkdboaa
open Go.RowKit
set_option linter.unusedVariables false

theorem row_two' (w : World) (a b : Int) (Y : Nat) (hY : w.heap.size = Y) : Row (w.alloc (.cells #[.int .i64 a, .int .i64 b] 3)) (some ⟨Y, 0, none⟩) 2 2 [a, b] := by
  subst hY
  exact row_lit w [a, b] (by simp)
theorem ints_row (A B : Option Addr) (n m c d : Nat) (zs ys : List Int) (w : World) (he : zs = ys) (h : Row w A n c zs) (hb : Row w B m d ys) :
    Calls Try.prog 18 #[.slice A n c, .slice B m d] w fun e w' => e = .returned (.bool true) ∧ Below w.heap.size w w' := by
  subst he
  have e1 := h.len
  have e2 := hb.len
  obtain rfl : n = m := by omega
  have h1 := h.cap
  have h2 := h.most
  exact ints_same A B n c d zs w (Lib.hid e1) (by omega) h.row hb.row
/-- Two rings that are one. -/
theorem same_row (x y : Int) (A B : Option Addr) (n m c d : Nat) (zs ys : List Int) (w : World) (hx : x = y) (he : zs = ys) (h : Row w A n c zs) (hb : Row w B m d ys) :
    Calls Try.prog 16 #[.agg #[.int .i64 x, .slice A n c], .agg #[.int .i64 y, .slice B m d]] w fun e w' => e = .returned (.bool true) ∧ Below w.heap.size w w' := by
  subst hx he
  have e1 := h.len
  have e2 := hb.len
  obtain rfl : n = m := by omega
  exact same_any x A B n c d zs w h hb
theorem shown_any (w : World) : Calls Try.prog 10 #[] w fun e w' => e = .returned (.bool true) ∧ Below w.heap.size w w' := by
  have hr := row_two' w 2 3 _ rfl
  have hb0 := below_new w (.cells #[.int .i64 2, .int .i64 3] 3)
  go_enter Try.func10, Try.ntmps10
  go_wp2_with fail
  refine (put_any 1 _ 2 2 [2, 3] 4 2 _ hr (by omega)).mono ?_
  rintro e w1 ⟨A1, n1, c1, B1, m1, d1, rfl, hr1, hf1, hq1, hg1, hb1⟩
  rw [show Rp.put (1, [2, 3]) 4 2 = ((4, [3]), [2, 1]) from by decide] at hr1 hq1 ⊢
  have hbe1 := Lib.hid (hb0.trans (hb1.mono hb0.size))
  obtain rfl : 1 = n1 := hr1.len
  obtain rfl : 2 = m1 := hq1.len
  have R1 := Lib.hid hr1
  have Q1 := Lib.hid hq1
  clear hr hb0 hb1 hr1 hq1 hf1 hg1
  go_wp2_with fail
  have b1 := below_new w1 (.cells #[.int .i64 4, .slice A1 1 c1] 26)
  have b2 := Lib.hid (b1.trans ((below_new _ (.cells #[.int .i64 3] 3)).mono b1.size))
  clear b1
  refine (ints_row _ _ _ _ _ _ [3] [3] _ rfl (R1.out.below b2.out) (row_at _ 3 _ (by simp))).mono ?_
  rintro e w2 ⟨rfl, hb2⟩
  have hb12 := b2.out.trans (hb2.mono b2.out.size)
  have Q2 := Lib.hid (Q1.out.below hb12)
  have hbe2 := Lib.hid (hbe1.out.trans (hb12.mono hbe1.out.size))
  clear hb2 hb12
  have hr2 := row_two' w2 2 1 _ rfl
  have b3 := Lib.hid (below_new w2 (.cells #[.int .i64 2, .int .i64 1] 3))
  go_wp2_with fail
  refine (ints_row _ _ _ _ _ _ [2, 1] [2, 1] _ rfl (Q2.out.below b3.out) hr2).mono ?_
  rintro e w3 ⟨rfl, hb3⟩
  go_wp2_with fail
  go_ret
  exact ⟨rfl, hbe2.out.trans ((b3.out.trans (hb3.mono b3.out.size)).mono hbe2.out.size)⟩
end Go.Proofs.Ythbofkhlbkdboaa

