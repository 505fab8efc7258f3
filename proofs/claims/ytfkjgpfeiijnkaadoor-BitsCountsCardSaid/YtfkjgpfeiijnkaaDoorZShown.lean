/- The document's example at the head of all statements: it is as shown. -/
import Derived.Test.YtfkjgpfeiijnkaaDoorZLaid
namespace Go.Proofs.YtfkjgpfeiijnkaaDoor
open Go.RowKit
set_option linter.unusedVariables false

theorem ints_eq {A B : Option Addr} {n c m d : Nat} {zs : List Int} {w : World} (ha : Row w A n c zs) (hb : Row w B m d zs) :
    Calls Tryd.prog 12 #[.slice A n c, .slice B m d] w fun e w' => e = .returned (.bool true) ∧ Below w.heap.size w w' := by
  have h1 := ha.len
  have h2 := hb.len
  have h3 := ha.cap
  have h4 := ha.most
  obtain rfl : m = n := by omega
  exact ints_same A B m c d zs w (Lib.hid h1) (by omega) ha.row hb.row
theorem shown_any (w : World) (hT : Tab w) : Calls Tryd.prog 9 #[] w fun e w' => e = .returned (.bool true) ∧ Below w.heap.size w w' := by
  have HT := Lib.hid hT
  have HR := Lib.hid (row_lit w [5, 2] (by simp))
  have HB := Lib.hid (below_new w (.cells #[.int .i64 5, .int .i64 2] 3))
  have HM := Lib.hid (show Zp.mem (Zp.ofL [5, 2]) = [2, 5] by decide)
  have hs := Zp.ofL_lt [5, 2]
  clear hT
  go_enter Tryd.func9, Tryd.ntmps9
  go_wp2_with fail
  refine (of_any _ 2 2 [5, 2] _ HR.out).mono ?_
  rintro e w1 ⟨rfl, rfl⟩
  generalize Zp.ofL [5, 2] = s at HM hs ⊢
  have HT1 := Lib.hid (HT.out.step HB.out)
  clear HR
  go_wp2_with fail
  refine (all_any s _ hs HT1.out).mono ?_
  rintro e w2 hm
  obtain ⟨A, n, c, rfl, hr, hf, hb⟩ := hm.madeR
  rw [HM.out] at hr
  have HR := Lib.hid hr
  have HB2 := Lib.hid (HB.out.trans (hb.mono HB.out.size))
  have HT2 := Lib.hid (HT1.out.step hb)
  have HR5 := Lib.hid (row_lit w2 [2, 5] (by simp))
  have HR6 := Lib.hid (HR.out.below (below_new w2 (.cells #[.int .i64 2, .int .i64 5] 3)))
  have HB3 := Lib.hid (HB2.out.alloc HB2.out.size (.cells #[.int .i64 2, .int .i64 5] 3))
  have HT3 := Lib.hid (HT2.out.step (below_new w2 (.cells #[.int .i64 2, .int .i64 5] 3)))
  clear hm hr hf hb
  go_wp2_with fail
  refine (ints_eq HR6.out HR5.out).mono ?_
  rintro e w4 ⟨rfl, hb4⟩
  have HB4 := Lib.hid (HB3.out.trans (hb4.mono HB3.out.size))
  have HT4 := Lib.hid (HT3.out.step hb4)
  clear hb4
  go_wp2_with fail
  refine (next_any s 3 _ hs HT4.out).mono ?_
  rintro e w5 ⟨rfl, rfl⟩
  rw [HM.out, show Zp.nextL [2, 5] 3 = 5 from by decide]
  go_wp2_with fail
  refine (next_any s 6 _ hs HT4.out).mono ?_
  rintro e w6 ⟨rfl, rfl⟩
  rw [HM.out, show Zp.nextL [2, 5] 6 = 2 from by decide]
  go_wp2_with fail
  go_ret
  exact ⟨rfl, HB4.out⟩
end Go.Proofs.YtfkjgpfeiijnkaaDoor

