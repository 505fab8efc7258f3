/- The document's example at the head of all statements: it is as shown. -/
import Derived.Test.YtejhlenckdkonaaDoorCDoor
namespace Go.Proofs.YtejhlenckdkonaaDoor
open Go.RowKit
set_option linter.unusedVariables false

theorem shown_text : Cp.text [(1, 3), (10, 0)] = [97, 100, 100, 32, 51, 10, 101, 120, 105, 116, 10] := by
  have h1 : Cp.line (1, 3) = [97, 100, 100, 32, 51] := by
    unfold Cp.line
    rw [if_neg (by decide)]
    show Cp.head 1 ++ [32] ++ Cp.figs 3 = _
    rw [figs_mid (by decide) (by decide)]; decide
  have h2 : Cp.line (10, 0) = [101, 120, 105, 116] := by
    unfold Cp.line
    rw [if_pos (by decide)]; decide
  rw [Cp.text_cons, Cp.text_cons, h1, h2]; rfl
/-- Two instructions written out. -/
theorem vrow_two (w : World) (a b c d : Int) (T : TypeId) : VRow (w.alloc (.cells #[.int .i64 a, .int .i64 b, .int .i64 c, .int .i64 d] T)) (w.alloc (.cells #[.int .i64 a, .int .i64 b, .int .i64 c, .int .i64 d] T)).heap.size (some ⟨w.heap.size, 0, none⟩) [(a, b), (c, d)] := by
  intro i x hi
  match i, hi with
  | 0, hi =>
    injection hi with hi; subst hi
    exact ⟨_, _, rfl, by simp, by rw [World.cell?_alloc_at _ _ _ _ rfl]; rfl, by rw [World.cell?_alloc_at _ _ _ _ rfl]; rfl⟩
  | 1, hi =>
    injection hi with hi; subst hi
    exact ⟨_, _, rfl, by simp, by rw [World.cell?_alloc_at _ _ _ _ rfl]; rfl, by rw [World.cell?_alloc_at _ _ _ _ rfl]; rfl⟩
  | _ + 2, hi => simp at hi
theorem prow_one {w : World} {A : Option Addr} {n c : Nat} {l : List (Int × Int)} (T : TypeId) (h : VRow w w.heap.size A l) (hn : l.length = n) (hc : n ≤ c) (hm : c ≤ 9223372036854775807) : PRow (w.alloc (.cells #[.slice A n c] T)) (some ⟨w.heap.size, 0, none⟩) 1 1 [l] := by
  refine ⟨rfl, Nat.le_refl _, by omega, (fun e => by cases e), fun i l' hi => ?_⟩
  match i, hi with
  | 0, hi =>
    injection hi with hi; subst hi; subst hn
    exact ⟨_, _, A, c, rfl, by simp, by rw [World.cell?_alloc_at _ _ _ _ rfl]; rfl, (h.below (below_new _ _)).more (by simp), hc, hm⟩
  | _ + 1, hi => simp at hi
theorem shown_any (w : World) (hM : Met w) : Calls Tryd.prog 9 #[] w fun e w' => e = .returned (.bool true) ∧ Below w.heap.size w w' := by
  have HM := Lib.hid hM
  clear hM
  obtain ⟨W1, hW1⟩ : ∃ W, W = w.alloc (.cells #[.int .i64 1, .int .i64 3, .int .i64 10, .int .i64 0] 42) := ⟨_, rfl⟩
  have HV := Lib.hid (show VRow W1 W1.heap.size (some ⟨w.heap.size, 0, none⟩) [(1, 3), (10, 0)] by rw [hW1]; exact vrow_two _ _ _ _ _ _)
  have HB1 := Lib.hid (show Below w.heap.size w W1 by rw [hW1]; exact below_new _ _)
  have hsz : W1.heap.size = w.heap.size + 1 := by rw [hW1]; simp
  have HP := Lib.hid (prow_one 24 HV.out (n := 2) (c := 2) rfl (by omega) (by omega))
  have HB2 := Lib.hid (HB1.out.alloc HB1.out.size (.cells #[.slice (some ⟨w.heap.size, 0, none⟩) 2 2] 24))
  have E1 := Lib.hid hW1
  rw [hsz] at HP
  clear hW1
  have HC := Lib.hid (show Cp.check [[(1, 3), (10, 0)]] 0 0 = (0, 0, 0) by decide)
  go_enter Tryd.func9, Tryd.ntmps9
  go_wp2_with fail
  rw [← E1.out]
  clear E1
  refine (check_any _ 1 1 _ 0 0 _ HP.out).mono ?_
  rintro e w2 ⟨rfl, hb⟩
  rw [HC.out]
  have HB3 := Lib.hid (HB2.out.trans (hb.mono HB2.out.size))
  have HV3 := Lib.hid (((HV.out.below (below_new _ (.cells #[.slice (some ⟨w.heap.size, 0, none⟩) 2 2] 24))).more (by simp)).below hb)
  have HV4 := Lib.hid (HV3.out.more (by have := hb.size; exact this))
  clear hb
  have c2 : ((str [97, 100, 100, 32, 51, 10, 101, 120, 105, 116, 10]).toList == [97, 100, 100, 32, 51, 10, 101, 120, 105, 116, 10]) = true := by rw [str_list]; decide
  have c4 : ((str (Cp.nm 9)).toList == [108, 111, 111, 112]) = true := by rw [str_list]; decide
  go_wp2_with fail
  refine (text_any _ 2 2 [(1, 3), (10, 0)] w2 (Lib.hid rfl) (by omega) (Lib.hid (fun x hx => by simp at hx; rcases hx with rfl | rfl <;> exact ⟨by decide, by decide⟩)) HV4.out (HM.out.step HB3.out)).mono ?_
  rintro e w3 ⟨rfl, hb⟩
  rw [shown_text]
  have HB4 := Lib.hid (HB3.out.trans (hb.mono HB3.out.size))
  clear hb
  go_wp2_with fail
  refine (name_any 9 w3 (HM.out.step HB4.out)).mono ?_
  rintro e w4 ⟨rfl, hb⟩
  have HB5 := Lib.hid (HB4.out.trans (hb.mono HB4.out.size))
  clear hb
  go_wp2_with fail
  go_ret
  exact ⟨rfl, HB5.out⟩
end Go.Proofs.YtejhlenckdkonaaDoor

