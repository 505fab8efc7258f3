/- The landed Text, by its contract: a builder that is written line by line. -/
import Derived.Test.YtejhlenckdkonaaDoorCMet
namespace Go.Proofs.YtejhlenckdkonaaDoor
open Go.RowKit
set_option linter.unusedVariables false
set_option maxRecDepth 100000

/-- A builder of the call's own stays what it is while every old block stands. -/
theorem builder_step {T e : TypeId} {B b : Nat} {bs : List Value} {w w' : World} (h : Lib.IsBuilderF T e B b bs w) (hb : Below w.heap.size w w') : Lib.IsBuilderF T e B b bs w' := by
  have one : ∀ {p : Value}, Lib.BuilderAtF T e B b p bs w → Lib.BuilderAtF T e B b p bs w' := by
    intro p h
    obtain ⟨hB, v, hbk, hown, hne⟩ := h
    have hlt : b < w.heap.size := by
      rcases Nat.lt_or_ge b w.heap.size with h' | h'
      · exact h'
      · rw [Array.getElem?_eq_none h'] at hbk; cases hbk
    refine ⟨hB, v, (hb.block b hlt).trans hbk, hown.kept (row := none) ⟨hb.os, hb.tape, hb.output, hb.size, fun k hk _ => hb.block k hk⟩ ?_, hne⟩
    cases hv : v.ownBlock with
    | none => exact Or.inl rfl
    | some k => exact Or.inr (fun e => by cases e)
  rcases h with h | h
  · exact Or.inl (one h)
  · exact Or.inr (one h)
theorem builder_new (T e : TypeId) (w : World) : Lib.IsBuilderF T e w.heap.size w.heap.size [] (w.alloc (.cells #[.pointer none, .slice none 0 0] T)) :=
  (Lib.fresh_isBuilder T e w).imp Lib.BuilderAtF.of Lib.BuilderAtF.of
theorem wrString (B b : Nat) (l : List UInt8) (s : List UInt8) (w : World) (h : Lib.IsBuilderF 56 5 B b (Lib.byteCells l) w) (hlen : l.length + s.length ≤ 1000000) (hBw : B ≤ w.heap.size) :
    Calls Tryd.prog 25 #[.pointer (some ⟨b, 0, none⟩), .string (str s)] w fun e w' => ∃ v, e = .returned v ∧ Lib.IsBuilderF 56 5 B b (Lib.byteCells (l ++ s)) w' ∧ Below B w w' := by
  refine (Any.Builder_WriteString_k lays166 Builder_Extra_166 B b _ (str s) w h (by rw [Lib.byteCells_length, str_size]; omega) hBw).mono ?_
  rintro e w' ⟨rfl, h1, h2, _⟩
  refine ⟨_, rfl, Or.inr ?_, h2⟩
  rw [Lib.byteCells_append]
  exact h1
theorem wrByte (B b : Nat) (l : List UInt8) (w : World) (h : Lib.IsBuilderF 56 5 B b (Lib.byteCells l) w) (hlen : l.length ≤ 1000000) (hBw : B ≤ w.heap.size) :
    Calls Tryd.prog 27 #[.pointer (some ⟨b, 0, none⟩), .int .u8 10] w fun e w' => ∃ v, e = .returned v ∧ Lib.IsBuilderF 56 5 B b (Lib.byteCells (l ++ [10])) w' ∧ Below B w w' := by
  refine (Any.Builder_WriteByte_k lays167 Builder_Extra_167 B b _ 10 w h (by rw [Lib.byteCells_length]; omega) hBw).mono ?_
  rintro e w' ⟨rfl, h1, h2, _⟩
  refine ⟨_, rfl, Or.inr ?_, h2⟩
  rw [Lib.byteCells_append]
  exact h1
theorem wrDone (B b : Nat) (l : List UInt8) (w : World) (h : Lib.IsBuilderF 56 5 B b (Lib.byteCells l) w) (hBw : B ≤ w.heap.size) :
    Calls Tryd.prog 28 #[.pointer (some ⟨b, 0, none⟩)] w fun e w' => e = .returned (.string (str l)) ∧ Below B w w' := by
  refine (Any.Builder_String_any_k lays169 Builder_Extra_169 B b l w h hBw).mono ?_
  rintro e w' ⟨rfl, _, h2, _⟩
  exact ⟨rfl, h2⟩
set_option maxHeartbeats 4000000 in
theorem text_any (A : Option Addr) (n c : Nat) (vs : List (Int × Int)) (w : World) (hn : Hid (vs.length = n)) (hl : n ≤ 2000) (hf : Hid (Fit2 vs)) (hv : VRow w w.heap.size A vs) (hM : Met w) :
    Calls Tryd.prog 14 #[.slice A n c] w fun e w' => e = .returned (.string (str (Cp.text vs))) ∧ Below w.heap.size w w' := by
  have HV := Lib.hid hv
  have HM := Lib.hid hM
  clear hv hM
  go_enter Tryd.func14, Tryd.ntmps14
  go_wp2_with fail
  go_loopw [8] (fun i wr => ∃ (k : Nat) (S : List UInt8), k ≤ n ∧ i = .int .i64 k ∧ Hid (S = Cp.text (vs.take k)) ∧ Hid (Lib.IsBuilderF 56 5 w.heap.size w.heap.size (Lib.byteCells S) wr) ∧ Hid (Below w.heap.size w wr)) (fun i _ => n - (intOf i).toNat)
  case atStart => exact ⟨0, [], Nat.zero_le _, rfl, Lib.hid rfl, Lib.hid (builder_new _ _ w), Lib.hid (below_new _ _)⟩
  case round =>
    obtain ⟨k, S, hk, rfl, HS, HI, HB⟩ := hrel
    by_cases hlt : k < n
    · obtain ⟨x, hx⟩ : ∃ x, vs[k]? = some x := ⟨_, List.getElem?_eq_getElem (by rw [hn.out]; exact hlt)⟩
      obtain ⟨b, off, rfl, hb, hc0, hc1⟩ := (HV.out.below HB.out) k x hx
      have HE := Lib.hid (text_take hx)
      have hfx := hf.out x (List.mem_of_getElem? hx)
      have hSl : S.length ≤ 58000 := by
        rw [HS.out]
        have h1 := Cp.text_len (vs.take k) (hf.out.take k)
        have h2 := List.length_take_le k vs
        have h3 := hn.out
        omega
      have hll := Cp.line_len hfx
      clear hx
      obtain ⟨op, a⟩ := x
      have HBA := Lib.hid (HB.out.alloc HB.out.size (.cells #[.int .i64 op, .int .i64 a] 42))
      have HL := line_any op a (wr.alloc (.cells #[.int .i64 op, .int .i64 a] 42)) hfx (HM.out.step HBA.out)
      have HI1 := Lib.hid (builder_step HI.out (below_new wr (.cells #[.int .i64 op, .int .i64 a] 42)))
      clear hfx
      go_wp2_with fail
      refine HL.mono ?_
      rintro e w2 ⟨rfl, hb2⟩
      have HB2 := Lib.hid (HBA.out.trans (hb2.mono HBA.out.size))
      have HI2 := Lib.hid (builder_step HI1.out hb2)
      clear hb2 HL hc0 hc1
      go_wp2_with fail
      refine (wrString w.heap.size w.heap.size S _ w2 HI2.out (by omega) HB2.out.size).mono ?_
      rintro e w3 ⟨v3, rfl, h3, hb3⟩
      have HI3 := Lib.hid h3
      have HB3 := Lib.hid (HB2.out.trans hb3)
      clear h3 hb3
      go_wp2_with fail
      refine (wrByte w.heap.size w.heap.size _ w3 HI3.out (by rw [List.length_append]; omega) HB3.out.size).mono ?_
      rintro e w4 ⟨v4, rfl, h4, hb4⟩
      have HI4 := Lib.hid h4
      have HB4 := Lib.hid (HB3.out.trans hb4)
      clear h4 hb4 hll hSl
      go_wp2_with fail
      go_roundw
      case rel => exact ⟨k + 1, S ++ Cp.line (op, a) ++ [10], by omega, by go_num, Lib.hid (by rw [HE.out, HS.out]), HI4, HB4⟩
      case measure => simp [intOf]; omega
    · obtain rfl : k = n := by omega
      have HE := Lib.hid (show Cp.text vs = S by rw [HS.out, List.take_of_length_le (by rw [hn.out]; exact Nat.le_refl _)])
      go_wp2_with fail
      refine (wrDone w.heap.size w.heap.size S wr HI.out HB.out.size).mono ?_
      rintro e w2 ⟨rfl, hb2⟩
      have HB2 := Lib.hid (HB.out.trans hb2)
      clear hb2
      go_wp2_with fail
      go_ret
      exact ⟨ret_str (by rw [HE.out]), HB2.out⟩
end Go.Proofs.YtejhlenckdkonaaDoor

