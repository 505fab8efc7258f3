/- The document's Text and Same, by their contracts. -/
import Derived.Test.YtejhlenckdkonaaDoorCLine
namespace Go.Proofs.YtejhlenckdkonaaDoor
open Go.RowKit
set_option linter.unusedVariables false

theorem text_take {vs : List (Int × Int)} {k : Nat} {x : Int × Int} (hx : vs[k]? = some x) : Cp.text (vs.take (k + 1)) = Cp.text (vs.take k) ++ Cp.line x ++ [10] := by
  rw [List.take_add_one, hx]
  show Cp.text (vs.take k ++ [x]) = _
  rw [Cp.text_snoc]
def Fit2 (vs : List (Int × Int)) : Prop := ∀ x ∈ vs, Cp.In64 x.2
theorem Fit2.take {vs : List (Int × Int)} (h : Fit2 vs) (k : Nat) : Fit2 (vs.take k) := fun x hx => h x (List.mem_of_mem_take hx)
set_option maxHeartbeats 4000000 in
theorem refText_any (A : Option Addr) (n c : Nat) (vs : List (Int × Int)) (w : World) (hn : Hid (vs.length = n)) (hl : n ≤ 2000) (hf : Hid (Fit2 vs)) (hv : VRow w w.heap.size A vs) :
    Calls Tryd.prog 15 #[.slice A n c] w fun e w' => e = .returned (.string (str (Cp.text vs))) ∧ Below w.heap.size w w' := by
  have HV := Lib.hid hv
  clear hv
  go_enter Tryd.func15, Tryd.ntmps15
  go_wp2_with fail
  go_loopw [3, 4] (fun s i wr => ∃ (k : Nat) (S : List UInt8), k ≤ n ∧ i = .int .i64 k ∧ s = .string (str S) ∧ Hid (S = Cp.text (vs.take k)) ∧ Hid (Below w.heap.size w wr)) (fun _ i _ => n - (intOf i).toNat)
  case atStart => exact ⟨0, [], Nat.zero_le _, rfl, rfl, Lib.hid rfl, Lib.hid (Below.refl _ _)⟩
  case round =>
    obtain ⟨k, S, hk, rfl, rfl, HS, HB⟩ := hrel
    by_cases hlt : k < n
    · obtain ⟨x, hx⟩ : ∃ x, vs[k]? = some x := ⟨_, List.getElem?_eq_getElem (by rw [hn.out]; exact hlt)⟩
      obtain ⟨b, off, rfl, hb, hc0, hc1⟩ := (HV.out.below HB.out) k x hx
      have HE := Lib.hid (text_take hx)
      have hfx := hf.out x (List.mem_of_getElem? hx)
      have hSl : S.length ≤ 58000 := by
        rw [HS.out]
        have h1 := Cp.text_len (vs.take k) (hf.out.take k)
        have h2 := List.length_take_le k vs
        omega
      have hll := Cp.line_len hfx
      have hadd1 : ∀ W, (Op.stringOp .add (str S) (str (Cp.line x))).run Tryd.prog W = .ok (.string (str (S ++ Cp.line x))) W := fun W => str_add W _ _ (by omega)
      have hadd2 : ∀ W, (Op.stringOp .add (str (S ++ Cp.line x)) ⟨#[10]⟩).run Tryd.prog W = .ok (.string (str (S ++ Cp.line x ++ [10]))) W := fun W => str_add W _ [10] (by simp; omega)
      clear hx hll hSl
      obtain ⟨op, a⟩ := x
      have HL := fun W => refLine_any op a W hfx
      go_wp2_with fail
      refine (HL _).mono ?_
      rintro e w2 ⟨rfl, hb2⟩
      have HB2 := Lib.hid (HB.out.trans (hb2.mono HB.out.size))
      clear hb2 HL
      go_wp2_with fail
      go_roundw
      case rel => exact ⟨k + 1, S ++ Cp.line (op, a) ++ [10], by omega, by go_num, by simp, Lib.hid (by rw [HE.out, HS.out]), HB2⟩
      case measure => simp [intOf]; omega
    · obtain rfl : k = n := by omega
      have HE := Lib.hid (show Cp.text vs = S by rw [HS.out, List.take_of_length_le (by rw [hn.out]; exact Nat.le_refl _)])
      go_wp2_with fail
      go_ret
      exact ⟨ret_str (by rw [HE.out]), HB.out⟩
set_option maxHeartbeats 4000000 in
theorem refSame_any (A B : Option Addr) (n m c d : Nat) (vs us : List (Int × Int)) (w : World) (hn : Hid (vs.length = n)) (hm : Hid (us.length = m)) (hl : n ≤ 1000000) (hl2 : m ≤ 1000000) (hv : VRow w w.heap.size A vs) (hu : VRow w w.heap.size B us) :
    Calls Tryd.prog 16 #[.slice A n c, .slice B m d] w fun e w' => e = .returned (.bool (decide (vs = us))) ∧ Below w.heap.size w w' := by
  have HV := Lib.hid hv
  have HU := Lib.hid hu
  clear hv hu
  by_cases hnm : n = m
  · subst hnm
    go_enter Tryd.func16, Tryd.ntmps16
    go_wp2_with fail
    go_loopw [5] (fun i wr => ∃ (k : Nat), k ≤ n ∧ i = .int .i64 k ∧ Hid (vs.take k = us.take k) ∧ Hid (Below w.heap.size w wr)) (fun i _ => n - (intOf i).toNat)
    case atStart => exact ⟨0, Nat.zero_le _, rfl, Lib.hid rfl, Lib.hid (Below.refl _ _)⟩
    case round =>
      obtain ⟨k, hk, rfl, HS, HB⟩ := hrel
      by_cases hlt : k < n
      · obtain ⟨x, hx⟩ : ∃ x, vs[k]? = some x := ⟨_, List.getElem?_eq_getElem (by rw [hn.out]; exact hlt)⟩
        obtain ⟨y, hy⟩ : ∃ y, us[k]? = some y := ⟨_, List.getElem?_eq_getElem (by rw [hm.out]; exact hlt)⟩
        obtain ⟨b, off, rfl, hb, hc0, hc1⟩ := (HV.out.below HB.out) k x hx
        obtain ⟨b', off', rfl, hb', hd0, hd1⟩ := (HU.out.below HB.out) k y hy
        obtain ⟨x1, x2⟩ := x
        obtain ⟨y1, y2⟩ := y
        have HX := Lib.hid hx
        have HY := Lib.hid hy
        clear hx hy
        by_cases e1 : x1 = y1
        · subst e1
          by_cases e2 : x2 = y2
          · subst e2
            have HT := Lib.hid (show vs.take (k + 1) = us.take (k + 1) by rw [List.take_add_one, List.take_add_one, HX.out, HY.out, HS.out])
            go_wp2_with fail
            go_quiet (fail)
            go_wp2_with fail
            go_roundw
            case rel => exact ⟨k + 1, by omega, by go_num, HT, Lib.hid (below_drewN HB.out _)⟩
            case measure => simp [intOf]; omega
          · have t1 : (x2 == y2) = false := by rw [beq_eq_false_iff_ne]; exact e2
            have HE := Lib.hid (show ¬ vs = us from fun e => by have h1 := HX.out; rw [e, HY.out] at h1; injection h1 with h1; injection h1 with _ h2; exact e2 h2.symm)
            go_wp2_with fail
            go_quiet (fail)
            go_wp2_with fail
            go_ret
            exact ⟨ret_bool (by simp [HE.out]), below_drewN HB.out _⟩
        · have t1 : (x1 == y1) = false := by rw [beq_eq_false_iff_ne]; exact e1
          have HE := Lib.hid (show ¬ vs = us from fun e => by have h1 := HX.out; rw [e, HY.out] at h1; injection h1 with h1; injection h1 with h2 _; exact e1 h2.symm)
          go_wp2_with fail
          go_quiet (fail)
          go_wp2_with fail
          go_ret
          exact ⟨ret_bool (by simp [HE.out]), below_drewN HB.out _⟩
      · obtain rfl : k = n := by omega
        have HE := Lib.hid (show vs = us by have := HS.out; rwa [List.take_of_length_le (by rw [hn.out]; exact Nat.le_refl _), List.take_of_length_le (by rw [hm.out]; exact Nat.le_refl _)] at this)
        go_wp2_with fail
        go_ret
        exact ⟨ret_bool (by simp [HE.out]), HB.out⟩
  · have HE := Lib.hid (show ¬ vs = us from fun e => hnm (by rw [← hn.out, ← hm.out, e]))
    have t0 : ((n : Int) != (m : Int)) = true := by rw [bne_iff_ne]; omega
    clear hnm
    go_enter Tryd.func16, Tryd.ntmps16
    go_wp2_with fail
    go_ret
    exact ⟨ret_bool (by simp [HE.out]), Below.refl _ _⟩
end Go.Proofs.YtejhlenckdkonaaDoor

