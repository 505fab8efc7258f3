/- The variables that the landed code reads, as their initialisers lay them; isBelow, Name and line, by their contracts. -/
import Derived.Test.YtejhlenckdkonaaDoorCLaid
import Derived.Test.YtejhlenckdkonaaDoorCText
import Derived.Lib.SmallJoins
namespace Go.Proofs.YtejhlenckdkonaaDoor
open Go.RowKit
set_option linter.unusedVariables false
set_option maxRecDepth 100000

/-- The names' table, and the library's table of powers. -/
structure Met (w : World) : Prop where
  names : ∀ j, j < 11 → w.cell? ⟨0, j, none⟩ = some (.string (str (Cp.nm (j : Int))))
  pow : Lib.TabIs Tryd.prog w "internal/strconv.uint64pow10" .u64 Lib.pow10Tab
theorem gPow : Tryd.prog.globalNamed "internal/strconv.uint64pow10" = some 4 := by kernel_rfl
theorem Met.step {w w' : World} (h : Met w) (hb : Below w.heap.size w w') : Met w' := ⟨fun j hj => keepcell hb (h.names j hj), Go.Joins.tab_stays gPow h.pow hb (Nat.le_refl _)⟩
theorem below_grow (w : World) (k : Nat) (os : Array Obj) : Below w.heap.size w (Sort.grow (w.drewN k) os) :=
  ⟨rfl, rfl, rfl, by show w.heap.size ≤ (w.heap ++ os).size; simp, fun j hj => by show (w.heap ++ os)[j]? = _; rw [Array.getElem?_append_left hj]⟩
theorem dec_figN (n : Nat) : Lib.decDigits n = Cp.figN n := by
  induction n using Nat.strongRecOn with
  | _ n ih =>
    by_cases h : n < 10
    · rw [Lib.decDigits, dif_pos h, Cp.figN_low h]
    · rw [Lib.decDigits, dif_neg h, Cp.figN_high h, ih (n / 10) (by omega)]
theorem itoa_figs (z : Int) : Lib.itoa z = Cp.figs z := by
  unfold Lib.itoa Cp.figs
  by_cases h : z < 0
  · rw [if_pos h, if_pos h, dec_figN]
  · rw [if_neg h, if_neg h, dec_figN, show z.toNat = z.natAbs by omega]
theorem itoa_any (z : Int) (w : World) (hz : Cp.In64 z) (hM : Met w) :
    Calls Tryd.prog 36 #[.int .i64 z] w fun e w' => e = .returned (.string (str (Cp.figs z))) ∧ Below w.heap.size w w' := by
  refine (Any.strconv_Itoa laysM171 z hz.1 hz.2 w hM.pow).mono ?_
  rintro e w' ⟨rfl, k, os, rfl⟩
  exact ⟨by rw [itoa_figs]; rfl, below_grow _ _ _⟩
theorem isBelow_any (a n : Int) (w : World) :
    Calls Tryd.prog 19 #[.int .i64 a, .int .i64 n] w fun e w' => e = .returned (.bool (decide (0 ≤ a) && decide (a < n))) ∧ w' = w := by
  by_cases h0 : 0 ≤ a
  · by_cases h1 : a < n
    · rw [decide_eq_true h0, decide_eq_true h1]
      go_enter Tryd.func19, Tryd.ntmps19
      go_wp2_with fail
      go_ret
      exact ⟨rfl, rfl⟩
    · rw [decide_eq_true h0, decide_eq_false h1]
      go_enter Tryd.func19, Tryd.ntmps19
      go_wp2_with fail
      go_ret
      exact ⟨rfl, rfl⟩
  · rw [decide_eq_false h0, Bool.false_and]
    go_enter Tryd.func19, Tryd.ntmps19
    go_wp2_with fail
    go_ret
    exact ⟨rfl, rfl⟩
theorem name_in (k : Nat) (s : ByteArray) (w : World) (hk : k < 11) (hc : w.cell? ⟨0, k, none⟩ = some (.string s)) :
    Calls Tryd.prog 17 #[.int .i64 (k : Int)] w fun e w' => e = .returned (.string s) ∧ w' = w := by
  have HE := Lib.hid (show (decide ((0 : Int) ≤ (k : Int)) && decide ((k : Int) < 11)) = true by rw [decide_eq_true (by omega), decide_eq_true (by omega)]; rfl)
  go_enter Tryd.func17, Tryd.ntmps17
  go_wp2_with fail
  refine (isBelow_any _ 11 _).mono ?_
  rintro e w1 ⟨rfl, rfl⟩
  rw [HE.out]
  go_wp2_with fail
  go_ret
  exact ⟨rfl, rfl⟩
theorem name_any (op : Int) (w : World) (hM : Met w) :
    Calls Tryd.prog 17 #[.int .i64 op] w fun e w' => e = .returned (.string (str (Cp.nm op))) ∧ Below w.heap.size w w' := by
  by_cases h : 0 ≤ op ∧ op < 11
  · obtain ⟨k, rfl⟩ : ∃ k : Nat, op = (k : Int) := ⟨op.toNat, by omega⟩
    refine (name_in k _ w (by omega) (hM.names k (by omega))).mono ?_
    rintro e w1 ⟨rfl, rfl⟩
    exact ⟨rfl, Below.refl _ _⟩
  · have HE := Lib.hid (show (decide (0 ≤ op) && decide (op < 11)) = false by
      rw [← Bool.decide_and, decide_eq_false h])
    have HN := Lib.hid (show Cp.nm op = [] from Cp.nm_out (by omega))
    clear h hM
    go_enter Tryd.func17, Tryd.ntmps17
    go_wp2_with fail
    refine (isBelow_any _ 11 _).mono ?_
    rintro e w1 ⟨rfl, rfl⟩
    rw [HE.out]
    go_wp2_with fail
    go_ret
    exact ⟨by rw [HN.out]; rfl, Below.refl _ _⟩
set_option maxHeartbeats 4000000 in
theorem line_any (op a : Int) (w : World) (ha : Cp.In64 a) (hM : Met w) :
    Calls Tryd.prog 26 #[.agg #[.int .i64 op, .int .i64 a]] w fun e w' => e = .returned (.string (str (Cp.line (op, a)))) ∧ Below w.heap.size w w' := by
  obtain ⟨W, hW⟩ : ∃ W, W = w.alloc (.cells #[.int .i64 op, .int .i64 a] 42) := ⟨_, rfl⟩
  have hb0 : Below w.heap.size w W := by rw [hW]; exact below_new _ _
  have c0 : W.cell? ⟨w.heap.size, 0, none⟩ = some (.int .i64 op) := by rw [hW, World.cell?_alloc_at _ _ _ _ rfl]; rfl
  have c1 : W.cell? ⟨w.heap.size, 1, none⟩ = some (.int .i64 a) := by rw [hW, World.cell?_alloc_at _ _ _ _ rfl]; rfl
  have HM := Lib.hid (hM.step hb0)
  have HB0 := Lib.hid hb0
  have EW := Lib.hid hW
  clear hW hb0 hM
  go_enter Tryd.func26, Tryd.ntmps26
  go_wp2_with fail
  rw [← EW.out]
  clear EW
  refine (name_any op W HM.out).mono ?_
  rintro e w1 ⟨rfl, hb⟩
  have d0 := keepcell hb c0
  have d1 := keepcell hb c1
  have HB1 := Lib.hid (HB0.out.trans (hb.mono HB0.out.size))
  have HM1 := Lib.hid (HM.out.step hb)
  clear hb c0 c1
  have hfl := Cp.figs_len ha
  have hnl := Cp.nm_len op
  have hadd1 : ∀ W, (Op.stringOp .add (str (Cp.nm op)) ⟨#[32]⟩).run Tryd.prog W = .ok (.string (str (Cp.nm op ++ [32]))) W := fun W => str_add W _ [32] (by simp; omega)
  have hadd2 : ∀ W, (Op.stringOp .add (str (Cp.nm op ++ [32])) (str (Cp.figs a))).run Tryd.prog W = .ok (.string (str (Cp.nm op ++ [32] ++ Cp.figs a))) W := fun W => str_add W _ _ (by simp; omega)
  have hadd3 : ∀ W, (Op.stringOp .add (⟨#[63]⟩ ++ ⟨#[32]⟩) (str (Cp.figs a))).run Tryd.prog W = .ok (.string (str ([63] ++ [32] ++ Cp.figs a))) W := fun W => by
    rw [show ((⟨#[63]⟩ : ByteArray) ++ ⟨#[32]⟩) = str ([63] ++ [32]) from rfl]
    exact str_add W _ _ (by simp; omega)
  have HF := itoa_any a w1 ha HM1.out
  have HBr := Lib.hid (show Cp.isBare (op, a) = ((op == 2 || op == 10) && a == 0) from rfl)
  clear hfl hnl
  by_cases hn : 1 ≤ op ∧ op ≤ 10
  · have hne := str_some (Cp.nm_ne hn.1 hn.2)
    have HH := Lib.hid (Cp.head_named hn)
    clear hn
    by_cases ha0 : a = 0
    · subst ha0
      by_cases h2 : op = 2
      · have t2 : (op == 2) = true := by rw [beq_iff_eq]; exact h2
        clear h2
        have HL := Lib.hid (show Cp.line (op, 0) = Cp.head op by unfold Cp.line; rw [HBr.out]; simp [*])
        rw [HH.out] at HL
        clear hadd1 hadd2 hadd3 HF
        go_wp2_with fail
        go_ret
        exact ⟨ret_str (by rw [HL.out]), HB1.out⟩
      · have t2 : (op == 2) = false := by rw [beq_eq_false_iff_ne]; exact h2
        by_cases h10 : op = 10
        · have t10 : (op == 10) = true := by rw [beq_iff_eq]; exact h10
          clear h2 h10
          have HL := Lib.hid (show Cp.line (op, 0) = Cp.head op by unfold Cp.line; rw [HBr.out]; simp [*])
          rw [HH.out] at HL
          clear hadd1 hadd2 hadd3 HF
          go_wp2_with fail
          go_ret
          exact ⟨ret_str (by rw [HL.out]), HB1.out⟩
        · have t10 : (op == 10) = false := by rw [beq_eq_false_iff_ne]; exact h10
          clear h2 h10
          have HL := Lib.hid (show Cp.line (op, 0) = Cp.head op ++ [32] ++ Cp.figs 0 by unfold Cp.line; rw [HBr.out]; simp [*])
          rw [HH.out] at HL
          clear hadd3
          go_wp2_with fail
          refine HF.mono ?_
          rintro e w2 ⟨rfl, hb⟩
          have HB2 := Lib.hid (HB1.out.trans (hb.mono HB1.out.size))
          clear hb
          go_wp2_with fail
          go_ret
          exact ⟨ret_str (by rw [HL.out]; simp), HB2.out⟩
    · have t0 : (a == 0) = false := by rw [beq_eq_false_iff_ne]; exact ha0
      have HL := Lib.hid (show Cp.line (op, a) = Cp.head op ++ [32] ++ Cp.figs a by unfold Cp.line; rw [HBr.out]; simp [*])
      rw [HH.out] at HL
      clear hadd3
      go_wp2_with fail
      refine HF.mono ?_
      rintro e w2 ⟨rfl, hb⟩
      have HB2 := Lib.hid (HB1.out.trans (hb.mono HB1.out.size))
      clear hb
      go_wp2_with fail
      go_ret
      exact ⟨ret_str (by rw [HL.out]; simp), HB2.out⟩
  · have HH := Lib.hid (Cp.head_none hn)
    have t2 : (op == 2) = false := by rw [beq_eq_false_iff_ne]; omega
    have t10 : (op == 10) = false := by rw [beq_eq_false_iff_ne]; omega
    have hne := str_none
    rw [Cp.nm_out hn]
    have HL := Lib.hid (show Cp.line (op, a) = [63] ++ [32] ++ Cp.figs a by unfold Cp.line; rw [HBr.out, HH.out]; simp [*])
    clear hn hadd1 hadd2
    by_cases ha0 : a = 0
    · subst ha0
      go_wp2_with fail
      refine HF.mono ?_
      rintro e w2 ⟨rfl, hb⟩
      have HB2 := Lib.hid (HB1.out.trans (hb.mono HB1.out.size))
      clear hb
      go_wp2_with fail
      go_ret
      exact ⟨ret_str (by rw [HL.out]; simp), HB2.out⟩
    · have t0 : (a == 0) = false := by rw [beq_eq_false_iff_ne]; exact ha0
      go_wp2_with fail
      refine HF.mono ?_
      rintro e w2 ⟨rfl, hb⟩
      have HB2 := Lib.hid (HB1.out.trans (hb.mono HB1.out.size))
      clear hb
      go_wp2_with fail
      go_ret
      exact ⟨ret_str (by rw [HL.out]; simp), HB2.out⟩
end Go.Proofs.YtejhlenckdkonaaDoor

