/- The document's Line, by its contract. -/
import Derived.Test.YtejhlenckdkonaaDoorCFigs
namespace Go.Proofs.YtejhlenckdkonaaDoor
open Go.RowKit
set_option linter.unusedVariables false

theorem str_list (s : List UInt8) : (str s).toList = s := ByteArray.toList_mk s
theorem str_some {s : List UInt8} (h : s ≠ []) : (str s).toList.isEmpty = false := by
  rw [str_list]; cases s with
  | nil => exact absurd rfl h
  | cons _ _ => rfl
theorem str_none : (str []).toList.isEmpty = true := by rw [str_list]; rfl
set_option maxHeartbeats 4000000 in
theorem refLine_any (op a : Int) (w : World) (ha : Cp.In64 a) :
    Calls Tryd.prog 29 #[.agg #[.int .i64 op, .int .i64 a]] w fun e w' => e = .returned (.string (str (Cp.line (op, a)))) ∧ Below w.heap.size w w' := by
  obtain ⟨W, hW⟩ : ∃ W, W = w.alloc (.cells #[.int .i64 op, .int .i64 a] 42) := ⟨_, rfl⟩
  have hb0 : Below w.heap.size w W := by rw [hW]; exact below_new _ _
  have c0 : W.cell? ⟨w.heap.size, 0, none⟩ = some (.int .i64 op) := by rw [hW, World.cell?_alloc_at _ _ _ _ rfl]; rfl
  have c1 : W.cell? ⟨w.heap.size, 1, none⟩ = some (.int .i64 a) := by rw [hW, World.cell?_alloc_at _ _ _ _ rfl]; rfl
  have HB0 := Lib.hid hb0
  have EW := Lib.hid hW
  clear hW hb0
  go_enter Tryd.func29, Tryd.ntmps29
  go_wp2_with fail
  rw [← EW.out]
  clear EW
  refine (refName_any op W).mono ?_
  rintro e w1 ⟨rfl, hb⟩
  have d0 := keepcell hb c0
  have d1 := keepcell hb c1
  have HB1 := Lib.hid (HB0.out.trans (hb.mono HB0.out.size))
  clear hb c0 c1
  have hfl := Cp.figs_len ha
  have hnl := Cp.nm_len op
  have hadd1 : ∀ W, (Op.stringOp .add (str (Cp.nm op)) ⟨#[32]⟩).run Tryd.prog W = .ok (.string (str (Cp.nm op ++ [32]))) W := fun W => str_add W _ [32] (by simp; omega)
  have hadd2 : ∀ W, (Op.stringOp .add (str (Cp.nm op ++ [32])) (str (Cp.figs a))).run Tryd.prog W = .ok (.string (str (Cp.nm op ++ [32] ++ Cp.figs a))) W := fun W => str_add W _ _ (by simp; omega)
  have hadd3 : ∀ W, (Op.stringOp .add (⟨#[63]⟩ ++ ⟨#[32]⟩) (str (Cp.figs a))).run Tryd.prog W = .ok (.string (str ([63] ++ [32] ++ Cp.figs a))) W := fun W => by
    rw [show ((⟨#[63]⟩ : ByteArray) ++ ⟨#[32]⟩) = str ([63] ++ [32]) from rfl]
    exact str_add W _ _ (by simp; omega)
  have HF := refFigs_any (a.natAbs + 1) a w1 (by omega) ha
  have HBr := Lib.hid (show Cp.isBare (op, a) = ((op == 2 || op == 10) && a == 0) from rfl)
  clear hfl hnl
  by_cases hn : 1 ≤ op ∧ op ≤ 10
  · have hne := str_some (Cp.nm_ne hn.1 hn.2)
    have HH := Lib.hid (Cp.head_named hn)
    by_cases h2 : op = 2
    · have t2 : (op == 2) = true := by rw [beq_iff_eq]; exact h2
      by_cases ha0 : a = 0
      · have t0 : (a == 0) = true := by rw [beq_iff_eq]; exact ha0
        have HL := Lib.hid (show Cp.line (op, a) = Cp.nm op by unfold Cp.line; rw [HBr.out, HH.out]; simp [*])
        clear hn h2 ha0 hadd1 hadd2 hadd3 HF
        go_wp2_with fail
        go_ret
        exact ⟨ret_str (by rw [HL.out]), HB1.out⟩
      · have t0 : (a == 0) = false := by rw [beq_eq_false_iff_ne]; exact ha0
        have HL := Lib.hid (show Cp.line (op, a) = Cp.nm op ++ [32] ++ Cp.figs a by unfold Cp.line; rw [HBr.out, HH.out]; simp [*])
        clear hn h2 hadd3
        go_wp2_with fail
        refine HF.mono ?_
        rintro e w2 ⟨rfl, hb⟩
        have HB2 := Lib.hid (HB1.out.trans (hb.mono HB1.out.size))
        clear hb
        go_wp2_with fail
        go_ret
        exact ⟨ret_str (by rw [HL.out]; simp), HB2.out⟩
    · have t2 : (op == 2) = false := by rw [beq_eq_false_iff_ne]; exact h2
      by_cases h10 : op = 10
      · have t10 : (op == 10) = true := by rw [beq_iff_eq]; exact h10
        clear h10
        by_cases ha0 : a = 0
        · have t0 : (a == 0) = true := by rw [beq_iff_eq]; exact ha0
          have HL := Lib.hid (show Cp.line (op, a) = Cp.nm op by unfold Cp.line; rw [HBr.out, HH.out]; simp [*])
          clear hn h2 ha0 hadd1 hadd2 hadd3 HF
          go_wp2_with fail
          go_ret
          exact ⟨ret_str (by rw [HL.out]), HB1.out⟩
        · have t0 : (a == 0) = false := by rw [beq_eq_false_iff_ne]; exact ha0
          have HL := Lib.hid (show Cp.line (op, a) = Cp.nm op ++ [32] ++ Cp.figs a by unfold Cp.line; rw [HBr.out, HH.out]; simp [*])
          clear hn h2 hadd3
          go_wp2_with fail
          refine HF.mono ?_
          rintro e w2 ⟨rfl, hb⟩
          have HB2 := Lib.hid (HB1.out.trans (hb.mono HB1.out.size))
          clear hb
          go_wp2_with fail
          go_ret
          exact ⟨ret_str (by rw [HL.out]; simp), HB2.out⟩
      · have t10 : (op == 10) = false := by rw [beq_eq_false_iff_ne]; exact h10
        have HL := Lib.hid (show Cp.line (op, a) = Cp.nm op ++ [32] ++ Cp.figs a by unfold Cp.line; rw [HBr.out, HH.out]; simp [*])
        clear hn h2 hadd3
        go_wp2_with fail
        refine HF.mono ?_
        rintro e w2 ⟨rfl, hb⟩
        have HB2 := Lib.hid (HB1.out.trans (hb.mono HB1.out.size))
        clear hb
        go_wp2_with fail
        go_ret
        exact ⟨ret_str (by rw [HL.out]; simp), HB2.out⟩
  · have HH := Lib.hid (Cp.head_none hn)
    have t2 : (op == 2) = false := by rw [beq_eq_false_iff_ne]; omega
    have t10 : (op == 10) = false := by rw [beq_eq_false_iff_ne]; omega
    have hne := str_none
    rw [Cp.nm_out hn]
    have HL := Lib.hid (show Cp.line (op, a) = [63] ++ [32] ++ Cp.figs a by unfold Cp.line; rw [HBr.out, HH.out]; simp [*])
    clear hn hadd1 hadd2
    go_wp2_with fail
    refine HF.mono ?_
    rintro e w2 ⟨rfl, hb⟩
    have HB2 := Lib.hid (HB1.out.trans (hb.mono HB1.out.size))
    clear hb
    go_wp2_with fail
    go_ret
    exact ⟨ret_str (by rw [HL.out]; simp), HB2.out⟩
end Go.Proofs.YtejhlenckdkonaaDoor

