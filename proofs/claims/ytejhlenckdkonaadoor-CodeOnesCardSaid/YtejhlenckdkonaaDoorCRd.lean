/- The document's read, by its contract. -/
import Derived.Test.YtejhlenckdkonaaDoorCNum
namespace Go.Proofs.YtejhlenckdkonaaDoor
open Go.RowKit
set_option linter.unusedVariables false

/-- The place of a result of two cells. -/
structure R2 (w W : World) (u v : Value) : Prop where
  r0 : W.cell? ⟨w.heap.size, 0, none⟩ = some u
  r1 : W.cell? ⟨w.heap.size, 1, none⟩ = some v
  f0 : W.frozen? ⟨w.heap.size, 0, none⟩ = false
  f1 : W.frozen? ⟨w.heap.size, 1, none⟩ = false
  below : Below w.heap.size w W
  size : w.heap.size + 1 ≤ W.heap.size
theorem R2.start (w : World) (u v : Value) (T : TypeId) : R2 w (w.alloc (.cells #[u, v] T)) u v :=
  ⟨by rw [World.cell?_alloc_at _ _ _ _ rfl]; rfl, by rw [World.cell?_alloc_at _ _ _ _ rfl]; rfl, by rw [World.frozen?_alloc_at _ _ _ _ rfl], by rw [World.frozen?_alloc_at _ _ _ _ rfl], below_new _ _, by simp⟩
theorem R2.step {w W W' : World} {u v : Value} (h : R2 w W u v) (hb : Below W.heap.size W W') : R2 w W' u v :=
  ⟨keepcell hb h.r0, keepcell hb h.r1, keepfree hb h.r0 h.f0, keepfree hb h.r1 h.f1, h.below.trans (hb.mono (Nat.le_of_succ_le h.size)), Nat.le_trans h.size hb.size⟩
theorem R2.put {w W : World} {u v : Value} (h : R2 w W u v) (v' : Value) : R2 w (W.setCell ⟨w.heap.size, 1, none⟩ v') u v' :=
  ⟨by rw [World.cell?_setCell_other _ _ _ _ (fun e => by injection e with _ e; omega)]; exact h.r0, World.cell?_setCell_same' _ _ _ (by rw [h.r1]; rfl), by rw [World.frozen?_setCell]; exact h.f0, by rw [World.frozen?_setCell]; exact h.f1,
    h.below.setCell (by simp) v', by rw [show (W.setCell ⟨w.heap.size, 1, none⟩ v').heap.size = W.heap.size by simp [World.setCell]]; exact h.size⟩
theorem R2.other {w W : World} {u v : Value} {X o : Nat} (h : R2 w W u v) (hX : w.heap.size < X) (v' : Value) : R2 w (W.setCell ⟨X, o, none⟩ v') u v :=
  ⟨by rw [World.cell?_setCell_other _ _ _ _ (fun e => by injection e with e _; omega)]; exact h.r0, by rw [World.cell?_setCell_other _ _ _ _ (fun e => by injection e with e _; omega)]; exact h.r1, by rw [World.frozen?_setCell]; exact h.f0, by rw [World.frozen?_setCell]; exact h.f1,
    h.below.setCell (by simp only; omega) v', by rw [show (W.setCell ⟨X, o, none⟩ v').heap.size = W.heap.size by simp [World.setCell]]; exact h.size⟩
theorem R2.done {w W : World} {u v : Value} (h : R2 w W u v) (x y : Value) : Below w.heap.size w ((W.setCell ⟨w.heap.size, 0, none⟩ x).setCell ⟨w.heap.size, 1, none⟩ y) := (h.below.setCell (by simp) x).setCell (by simp) y
theorem str_cmp (a b : List UInt8) : ((str a).toList == (str b).toList) = decide (a = b) := by
  rw [str_list, str_list, Bool.eq_iff_iff, beq_iff_eq, decide_eq_true_eq]
/-- What a call leaves that tells an instruction, and whether. -/
def RdTold (w : World) (o : Option (Int × Int)) (e : Ending) (w' : World) : Prop :=
  e = .returned (.tuple #[.agg #[.int .i64 (o.getD (0, 0)).1, .int .i64 (o.getD (0, 0)).2], .bool o.isSome]) ∧ Below w.heap.size w w'
set_option maxHeartbeats 4000000 in
set_option maxRecDepth 100000 in
theorem refRead_any (S : List UInt8) (w : World) (hS : S.length ≤ 1000000) :
    Calls Tryd.prog 24 #[.string (str S)] w (RdTold w (Cp.rd S)) := by
  obtain ⟨n, hn⟩ : ∃ n, (str S).size = n := ⟨_, rfl⟩
  have hnl : S.length = n := by rw [← hn, str_size]
  have HN := Lib.hid hnl
  have hn2 : n ≤ 1000000 := by omega
  clear hnl
  obtain ⟨W0, hW0⟩ : ∃ W, W = w.alloc (.cells #[.int .i64 0, .int .i64 0] 42) := ⟨_, rfl⟩
  have R0 := Lib.hid (show R2 w W0 (.int .i64 0) (.int .i64 0) by rw [hW0]; exact R2.start _ _ _ _)
  have E0 := Lib.hid hW0
  clear hW0
  go_enter Tryd.func24, Tryd.ntmps24
  go_wp2_with fail
  rw [← E0.out]
  go_loopw [4] (fun i wr => ∃ (k : Nat), k ≤ 10 ∧ i = .int .i64 ((k : Int) + 1) ∧ Hid (Cp.rdF S k = none) ∧ Hid (R2 w wr (.int .i64 0) (.int .i64 0))) (fun i _ => 11 - (intOf i).toNat)
  case atStart => exact ⟨0, Nat.zero_le _, rfl, Lib.hid rfl, R0⟩
  case round =>
    obtain ⟨k, hk, rfl, HK, HR⟩ := hrel
    have d0 := HR.out.r0
    have d1 := HR.out.r1
    have d2 := HR.out.f0
    have d3 := HR.out.f1
    by_cases hlt : k < 10
    · have g1 : (k : Int) + 1 ≤ 10 := by omega
      obtain ⟨op, hop⟩ : ∃ op : Int, op = (k : Int) + 1 := ⟨_, rfl⟩
      have HB := Lib.hid HR.out.below
      have hsz := HR.out.size
      go_wp2_with fail
      refine (refName_any ((k : Int) + 1) wr).mono ?_
      rintro e w1 ⟨rfl, hb1⟩
      have HR1 := Lib.hid (HR.out.step hb1)
      have hsz1 := HR1.out.size
      obtain ⟨L, hL⟩ : ∃ L, (Cp.nm ((k : Int) + 1)).length = L := ⟨_, rfl⟩
      have HL := Lib.hid hL
      clear hb1 d0 d1 d2 d3 hL
      have hns : (str S).size = n := hn
      have hLs : (str (Cp.nm ((k : Int) + 1))).size = L := by rw [str_size]; exact HL.out
      have hL7 : L ≤ 7 := by rw [← HL.out]; exact Cp.nm_len _
      go_wp2_with fail
      obtain ⟨W2, hW2⟩ : ∃ W, W = w1.alloc (.cells #[.int .i64 ((k : Int) + 1), .int .i64 0] 42) := ⟨_, rfl⟩
      have HX2 := Lib.hid (show R2 w1 W2 (.int .i64 ((k : Int) + 1)) (.int .i64 0) by rw [hW2]; exact R2.start _ _ _ _)
      have HR2 := Lib.hid (show R2 w W2 (.int .i64 0) (.int .i64 0) by rw [hW2]; exact HR1.out.step (below_new _ _))
      rw [← hW2]
      clear hW2
      refine (refLine_any ((k : Int) + 1) 0 W2 ⟨by omega, by omega⟩).mono ?_
      rintro e w3 ⟨rfl, hb3⟩
      have HX3 := Lib.hid (HX2.out.step hb3)
      have HR3 := Lib.hid (HR2.out.step hb3)
      clear hb3
      have x0 := HX3.out.r0
      have x1 := HX3.out.r1
      have x2 := HX3.out.f0
      have x3 := HX3.out.f1
      have c0 := str_cmp (Cp.line ((k : Int) + 1, 0)) S
      by_cases he : Cp.line ((k : Int) + 1, 0) = S
      · rw [decide_eq_true he] at c0
        have HE := Lib.hid (show Cp.rd S = some ((k : Int) + 1, 0) from Cp.rd_iff.2 (Cp.tryOp_reads (op := (k : Int) + 1) (by omega) (by omega) (by unfold Cp.tryOp; rw [if_pos he])))
        clear he
        have d0 := HR3.out.r0
        have d1 := HR3.out.r1
        have d2 := HR3.out.f0
        have d3 := HR3.out.f1
        obtain ⟨k0, k1⟩ := told2 (u := .int .i64 ((k : Int) + 1)) (v := .int .i64 0) d0 d1
        have HD := Lib.hid (HR3.out.done (.int .i64 ((k : Int) + 1)) (.int .i64 0))
        go_wp2_with fail
        refine bodyPost_ret (v := .tuple #[.agg #[.int .i64 ((k : Int) + 1), .int .i64 0], .bool true]) ?_ rfl ?_
        · simp [results, Tryd.results24, go_sem, k0, k1]
        exact ⟨by rw [HE.out]; rfl, HD.out⟩
      · rw [decide_eq_false he] at c0
        have HNE := Lib.hid he
        clear he
        by_cases hLn : L < n
        · have g2 : (L : Int) < (n : Int) := by omega
          have ht := str_take S L
          have c1 := str_cmp (S.take L) (Cp.nm ((k : Int) + 1))
          by_cases hp : S.take L = Cp.nm ((k : Int) + 1)
          · rw [decide_eq_true hp] at c1
            have ht2 : (str S).extract (L + 1) n = str (S.drop (L + 1)) := by rw [← HN.out]; exact str_drop S (L + 1)
            have g3 : (0 : Int) ≤ (L : Int) + 1 := by omega
            have g4 : (L : Int) + 1 ≤ (n : Int) := by omega
            have hdl : (S.drop (L + 1)).length ≤ 1000000 := by rw [List.length_drop]; omega
            obtain ⟨z, hz⟩ : ∃ z, Cp.num (S.drop (L + 1)) = z := ⟨_, rfl⟩
            have HZ := Lib.hid hz
            have HZF := Lib.hid (show Cp.In64 z by rw [← hz]; exact Cp.num_fits _)
            have HP := Lib.hid hp
            clear hp hz
            go_wp2_with fail
            refine (refNum_any (S.drop (L + 1)) w3 hdl).mono ?_
            rintro e w4 ⟨rfl, rfl⟩
            rw [HZ.out]
            have HX4 := Lib.hid (HX3.out.put (.int .i64 z))
            have HR4 := Lib.hid (HR3.out.other (X := w1.heap.size) (o := 1) (Nat.lt_of_lt_of_le (Nat.lt_succ_self _) hsz1) (.int .i64 z))
            go_wp2_with fail
            obtain ⟨W4, hW4⟩ : ∃ W, W = w4.setCell ⟨w1.heap.size, 1, none⟩ (.int .i64 z) := ⟨_, rfl⟩
            rw [← hW4] at HX4 HR4 ⊢
            clear hW4 x0 x1 x2 x3
            refine (refLine_any ((k : Int) + 1) z W4 HZF.out).mono ?_
            rintro e w5 ⟨rfl, hb5⟩
            have HX5 := Lib.hid (HX4.out.step hb5)
            have HR5 := Lib.hid (HR4.out.step hb5)
            clear hb5
            have x0 := HX5.out.r0
            have x1 := HX5.out.r1
            have x2 := HX5.out.f0
            have x3 := HX5.out.f1
            have c2 := str_cmp (Cp.line ((k : Int) + 1, z)) S
            by_cases he2 : Cp.line ((k : Int) + 1, z) = S
            · rw [decide_eq_true he2] at c2
              have HE := Lib.hid (show Cp.rd S = some ((k : Int) + 1, z) from Cp.rd_iff.2 ⟨by unfold Cp.named; simp; omega, HZF.out, he2⟩)
              clear he2
              have d0 := HR5.out.r0
              have d1 := HR5.out.r1
              have d2 := HR5.out.f0
              have d3 := HR5.out.f1
              obtain ⟨k0, k1⟩ := told2 (u := .int .i64 ((k : Int) + 1)) (v := .int .i64 z) d0 d1
              have HD := Lib.hid (HR5.out.done (.int .i64 ((k : Int) + 1)) (.int .i64 z))
              go_wp2_with fail
              refine bodyPost_ret (v := .tuple #[.agg #[.int .i64 ((k : Int) + 1), .int .i64 z], .bool true]) ?_ rfl ?_
              · simp [results, Tryd.results24, go_sem, k0, k1]
              exact ⟨by rw [HE.out]; rfl, HD.out⟩
            · rw [decide_eq_false he2] at c2
              have HT := Lib.hid (show Cp.tryOp ((k : Int) + 1) S = none by
                unfold Cp.tryOp
                rw [if_neg HNE.out, if_pos ⟨by rw [HL.out, HN.out]; exact hLn, by rw [HL.out]; exact HP.out⟩, HL.out, HZ.out, if_neg he2])
              have HK2 := Lib.hid (show Cp.rdF S (k + 1) = none by rw [Cp.rdF_succ, HK.out, HT.out]; rfl)
              clear he2
              go_wp2_with fail
              go_roundw
              case rel => exact ⟨k + 1, by omega, by go_num, HK2, HR5⟩
              case measure => simp [intOf]; omega
          · rw [decide_eq_false hp] at c1
            have HT := Lib.hid (show Cp.tryOp ((k : Int) + 1) S = none by
              unfold Cp.tryOp
              rw [if_neg HNE.out, if_neg (fun h => hp (by rw [← HL.out]; exact h.2))])
            have HK2 := Lib.hid (show Cp.rdF S (k + 1) = none by rw [Cp.rdF_succ, HK.out, HT.out]; rfl)
            clear hp
            go_wp2_with fail
            go_roundw
            case rel => exact ⟨k + 1, by omega, by go_num, HK2, HR3⟩
            case measure => simp [intOf]; omega
        · have g2 : ¬ (L : Int) < (n : Int) := by omega
          have HT := Lib.hid (show Cp.tryOp ((k : Int) + 1) S = none by
            unfold Cp.tryOp
            rw [if_neg HNE.out, if_neg (fun h => hLn (by rw [← HL.out, ← HN.out]; exact h.1))])
          have HK2 := Lib.hid (show Cp.rdF S (k + 1) = none by rw [Cp.rdF_succ, HK.out, HT.out]; rfl)
          clear hLn
          go_wp2_with fail
          go_roundw
          case rel => exact ⟨k + 1, by omega, by go_num, HK2, HR3⟩
          case measure => simp [intOf]; omega
    · obtain rfl : k = 10 := by omega
      have HE := Lib.hid (show Cp.rd S = none from HK.out)
      obtain ⟨k0, k1⟩ := told2 (u := .int .i64 0) (v := .int .i64 0) d0 d1
      have HD := Lib.hid (HR.out.done (.int .i64 0) (.int .i64 0))
      go_wp2_with fail
      refine bodyPost_ret (v := .tuple #[.agg #[.int .i64 0, .int .i64 0], .bool false]) ?_ rfl ?_
      · simp [results, Tryd.results24, go_sem, k0, k1]
      exact ⟨by rw [HE.out]; rfl, HD.out⟩
end Go.Proofs.YtejhlenckdkonaaDoor

