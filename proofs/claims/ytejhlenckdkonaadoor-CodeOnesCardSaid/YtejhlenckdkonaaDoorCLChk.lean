/- The landed checkOne and Check, by their contracts. -/
import Derived.Test.YtejhlenckdkonaaDoorCLMay
namespace Go.Proofs.YtejhlenckdkonaaDoor
open Go.RowKit
set_option linter.unusedVariables false
set_option maxRecDepth 100000

def ChkTold (w : World) (r : Int × Int) (e : Ending) (w' : World) : Prop := e = .returned (.tuple #[.int .i64 r.1, .int .i64 r.2]) ∧ Below w.heap.size w w'
set_option maxHeartbeats 8000000 in
theorem checkOne_any (A : Option Addr) (m c : Nat) (l : List (Int × Int)) (progs sems boxes : Int) (w : World) (hm : Hid (l.length = m)) (hcap : m ≤ c) (hmost : c ≤ 9223372036854775807) (hv : VRow w w.heap.size A l) :
    Calls Tryd.prog 20 #[.slice A m c, .int .i64 progs, .agg #[.int .i64 sems, .int .i64 boxes]] w (ChkTold w ((Cp.bad l sems boxes progs).getD (0, 0))) := by
  have HV := Lib.hid hv
  obtain ⟨W0, hW0⟩ : ∃ W, W = w.alloc (.cells #[.int .i64 sems, .int .i64 boxes] 29) := ⟨_, rfl⟩
  have s0 : W0.cell? ⟨w.heap.size, 0, none⟩ = some (.int .i64 sems) := by rw [hW0, World.cell?_alloc_at _ _ _ _ rfl]; rfl
  have s1 : W0.cell? ⟨w.heap.size, 1, none⟩ = some (.int .i64 boxes) := by rw [hW0, World.cell?_alloc_at _ _ _ _ rfl]; rfl
  have HB0 := Lib.hid (show Below w.heap.size w W0 by rw [hW0]; exact below_new _ _)
  have E0 := Lib.hid hW0
  have HBD := Lib.hid (show Cp.bad l sems boxes progs = if m = 0 ∨ 32 < m then some (0, 3) else if l.findIdx (fun x => !Cp.may x sems boxes progs m) < m then some (((l.findIdx (fun x => !Cp.may x sems boxes progs m) : Nat) : Int), 1) else if (l.getD (m - 1) (0, 0)).1 ≠ 10 then some ((m : Int) - 1, 2) else none by unfold Cp.bad; rw [hm.out])
  clear hW0 hv
  by_cases hm0 : m = 0
  · have HC := Lib.hid (show (Cp.bad l sems boxes progs).getD (0, 0) = (0, 3) by rw [HBD.out, if_pos (.inl hm0)]; rfl)
    have q0 : ((m : Int) == 0) = true := by rw [beq_iff_eq]; omega
    have HB := HB0
    go_enter Tryd.func20, Tryd.ntmps20
    go_wp2_with fail
    rw [← E0.out]
    refine bodyPost_ret (v := .tuple #[.int .i64 0, .int .i64 3]) (by simp [results, Tryd.results20, go_sem]) rfl ?_
    rw [HC.out]
    exact ⟨rfl, HB.out⟩
  · have q0 : ((m : Int) == 0) = false := by rw [beq_eq_false_iff_ne]; omega
    by_cases hm32 : 32 < m
    · have HC := Lib.hid (show (Cp.bad l sems boxes progs).getD (0, 0) = (0, 3) by rw [HBD.out, if_pos (.inr hm32)]; rfl)
      have q1 : (32 : Int) < (m : Int) := by omega
      have HB := HB0
      go_enter Tryd.func20, Tryd.ntmps20
      go_wp2_with fail
      rw [← E0.out]
      refine bodyPost_ret (v := .tuple #[.int .i64 0, .int .i64 3]) (by simp [results, Tryd.results20, go_sem]) rfl ?_
      rw [HC.out]
      exact ⟨rfl, HB.out⟩
    · have q1 : ¬ (32 : Int) < (m : Int) := by omega
      have HBD2 := Lib.hid (show Cp.bad l sems boxes progs = if l.findIdx (fun x => !Cp.may x sems boxes progs m) < m then some (((l.findIdx (fun x => !Cp.may x sems boxes progs m) : Nat) : Int), 1) else if (l.getD (m - 1) (0, 0)).1 ≠ 10 then some ((m : Int) - 1, 2) else none by rw [HBD.out, if_neg (by omega)])
      clear HBD
      go_enter Tryd.func20, Tryd.ntmps20
      go_wp2_with fail
      rw [← E0.out]
      clear E0
      have HBW := Lib.hid (Below.refl W0.heap.size W0)
      go_loopw [21] (fun i wr => ∃ j : Nat, j ≤ m ∧ i = .int .i64 j ∧ Hid (∀ x ∈ l.take j, (!Cp.may x sems boxes progs m) = false) ∧ Hid (Below w.heap.size w wr) ∧ Hid (Below W0.heap.size W0 wr)) (fun i _ => m - (intOf i).toNat)
      case atStart => exact ⟨0, Nat.zero_le _, rfl, Lib.hid (fun x hx => by simp at hx), HB0, HBW⟩
      case round =>
        obtain ⟨j, hj, rfl, HJ, HB, HB3⟩ := hrel
        have e0 := keepcell HB3.out s0
        have e1 := keepcell HB3.out s1
        by_cases hjm : j < m
        · obtain ⟨x, hx⟩ : ∃ x, l[j]? = some x := ⟨_, List.getElem?_eq_getElem (by rw [hm.out]; exact hjm)⟩
          obtain ⟨b, off, rfl, hb, hc0, hc1⟩ := (HV.out.below HB.out) j x hx
          obtain ⟨op, a⟩ := x
          have HX := Lib.hid hx
          have HBA := Lib.hid (HB.out.alloc HB.out.size (.cells #[.int .i64 op, .int .i64 a] 42))
          have HBA3 := Lib.hid (HB3.out.alloc HB3.out.size (.cells #[.int .i64 op, .int .i64 a] 42))
          have hlt0 : w.heap.size < wr.heap.size := by have := World.block_lt_of_cell? _ _ e0; exact this
          have e2 := keepcell (below_new wr (.cells #[.int .i64 op, .int .i64 a] 42)) e0
          have e3 := keepcell (below_new wr (.cells #[.int .i64 op, .int .i64 a] 42)) e1
          clear hx
          go_wp2_with fail
          refine (mayBe_any op a sems boxes progs m _).mono ?_
          rintro e w1 ⟨rfl, hb1⟩
          have HB4 := Lib.hid (HBA.out.trans (hb1.mono HBA.out.size))
          have HB5 := Lib.hid (HBA3.out.trans (hb1.mono HBA3.out.size))
          clear hb1 e2 e3 hc0 hc1
          cases hmy : Cp.may (op, a) sems boxes progs m
          · have HFI := Lib.hid (findIdx_hit HX.out (p := fun x => !Cp.may x sems boxes progs m) (by simp only [hmy]; rfl) HJ.out)
            have HC := Lib.hid (show (Cp.bad l sems boxes progs).getD (0, 0) = ((j : Int), 1) by rw [HBD2.out, HFI.out, if_pos hjm]; rfl)
            have HB := HB4
            clear hmy
            go_wp2_with fail
            refine bodyPost_ret (v := .tuple #[.int .i64 (j:Int), .int .i64 1]) (by simp [results, Tryd.results20, go_sem]) rfl ?_
            rw [HC.out]
            exact ⟨rfl, HB.out⟩
          · have HJ2 := Lib.hid (show ∀ x ∈ l.take (j + 1), (!Cp.may x sems boxes progs m) = false from fun y hy => by
              rw [List.take_add_one, HX.out] at hy
              rcases List.mem_append.1 hy with hy | hy
              · exact HJ.out y hy
              · simp at hy; subst hy; rw [hmy]; rfl)
            clear hmy
            go_wp2_with fail
            go_roundw
            case rel => exact ⟨j + 1, by omega, by go_num, HJ2, HB4, HB5⟩
            case measure => simp [intOf]; omega
        · obtain rfl : j = m := by omega
          have HFI := Lib.hid (show ¬ l.findIdx (fun x => !Cp.may x sems boxes progs j) < j by
            have := findIdx_no (l := l) (p := fun x => !Cp.may x sems boxes progs j) (fun y hy => HJ.out y (by rw [List.take_of_length_le (by rw [hm.out]; exact Nat.le_refl _)]; exact hy))
            rwa [hm.out] at this)
          obtain ⟨x, hx⟩ : ∃ x, l[j - 1]? = some x := ⟨_, List.getElem?_eq_getElem (by rw [hm.out]; omega)⟩
          obtain ⟨b, off, rfl, hb, hc0, hc1⟩ := (HV.out.below HB.out) (j - 1) x hx
          have HBD3 := Lib.hid (show Cp.bad l sems boxes progs = if x.1 ≠ 10 then some ((j : Int) - 1, 2) else none by
            rw [HBD2.out, if_neg HFI.out, List.getD_eq_getElem?_getD, hx]; rfl)
          obtain ⟨op, a⟩ := x
          clear hx
          by_cases h10 : op = 10
          · have HC := Lib.hid (show (Cp.bad l sems boxes progs).getD (0, 0) = (0, 0) by rw [HBD3.out, if_neg (fun h => h h10)]; rfl)
            have q2 : (op != 10) = false := by simp [h10]
            clear h10
            go_wp2_with fail
            refine bodyPost_ret (v := .tuple #[.int .i64 0, .int .i64 0]) (by simp [results, Tryd.results20, go_sem]) rfl ?_
            rw [HC.out]
            exact ⟨rfl, HB.out⟩
          · have q2 : (op != 10) = true := by simp [h10]
            have HC := Lib.hid (show (Cp.bad l sems boxes progs).getD (0, 0) = ((j : Int) - 1, 2) by rw [HBD3.out, if_pos h10]; rfl)
            clear h10
            go_wp2_with fail
            refine bodyPost_ret (v := .tuple #[.int .i64 ((j:Int)-1), .int .i64 2]) (by simp [results, Tryd.results20, go_sem]) rfl ?_
            rw [HC.out]
            exact ⟨rfl, HB.out⟩
theorem bad_err {l : List (Int × Int)} {sems boxes progs : Int} {y : Int × Int} (h : Cp.bad l sems boxes progs = some y) : y.2 ≠ 0 := by
  unfold Cp.bad at h
  split at h
  · injection h with h; subst h; decide
  · split at h
    · injection h with h; subst h; simp
    · split at h
      · injection h with h; subst h; simp
      · cases h
set_option maxHeartbeats 8000000 in
theorem check_any (A : Option Addr) (n c : Nat) (ps : List (List (Int × Int))) (sems boxes : Int) (w : World) (h : PRow w A n c ps) :
    Calls Tryd.prog 10 #[.slice A n c, .agg #[.int .i64 sems, .int .i64 boxes]] w (T3 w (Cp.check ps sems boxes)) := by
  have H := Lib.hid h
  have hcap := h.cap
  have hmost := h.most
  have HLEN := Lib.hid h.len
  clear h
  obtain ⟨W0, hW0⟩ : ∃ W, W = w.alloc (.cells #[.int .i64 sems, .int .i64 boxes] 29) := ⟨_, rfl⟩
  have s0 : W0.cell? ⟨w.heap.size, 0, none⟩ = some (.int .i64 sems) := by rw [hW0, World.cell?_alloc_at _ _ _ _ rfl]; rfl
  have s1 : W0.cell? ⟨w.heap.size, 1, none⟩ = some (.int .i64 boxes) := by rw [hW0, World.cell?_alloc_at _ _ _ _ rfl]; rfl
  have HB := Lib.hid (show Below w.heap.size w W0 by rw [hW0]; exact below_new _ _)
  have E0 := Lib.hid hW0
  clear hW0
  by_cases hs : 0 ≤ sems ∧ sems < 5
  · have t1 : (decide (0 ≤ sems) && decide (sems < 5)) = true := by rw [decide_eq_true hs.1, decide_eq_true hs.2]; rfl
    have T1 := Lib.hid t1
    clear t1
    by_cases hbx : 0 ≤ boxes ∧ boxes < 5
    · have T2 := Lib.hid (show (decide (0 ≤ boxes) && decide (boxes < 5)) = true by rw [decide_eq_true hbx.1, decide_eq_true hbx.2]; rfl)
      have HCK := Lib.hid (show Cp.check ps sems boxes = if ps.length = 0 ∨ 8 < ps.length then (0, 0, 3) else (Cp.badF ps sems boxes ps.length).getD (0, 0, 0) from if_neg (by omega))
      clear hs hbx
      go_enter Tryd.func10, Tryd.ntmps10
      go_wp2_with fail
      rw [← E0.out]
      clear E0
      refine (isBelow_any sems 5 _).mono ?_
      rintro e w1 ⟨rfl, rfl⟩
      rw [T1.out]
      go_wp2_with fail
      refine (isBelow_any boxes 5 _).mono ?_
      rintro e w2 ⟨rfl, rfl⟩
      rw [T2.out]
      by_cases hn0 : n = 0
      · have HC := Lib.hid (show Cp.check ps sems boxes = (0, 0, 3) by rw [HCK.out, if_pos (.inl (by rw [HLEN.out]; exact hn0))])
        have g0 : ((n : Int) == 0) = true := by rw [beq_iff_eq]; omega
        go_wp2_with fail
        refine bodyPost_ret (v := .tuple #[.int .i64 0, .int .i64 0, .int .i64 3]) (by simp [results, Tryd.results10, go_sem]) rfl ?_
        rw [HC.out]
        exact ⟨rfl, HB.out⟩
      · have g0 : ((n : Int) == 0) = false := by rw [beq_eq_false_iff_ne]; omega
        by_cases hn8 : 8 < n
        · have HC := Lib.hid (show Cp.check ps sems boxes = (0, 0, 3) by rw [HCK.out, if_pos (.inr (by rw [HLEN.out]; exact hn8))])
          have g1 : (8 : Int) < (n : Int) := by omega
          go_wp2_with fail
          refine bodyPost_ret (v := .tuple #[.int .i64 0, .int .i64 0, .int .i64 3]) (by simp [results, Tryd.results10, go_sem]) rfl ?_
          rw [HC.out]
          exact ⟨rfl, HB.out⟩
        · have g1 : ¬ (8 : Int) < (n : Int) := by omega
          have HC0 := Lib.hid (show Cp.check ps sems boxes = (Cp.badF ps sems boxes n).getD (0, 0, 0) by rw [HCK.out, if_neg (by rw [HLEN.out]; omega), HLEN.out])
          clear HCK
          go_wp2_with fail
          have HBW := Lib.hid (Below.refl w2.heap.size w2)
          go_loopw [31] (fun i wr => ∃ k : Nat, k ≤ n ∧ i = .int .i64 k ∧ Hid (Cp.badF ps sems boxes k = none) ∧ Hid (Below w.heap.size w wr) ∧ Hid (Below w2.heap.size w2 wr)) (fun i _ => n - (intOf i).toNat)
          case atStart => exact ⟨0, Nat.zero_le _, rfl, Lib.hid rfl, HB, HBW⟩
          case round =>
            clear HB
            obtain ⟨k, hk, rfl, HK, HB, HB3⟩ := hrel
            have e0 := keepcell HB3.out s0
            have e1 := keepcell HB3.out s1
            by_cases hlt : k < n
            · obtain ⟨l, hl⟩ : ∃ l, ps[k]? = some l := ⟨_, List.getElem?_eq_getElem (by rw [HLEN.out]; exact hlt)⟩
              obtain ⟨b, off, Ai, ci, rfl, hb, hc, hv, hcap2, hmost2⟩ := (H.out.below HB.out).row k l hl
              have HGD := Lib.hid (show ps.getD k [] = l by rw [List.getD_eq_getElem?_getD, hl]; rfl)
              obtain ⟨m, hm⟩ : ∃ m, l.length = m := ⟨_, rfl⟩
              rw [hm] at hc hcap2
              have HM := Lib.hid hm
              have HV := Lib.hid hv
              clear hl hm hv
              cases hbd : Cp.bad l sems boxes n with
              | none =>
                have HK2 := Lib.hid (show Cp.badF ps sems boxes (k + 1) = none by rw [Cp.badF_succ, HK.out, HGD.out, HLEN.out, hbd]; rfl)
                have HR := Lib.hid (show (Cp.bad l sems boxes n).getD (0, 0) = (0, 0) by rw [hbd]; rfl)
                clear hbd
                go_wp2_with fail
                refine (checkOne_any Ai m ci l n sems boxes _ HM hcap2 hmost2 HV.out).mono ?_
                rintro e w1 ⟨rfl, hb1⟩
                rw [HR.out]
                have HB4 := Lib.hid (HB.out.trans (hb1.mono HB.out.size))
                have HB5 := Lib.hid (HB3.out.trans (hb1.mono HB3.out.size))
                clear hb1
                go_wp2_with fail
                go_roundw
                case rel => exact ⟨k + 1, by omega, by go_num, HK2, HB4, HB5⟩
                case measure => simp [intOf]; omega
              | some y =>
                obtain ⟨y1, y2⟩ := y
                have hy := bad_err hbd
                have q3 : (y2 != 0) = true := by rw [bne_iff_ne]; exact hy
                have HC := Lib.hid (show Cp.check ps sems boxes = ((k : Int), y1, y2) by
                  rw [HC0.out, Cp.badF_some (k := k + 1) (r := ((k : Int), y1, y2)) (by rw [Cp.badF_succ, HK.out, HGD.out, HLEN.out, hbd]; rfl) hlt]; rfl)
                have HR := Lib.hid (show (Cp.bad l sems boxes n).getD (0, 0) = (y1, y2) by rw [hbd]; rfl)
                clear hbd hy
                go_wp2_with fail
                refine (checkOne_any Ai m ci l n sems boxes _ HM hcap2 hmost2 HV.out).mono ?_
                rintro e w1 ⟨rfl, hb1⟩
                rw [HR.out]
                have HB4 := Lib.hid (HB.out.trans (hb1.mono HB.out.size))
                clear hb1 HB
                have HB := HB4
                go_wp2_with fail
                refine bodyPost_ret (v := .tuple #[.int .i64 (k:Int), .int .i64 y1, .int .i64 y2]) (by simp [results, Tryd.results10, go_sem]) rfl ?_
                rw [HC.out]
                exact ⟨rfl, HB.out⟩
            · obtain rfl : k = n := by omega
              have HC := Lib.hid (show Cp.check ps sems boxes = (0, 0, 0) by rw [HC0.out, HK.out]; rfl)
              go_wp2_with fail
              refine bodyPost_ret (v := .tuple #[.int .i64 0, .int .i64 0, .int .i64 0]) (by simp [results, Tryd.results10, go_sem]) rfl ?_
              rw [HC.out]
              exact ⟨rfl, HB.out⟩
    · have T2 := Lib.hid (show (decide (0 ≤ boxes) && decide (boxes < 5)) = false by rw [← Bool.decide_and, decide_eq_false hbx])
      have HC := Lib.hid (show Cp.check ps sems boxes = (0, 0, 1) from if_pos (by omega))
      clear hs hbx
      go_enter Tryd.func10, Tryd.ntmps10
      go_wp2_with fail
      rw [← E0.out]
      clear E0
      refine (isBelow_any sems 5 _).mono ?_
      rintro e w1 ⟨rfl, rfl⟩
      rw [T1.out]
      go_wp2_with fail
      refine (isBelow_any boxes 5 _).mono ?_
      rintro e w2 ⟨rfl, rfl⟩
      rw [T2.out]
      go_wp2_with fail
      refine bodyPost_ret (v := .tuple #[.int .i64 0, .int .i64 0, .int .i64 1]) (by simp [results, Tryd.results10, go_sem]) rfl ?_
      rw [HC.out]
      exact ⟨rfl, HB.out⟩
  · have T1 := Lib.hid (show (decide (0 ≤ sems) && decide (sems < 5)) = false by rw [← Bool.decide_and, decide_eq_false hs])
    have HC := Lib.hid (show Cp.check ps sems boxes = (0, 0, 1) from if_pos (by omega))
    clear hs
    go_enter Tryd.func10, Tryd.ntmps10
    go_wp2_with fail
    rw [← E0.out]
    clear E0
    refine (isBelow_any sems 5 _).mono ?_
    rintro e w1 ⟨rfl, rfl⟩
    rw [T1.out]
    go_wp2_with fail
    refine bodyPost_ret (v := .tuple #[.int .i64 0, .int .i64 0, .int .i64 1]) (by simp [results, Tryd.results10, go_sem]) rfl ?_
    rw [HC.out]
    exact ⟨rfl, HB.out⟩
end Go.Proofs.YtejhlenckdkonaaDoor

