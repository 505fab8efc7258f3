/- Programs as a slice of slices that came in; the document's Check, by its contract. -/
import Derived.Test.YtejhlenckdkonaaDoorCMay
namespace Go.Proofs.YtejhlenckdkonaaDoor
open Go.RowKit
set_option linter.unusedVariables false

/-- A slice of programs. -/
structure PRow (w : World) (A : Option Addr) (n c : Nat) (ps : List (List (Int × Int))) : Prop where
  len : ps.length = n
  cap : n ≤ c
  most : c ≤ 9223372036854775807
  nil : A = none → c = 0
  row : ∀ (i : Nat) l, ps[i]? = some l → ∃ b off Ai ci, A = some ⟨b, off, none⟩ ∧ b < w.heap.size ∧ w.cell? ⟨b, off + i, none⟩ = some (.slice Ai l.length ci) ∧ VRow w w.heap.size Ai l ∧ l.length ≤ ci ∧ ci ≤ 9223372036854775807
theorem PRow.below {w w' : World} {A : Option Addr} {n c : Nat} {ps : List (List (Int × Int))} (h : PRow w A n c ps) (hb : Below w.heap.size w w') : PRow w' A n c ps := by
  refine ⟨h.len, h.cap, h.most, h.nil, fun i l hi => ?_⟩
  obtain ⟨b, off, Ai, ci, e, hlt, hc, hv, h1, h2⟩ := h.row i l hi
  exact ⟨b, off, Ai, ci, e, Nat.lt_of_lt_of_le hlt hb.size, keepcell hb hc, (hv.below hb).more hb.size, h1, h2⟩
/-- What a call leaves that tells three numbers. -/
def T3 (w : World) (r : Int × Int × Int) (e : Ending) (w' : World) : Prop := e = .returned (.tuple #[.int .i64 r.1, .int .i64 r.2.1, .int .i64 r.2.2]) ∧ Below w.heap.size w w'
theorem findIdx_hit {l : List (Int × Int)} {p : Int × Int → Bool} {j : Nat} {x : Int × Int} (hx : l[j]? = some x) (hp : p x = true) (h0 : ∀ y ∈ l.take j, p y = false) : l.findIdx p = j := by
  obtain ⟨hj, hxe⟩ := List.getElem?_eq_some_iff.1 hx
  rw [List.findIdx_eq hj]
  refine ⟨by rw [hxe]; exact hp, fun i hi => h0 _ ?_⟩
  exact List.mem_iff_getElem?.2 ⟨i, by rw [List.getElem?_take, if_pos hi, List.getElem?_eq_getElem]⟩
theorem findIdx_no {l : List (Int × Int)} {p : Int × Int → Bool} (h0 : ∀ y ∈ l, p y = false) : ¬ l.findIdx p < l.length := by
  intro h
  have := List.findIdx_getElem (w := h)
  rw [h0 _ (List.getElem_mem _)] at this
  cases this
set_option maxHeartbeats 4000000 in
set_option maxRecDepth 100000 in
theorem refCheck_any (A : Option Addr) (n c : Nat) (ps : List (List (Int × Int))) (sems boxes : Int) (w : World) (h : PRow w A n c ps) :
    Calls Tryd.prog 11 #[.slice A n c, .int .i64 sems, .int .i64 boxes] w (T3 w (Cp.check ps sems boxes)) := by
  have H := Lib.hid h
  have hcap := h.cap
  have hmost := h.most
  have HLEN := Lib.hid h.len
  have HB := Lib.hid (Below.refl w.heap.size w)
  clear h
  by_cases hs : sems < 0 ∨ 4 < sems ∨ boxes < 0 ∨ 4 < boxes
  · have HC := Lib.hid (show Cp.check ps sems boxes = (0, 0, 1) from if_pos hs)
    by_cases s0 : sems < 0
    · clear hs
      go_enter Tryd.func11, Tryd.ntmps11
      go_wp2_with fail
      refine bodyPost_ret (v := .tuple #[.int .i64 0, .int .i64 0, .int .i64 1]) (by simp [results, Tryd.results11, go_sem]) rfl ?_
      rw [HC.out]
      exact ⟨rfl, HB.out⟩
    · by_cases s1 : 4 < sems
      · clear hs
        go_enter Tryd.func11, Tryd.ntmps11
        go_wp2_with fail
        refine bodyPost_ret (v := .tuple #[.int .i64 0, .int .i64 0, .int .i64 1]) (by simp [results, Tryd.results11, go_sem]) rfl ?_
        rw [HC.out]
        exact ⟨rfl, HB.out⟩
      · by_cases s2 : boxes < 0
        · clear hs
          go_enter Tryd.func11, Tryd.ntmps11
          go_wp2_with fail
          refine bodyPost_ret (v := .tuple #[.int .i64 0, .int .i64 0, .int .i64 1]) (by simp [results, Tryd.results11, go_sem]) rfl ?_
          rw [HC.out]
          exact ⟨rfl, HB.out⟩
        · have s3 : 4 < boxes := by omega
          clear hs
          go_enter Tryd.func11, Tryd.ntmps11
          go_wp2_with fail
          refine bodyPost_ret (v := .tuple #[.int .i64 0, .int .i64 0, .int .i64 1]) (by simp [results, Tryd.results11, go_sem]) rfl ?_
          rw [HC.out]
          exact ⟨rfl, HB.out⟩
  · have s0 : ¬ sems < 0 := by omega
    have s1 : ¬ 4 < sems := by omega
    have s2 : ¬ boxes < 0 := by omega
    have s3 : ¬ 4 < boxes := by omega
    have HCK := Lib.hid (show Cp.check ps sems boxes = if ps.length = 0 ∨ 8 < ps.length then (0, 0, 3) else (Cp.badF ps sems boxes ps.length).getD (0, 0, 0) from if_neg hs)
    clear hs
    by_cases hn0 : n = 0
    · have HC := Lib.hid (show Cp.check ps sems boxes = (0, 0, 3) by rw [HCK.out, if_pos (.inl (by rw [HLEN.out]; exact hn0))])
      have g0 : ((n : Int) == 0) = true := by rw [beq_iff_eq]; omega
      go_enter Tryd.func11, Tryd.ntmps11
      go_wp2_with fail
      refine bodyPost_ret (v := .tuple #[.int .i64 0, .int .i64 0, .int .i64 3]) (by simp [results, Tryd.results11, go_sem]) rfl ?_
      rw [HC.out]
      exact ⟨rfl, HB.out⟩
    · have g0 : ((n : Int) == 0) = false := by rw [beq_eq_false_iff_ne]; omega
      by_cases hn8 : 8 < n
      · have HC := Lib.hid (show Cp.check ps sems boxes = (0, 0, 3) by rw [HCK.out, if_pos (.inr (by rw [HLEN.out]; exact hn8))])
        have g1 : (8 : Int) < (n : Int) := by omega
        go_enter Tryd.func11, Tryd.ntmps11
        go_wp2_with fail
        refine bodyPost_ret (v := .tuple #[.int .i64 0, .int .i64 0, .int .i64 3]) (by simp [results, Tryd.results11, go_sem]) rfl ?_
        rw [HC.out]
        exact ⟨rfl, HB.out⟩
      · have g1 : ¬ (8 : Int) < (n : Int) := by omega
        have HC0 := Lib.hid (show Cp.check ps sems boxes = (Cp.badF ps sems boxes n).getD (0, 0, 0) by rw [HCK.out, if_neg (by rw [HLEN.out]; omega), HLEN.out])
        clear HCK HB
        go_enter Tryd.func11, Tryd.ntmps11
        go_wp2_with fail
        go_loopw [9] (fun i wr => ∃ k : Nat, k ≤ n ∧ i = .int .i64 k ∧ Hid (Cp.badF ps sems boxes k = none) ∧ Hid (Below w.heap.size w wr)) (fun i _ => n - (intOf i).toNat)
        case atStart => exact ⟨0, Nat.zero_le _, rfl, Lib.hid rfl, Lib.hid (Below.refl _ _)⟩
        case round =>
          obtain ⟨k, hk, rfl, HK, HB⟩ := hrel
          by_cases hlt : k < n
          · obtain ⟨l, hl⟩ : ∃ l, ps[k]? = some l := ⟨_, List.getElem?_eq_getElem (by rw [HLEN.out]; exact hlt)⟩
            obtain ⟨b, off, Ai, ci, rfl, hb, hc, hv, hcap2, hmost2⟩ := (H.out.below HB.out).row k l hl
            have HGD := Lib.hid (show ps.getD k [] = l by rw [List.getD_eq_getElem?_getD, hl]; rfl)
            obtain ⟨m, hm⟩ : ∃ m, l.length = m := ⟨_, rfl⟩
            rw [hm] at hc hcap2
            have HM := Lib.hid hm
            have HV := Lib.hid hv
            have HF := Lib.hid (show ∀ y, Cp.bad l sems boxes n = some y → Cp.check ps sems boxes = ((k : Int), y.1, y.2) from fun y hy => by
              rw [HC0.out, Cp.badF_some (k := k + 1) (r := ((k : Int), y.1, y.2)) (by rw [Cp.badF_succ, HK.out, HGD.out, HLEN.out, hy]; rfl) hlt]; rfl)
            have HG := Lib.hid (show Cp.bad l sems boxes n = none → Cp.badF ps sems boxes (k + 1) = none from fun hy => by rw [Cp.badF_succ, HK.out, HGD.out, HLEN.out, hy]; rfl)
            have HBD := Lib.hid (show Cp.bad l sems boxes n = if m = 0 ∨ 32 < m then some (0, 3) else if l.findIdx (fun x => !Cp.may x sems boxes n m) < m then some (((l.findIdx (fun x => !Cp.may x sems boxes n m) : Nat) : Int), 1) else if (l.getD (m - 1) (0, 0)).1 ≠ 10 then some ((m : Int) - 1, 2) else none by unfold Cp.bad; rw [hm])
            clear hl hm hv
            by_cases hm0 : m = 0
            · have HC := Lib.hid (show Cp.check ps sems boxes = ((k : Int), 0, 3) from HF.out (0, 3) (HBD.out.trans (if_pos (.inl hm0))))
              have q0 : ((m : Int) == 0) = true := by rw [beq_iff_eq]; omega
              go_wp2_with fail
              refine bodyPost_ret (v := .tuple #[.int .i64 (k:Int), .int .i64 0, .int .i64 3]) (by simp [results, Tryd.results11, go_sem]) rfl ?_
              rw [HC.out]
              exact ⟨rfl, HB.out⟩
            · have q0 : ((m : Int) == 0) = false := by rw [beq_eq_false_iff_ne]; omega
              by_cases hm32 : 32 < m
              · have HC := Lib.hid (show Cp.check ps sems boxes = ((k : Int), 0, 3) from HF.out (0, 3) (HBD.out.trans (if_pos (.inr hm32))))
                have q1 : (32 : Int) < (m : Int) := by omega
                go_wp2_with fail
                refine bodyPost_ret (v := .tuple #[.int .i64 (k:Int), .int .i64 0, .int .i64 3]) (by simp [results, Tryd.results11, go_sem]) rfl ?_
                rw [HC.out]
                exact ⟨rfl, HB.out⟩
              · have q1 : ¬ (32 : Int) < (m : Int) := by omega
                have HBD2 := Lib.hid (show Cp.bad l sems boxes n = if l.findIdx (fun x => !Cp.may x sems boxes n m) < m then some (((l.findIdx (fun x => !Cp.may x sems boxes n m) : Nat) : Int), 1) else if (l.getD (m - 1) (0, 0)).1 ≠ 10 then some ((m : Int) - 1, 2) else none from HBD.out.trans (if_neg (by omega)))
                clear HBD
                obtain ⟨x0, hx0⟩ : ∃ x, l[0]? = some x := ⟨_, List.getElem?_eq_getElem (by rw [HM.out]; omega)⟩
                obtain ⟨b2, off2, rfl, hb2, _, _⟩ := HV.out 0 x0 hx0
                clear hx0
                obtain ⟨wo, hwo⟩ : ∃ wo : World, wo = wr := ⟨_, rfl⟩
                have hcw : wr.cell? ⟨b, off + k, none⟩ = some (.slice (some ⟨b2, off2, none⟩) m ci) := hc
                go_wp2_with fail
                subst hwo
                go_loopw [11] (fun i wr => ∃ j : Nat, j ≤ m ∧ i = .int .i64 j ∧ Hid (∀ x ∈ l.take j, (!Cp.may x sems boxes n m) = false) ∧ Hid (Below w.heap.size w wr) ∧ Hid (Below wo.heap.size wo wr)) (fun i _ => m - (intOf i).toNat)
                case atStart => exact ⟨0, Nat.zero_le _, rfl, Lib.hid (fun x hx => by simp at hx), HB, Lib.hid (Below.refl _ _)⟩
                case round =>
                  obtain ⟨j, hj, rfl, HJ, HB2, HB3⟩ := hrel
                  have hcr := keepcell HB3.out hc
                  by_cases hjm : j < m
                  · obtain ⟨x, hx⟩ : ∃ x, l[j]? = some x := ⟨_, List.getElem?_eq_getElem (by rw [HM.out]; exact hjm)⟩
                    obtain ⟨b3, off3, e3, hb3, hx1, hx2⟩ := HV.out j x hx
                    injection e3 with e3
                    injection e3 with e31 e32
                    subst e31 e32
                    have hy1 := keepcell HB3.out hx1
                    have hy2 := keepcell HB3.out hx2
                    obtain ⟨op, a⟩ := x
                    have HX := Lib.hid hx
                    clear hx hx1 hx2
                    go_wp2_with fail
                    refine (refMay_any op a sems boxes n m wr).mono ?_
                    rintro e w1 ⟨rfl, hb1⟩
                    have HB4 := Lib.hid (HB2.out.trans (hb1.mono HB2.out.size))
                    have HB5 := Lib.hid (HB3.out.trans (hb1.mono HB3.out.size))
                    clear hb1
                    cases hmy : Cp.may (op, a) sems boxes n m
                    · have HFI := Lib.hid (findIdx_hit HX.out (p := fun x => !Cp.may x sems boxes n m) (by simp only [hmy]; rfl) HJ.out)
                      have HC := Lib.hid (show Cp.check ps sems boxes = ((k : Int), (j : Int), 1) from HF.out ((j : Int), 1) (HBD2.out.trans (by rw [HFI.out, if_pos hjm])))
                      have HB := HB4
                      clear hmy
                      go_wp2_with fail
                      refine bodyPost_ret (v := .tuple #[.int .i64 (k:Int), .int .i64 (j:Int), .int .i64 1]) (by simp [results, Tryd.results11, go_sem]) rfl ?_
                      rw [HC.out]
                      exact ⟨rfl, HB.out⟩
                    · have HJ2 := Lib.hid (show ∀ x ∈ l.take (j + 1), (!Cp.may x sems boxes n m) = false from fun y hy => by
                        rw [List.take_add_one, HX.out] at hy
                        rcases List.mem_append.1 hy with hy | hy
                        · exact HJ.out y hy
                        · simp at hy; subst hy; rw [hmy]; rfl)
                      clear hmy
                      go_wp2_with fail
                      go_roundw
                      case rel => exact ⟨j + 1, by omega, by go_num, HJ2, HB4, HB5⟩
                      case measure => simp [intOf]; omega
                  · obtain rfl : j = m := by omega
                    have HB := HB2
                    have HFI := Lib.hid (show ¬ l.findIdx (fun x => !Cp.may x sems boxes n j) < j by
                      have := findIdx_no (l := l) (p := fun x => !Cp.may x sems boxes n j) (fun y hy => HJ.out y (by rw [List.take_of_length_le (by rw [HM.out]; exact Nat.le_refl _)]; exact hy))
                      rwa [HM.out] at this)
                    obtain ⟨x, hx⟩ : ∃ x, l[j - 1]? = some x := ⟨_, List.getElem?_eq_getElem (by rw [HM.out]; omega)⟩
                    obtain ⟨b3, off3, e3, hb3, hx1, hx2⟩ := HV.out (j - 1) x hx
                    injection e3 with e3
                    injection e3 with e31 e32
                    subst e31 e32
                    have hy1 := keepcell HB3.out hx1
                    have HBD3 := Lib.hid (show Cp.bad l sems boxes n = if x.1 ≠ 10 then some ((j : Int) - 1, 2) else none by
                      rw [HBD2.out, if_neg HFI.out, List.getD_eq_getElem?_getD, hx]; rfl)
                    obtain ⟨op, a⟩ := x
                    clear hx hx1 hx2
                    by_cases h10 : op = 10
                    · have HK2 := Lib.hid (HG.out (HBD3.out.trans (if_neg (fun h => h h10))))
                      have q2 : (op != 10) = false := by simp [h10]
                      clear h10
                      go_wp2_with fail
                      go_roundw
                      case rel => exact ⟨k + 1, by omega, by go_num, HK2, HB⟩
                      case measure => simp [intOf]; omega
                    · have q2 : (op != 10) = true := by simp [h10]
                      have HC := Lib.hid (show Cp.check ps sems boxes = ((k : Int), (j : Int) - 1, 2) from HF.out ((j : Int) - 1, 2) (HBD3.out.trans (if_pos h10)))
                      clear h10
                      go_wp2_with fail
                      refine bodyPost_ret (v := .tuple #[.int .i64 (k:Int), .int .i64 ((j:Int)-1), .int .i64 2]) (by simp [results, Tryd.results11, go_sem]) rfl ?_
                      rw [HC.out]
                      exact ⟨rfl, HB.out⟩
          · obtain rfl : k = n := by omega
            have HC := Lib.hid (show Cp.check ps sems boxes = (0, 0, 0) by rw [HC0.out, HK.out]; rfl)
            go_wp2_with fail
            refine bodyPost_ret (v := .tuple #[.int .i64 0, .int .i64 0, .int .i64 0]) (by simp [results, Tryd.results11, go_sem]) rfl ?_
            rw [HC.out]
            exact ⟨rfl, HB.out⟩
end Go.Proofs.YtejhlenckdkonaaDoor

