/- The document's Few, Same, by their contracts. -/
import Derived.Test.YtcoccegmkcdeiaaDoorJRefMay
import Derived.Test.YtcoccegmkcdeiaaDoorM1
namespace Go.Proofs.YtcoccegmkcdeiaaDoor
open Go.RowKit
set_option linter.unusedVariables false

structure FewP (r : Jp.Rn) : Prop where
  tree : r.tree.length ≤ 64
  rings : r.rings.length ≤ 40
  rows : r.rows.length ≤ 40
  ring : ∀ g ∈ r.rings, g.2.length ≤ 40
  row : ∀ l ∈ r.rows, l.length ≤ 40
  fit : InA r
theorem FewP.low {r : Jp.Rn} (h : FewP r) : Low r := ⟨by have := h.rings; omega, by have := h.rows; omega, fun g hg => by have := h.ring g hg; omega, fun l hl => by have := h.row l hl; omega, h.tree, h.fit⟩
set_option maxRecDepth 100000 in
set_option maxHeartbeats 1000000 in
theorem few_any {F : Nat → Prop} (d : Ad) (r : Jp.Rn) (T : Bool) (w : World) (HT : Hid (T = true ↔ FewP r)) (h : RM F w d r) (hfit : InA r) :
    Calls Tryd.prog 6 #[jv d r] w fun e w' => e = .returned (.bool T) ∧ Below w.heap.size w w' := by
  obtain ⟨A0, nt, ct, R, nr, cr, S, ns, cs⟩ := d
  have H := Lib.hid h
  obtain ⟨hr1, hr2, hr3⟩ := h.nr
  obtain ⟨hs1, hs2, hs3⟩ := h.ns
  have htl := h.tlen
  have htm := h.tmax
  simp only at hr1 hr2 hr3 hs1 hs2 hs3 htl htm
  clear h
  obtain ⟨V, hV, hX, hB⟩ := B5.start w (.slice A0 nt ct) (.int .i64 r.size) (.slice R nr cr) (.slice S ns cs) (.int .u64 (r.on : Nat)) 27
  have E := Lib.hid hV
  have X0 := Lib.hid hX
  have B0 := Lib.hid hB
  have d0 := hX.c0
  have d2 := hX.c2
  have d3 := hX.c3
  clear hV hX hB
  unfold jv
  go_enter Tryd.func6, Tryd.ntmps6
  by_cases t1 : 64 < nt
  · obtain rfl := t_no HT (fun hM => by have := hM.tree; omega)
    have t1' : (64 : Int) < (nt : Int) := by omega
    go_wp2_with (rw [← E.out])
    go_ret
    exact ⟨rfl, B0.out⟩
  have t1' : ¬ (64 : Int) < (nt : Int) := by omega
  by_cases t2 : 40 < nr
  · obtain rfl := t_no HT (fun hM => by have := hM.rings; omega)
    have t2' : (40 : Int) < (nr : Int) := by omega
    go_wp2_with (rw [← E.out])
    go_ret
    exact ⟨rfl, B0.out⟩
  have t2' : ¬ (40 : Int) < (nr : Int) := by omega
  by_cases t3 : 40 < ns
  · obtain rfl := t_no HT (fun hM => by have := hM.rows; omega)
    have t3' : (40 : Int) < (ns : Int) := by omega
    go_wp2_with (rw [← E.out])
    go_ret
    exact ⟨rfl, B0.out⟩
  have t3' : ¬ (40 : Int) < (ns : Int) := by omega
  go_wp2_with (rw [← E.out])
  clear E
  go_loopw [3] (fun i wr => ∃ k : Nat, k ≤ nr ∧ i = .int .i64 k ∧ Hid (∀ j, j < k → ∀ y, r.rings[j]? = some y → y.2.length ≤ 40) ∧ Hid (wr = V)) (fun i _ => nr - (intOf i).toNat)
  case atStart => exact ⟨0, Nat.zero_le _, rfl, Lib.hid (fun j hj => absurd hj (by omega)), Lib.hid rfl⟩
  case round =>
    obtain ⟨k, hk, rfl, HG, HW⟩ := hrel
    obtain rfl := HW.out
    by_cases hlt : k < nr
    · obtain ⟨x, hx⟩ : ∃ x, r.rings[k]? = some x := ⟨_, List.getElem?_eq_getElem (by omega)⟩
      obtain ⟨b1, o1, A, n, c, hR, _, c0, c1, hrow⟩ := (H.out.below B0.out).ringAt hx
      simp only at hR
      subst hR
      have HX := Lib.hid hx
      have HN := Lib.hid hrow.len
      have i0 : (0 : Int) ≤ (k : Int) := by omega
      have i1 : (k : Int) < (nr : Int) := by omega
      clear hx hrow
      by_cases l1 : 40 < n
      · obtain rfl := t_no HT (fun hM => by have := hM.ring x (List.mem_of_getElem? HX.out); have := HN.out; omega)
        have l1' : (40 : Int) < (n : Int) := by omega
        clear HT
        go_wp2_with fail
        go_ret
        exact ⟨rfl, (B0.out)⟩
      · have l1' : ¬ (40 : Int) < (n : Int) := by omega
        have HG2 := Lib.hid (show ∀ j, j < k + 1 → ∀ y, r.rings[j]? = some y → y.2.length ≤ 40 from fun j hj y hy => by
          by_cases e : j = k
          · subst e
            rw [HX.out] at hy
            injection hy with hy
            subst hy
            have := HN.out; omega
          · exact HG.out j (by omega) y hy)
        go_wp2_with fail
        go_roundw
        case rel => exact ⟨k + 1, by omega, by go_num, HG2, Lib.hid trivial⟩
        case measure => simp [intOf]; omega
    · obtain rfl : k = nr := by omega
      have HGA := Lib.hid (show ∀ y ∈ r.rings, y.2.length ≤ 40 from fun y hy => by
        obtain ⟨j, hj⟩ := List.mem_iff_getElem?.1 hy
        exact HG.out j (by rw [← hr1]; exact (List.getElem?_eq_some_iff.1 hj).1) y hj)
      clear HG HW
      go_wp2_with fail
      go_loopw [4] (fun i wr' => ∃ k : Nat, k ≤ ns ∧ i = .int .i64 k ∧ Hid (∀ j, j < k → ∀ y, r.rows[j]? = some y → y.length ≤ 40) ∧ Hid (wr' = wr)) (fun i _ => ns - (intOf i).toNat)
      case atStart => exact ⟨0, Nat.zero_le _, rfl, Lib.hid (fun j hj => absurd hj (by omega)), Lib.hid rfl⟩
      case round =>
        obtain ⟨j, hj, rfl, HG, HW⟩ := hrel
        obtain rfl := HW.out
        by_cases hlj : j < ns
        · obtain ⟨x, hx⟩ : ∃ x, r.rows[j]? = some x := ⟨_, List.getElem?_eq_getElem (by omega)⟩
          obtain ⟨b1, o1, A, n, c, hR, _, c0, hrow⟩ := (H.out.below B0.out).rowAt hx
          simp only at hR
          subst hR
          have HX := Lib.hid hx
          have HN := Lib.hid hrow.len
          have i0 : (0 : Int) ≤ (j : Int) := by omega
          have i1 : (j : Int) < (ns : Int) := by omega
          clear hx hrow
          by_cases l1 : 40 < n
          · obtain rfl := t_no HT (fun hM => by have := hM.row x (List.mem_of_getElem? HX.out); have := HN.out; omega)
            have l1' : (40 : Int) < (n : Int) := by omega
            clear HT
            go_wp2_with fail
            go_ret
            exact ⟨rfl, (B0.out)⟩
          · have l1' : ¬ (40 : Int) < (n : Int) := by omega
            have HG2 := Lib.hid (show ∀ t, t < j + 1 → ∀ y, r.rows[t]? = some y → y.length ≤ 40 from fun t ht y hy => by
              by_cases e : t = j
              · subst e
                rw [HX.out] at hy
                injection hy with hy
                subst hy
                have := HN.out; omega
              · exact HG.out t (by omega) y hy)
            go_wp2_with fail
            go_roundw
            case rel => exact ⟨j + 1, by omega, by go_num, HG2, Lib.hid trivial⟩
            case measure => simp [intOf]; omega
        · obtain rfl : j = ns := by omega
          obtain rfl : T = true := HT.out.2 ⟨by omega, by omega, by omega, HGA.out, fun y hy => by
            obtain ⟨t, ht⟩ := List.mem_iff_getElem?.1 hy
            exact HG.out t (by rw [← hs1]; exact (List.getElem?_eq_some_iff.1 ht).1) y ht, hfit⟩
          clear HT
          go_wp2_with fail
          go_ret
          exact ⟨rfl, (B0.out)⟩
end Go.Proofs.YtcoccegmkcdeiaaDoor

