/- dist.Table, by its contract: of each processor, in turn, how far it is from each, in new memory. -/
import Derived.Test.YtkjcihdejileoaaDFar
import Derived.Laws.OwnMore
namespace Go.Proofs.Ytkjcihdejileoaa
open Go.RowKit
set_option linter.unusedVariables false

theorem procsN_few (vs : List (Int × Int)) : Dp.procsN vs ≤ 64 := by
  rw [← procsIf_length]
  unfold procsIf
  split
  · rename_i h
    have := ((Tp.tree_iff vs).1 h).few
    have := those_len (levelP 3) vs
    exact Nat.le_trans this (by omega)
  · exact Nat.zero_le _
/-- How far processor k is from each. -/
def rowOf (vs : List (Int × Int)) (k : Nat) : List Int := (List.range (Dp.procsN vs)).map fun (b : Nat) => Dp.far vs k b
theorem rowOf_length (vs : List (Int × Int)) (k : Nat) : (rowOf vs k).length = Dp.procsN vs := by unfold rowOf; simp
theorem rowOf_at {vs : List (Int × Int)} {k j : Nat} (h : j < Dp.procsN vs) : (rowOf vs k)[j]? = some (Dp.far vs k j) := by unfold rowOf; simp [h]
theorem table_at {vs : List (Int × Int)} {k : Nat} (h : k < Dp.procsN vs) : (table vs)[k]? = some (rowOf vs k) := by unfold table rowOf; simp [h]
theorem table_length (vs : List (Int × Int)) : (table vs).length = Dp.procsN vs := by unfold table; simp
theorem own_base {w : World} {b1 b2 n size : Nat} {e : TypeId} {v : Value} {xs : List Value} (h : w.ownsRow b1 e size v n xs) (hb : b2 ≤ b1) : w.ownsRow b2 e size v n xs := by
  refine ⟨h.1, ?_⟩
  rcases h.2 with h0 | ⟨g, cap, cur, e1, hg, h3⟩
  · exact .inl h0
  · exact .inr ⟨g, cap, cur, e1, Nat.le_trans hb hg, h3⟩
/-- A row that is filled up to its j-th place. -/
def part (vs : List (Int × Int)) (k j : Nat) : List Int := (rowOf vs k).take j ++ List.replicate (Dp.procsN vs - j) 0
theorem part_zero (vs : List (Int × Int)) (k : Nat) : part vs k 0 = List.replicate (Dp.procsN vs) 0 := by unfold part; simp
theorem part_all (vs : List (Int × Int)) (k : Nat) : part vs k (Dp.procsN vs) = rowOf vs k := by
  unfold part
  rw [List.take_of_length_le (by rw [rowOf_length]; exact Nat.le_refl _), Nat.sub_self]
  simp
theorem part_length {vs : List (Int × Int)} {k j : Nat} (h : j ≤ Dp.procsN vs) : (part vs k j).length = Dp.procsN vs := by
  unfold part
  rw [List.length_append, List.length_take, List.length_replicate, rowOf_length]; omega
theorem part_set {vs : List (Int × Int)} {k j : Nat} (h : j < Dp.procsN vs) : (part vs k j).set j (Dp.far vs k j) = part vs k (j + 1) := by
  apply List.ext_getElem?
  intro i
  have hl : ((rowOf vs k).take j).length = j := by rw [List.length_take, rowOf_length]; omega
  have hl' : ((rowOf vs k).take (j + 1)).length = j + 1 := by rw [List.length_take, rowOf_length]; omega
  by_cases e : j = i
  · subst e
    rw [List.getElem?_set_self (by rw [part_length (by omega)]; exact h)]
    unfold part
    rw [List.getElem?_append_left (by omega), List.getElem?_take, if_pos (by omega), rowOf_at h]
  · rw [List.getElem?_set_ne e]
    unfold part
    by_cases e2 : i < j
    · rw [List.getElem?_append_left (by omega), List.getElem?_append_left (by omega), List.getElem?_take, List.getElem?_take, if_pos (by omega), if_pos (by omega)]
    · rw [List.getElem?_append_right (by omega), List.getElem?_append_right (by omega), hl, hl', List.getElem?_replicate, List.getElem?_replicate]
      by_cases e3 : i < Dp.procsN vs
      · rw [if_pos (by omega), if_pos (by omega)]
      · rw [if_neg (by omega), if_neg (by omega)]
/-- The slices that stand in a list of lists, each its row, of the call's own. -/
def RowsIn (w : World) (base : Nat) (rows : List (List Int)) (xs : List Value) : Prop :=
  xs.length = rows.length ∧ ∀ (i : Nat) (r : List Int), rows[i]? = some r → ∃ v : Value, xs[i]? = some v ∧ w.ownsRow base 3 1 v r.length (r.map (Value.int .i64))
theorem RowsIn.nil (w : World) (base : Nat) : RowsIn w base [] [] := ⟨rfl, fun i r h => by simp at h⟩
theorem RowsIn.below {w w' : World} {base : Nat} {rows : List (List Int)} {xs : List Value} (h : RowsIn w base rows xs) (hb : Below w.heap.size w w') : RowsIn w' base rows xs :=
  ⟨h.1, fun i r hi => by obtain ⟨v, h1, h2⟩ := h.2 i r hi; exact ⟨v, h1, own_below h2 hb⟩⟩
theorem own_types {w : World} {b1 b2 s1 s2 n1 n2 : Nat} {e1 e2 : TypeId} {v1 v2 : Value} {x1 x2 : List Value} (h1 : w.ownsRow b1 e1 s1 v1 n1 x1) (h2 : w.ownsRow b2 e2 s2 v2 n2 x2) (hne : e1 ≠ e2) : v1.ownBlock = none ∨ v1.ownBlock ≠ v2.ownBlock := by
  rcases h1.2 with ⟨rfl, _⟩ | ⟨g1, c1, cur1, rfl, _, k1, _⟩
  · exact .inl rfl
  · rcases h2.2 with ⟨rfl, _⟩ | ⟨g2, c2, cur2, rfl, _, k2, _⟩
    · exact .inr (by simp [Value.ownBlock])
    · refine .inr ?_
      intro h
      have e : g1 = g2 := by simpa [Value.ownBlock] using h
      subst e
      rw [k1] at k2
      injection k2 with k2
      injection k2 with _ k2
      exact hne k2
theorem RowsIn.grown {w w' : World} {base b2 n2 : Nat} {rows : List (List Int)} {xs x2 : List Value} {v2 : Value} (h : RowsIn w base rows xs) (ho : w.ownsRow b2 27 1 v2 n2 x2) (hg : w.grownBy w' v2.ownBlock) : RowsIn w' base rows xs :=
  ⟨h.1, fun i r hi => by obtain ⟨v, h1, h2⟩ := h.2 i r hi; exact ⟨v, h1, h2.kept hg (own_types h2 ho (by decide))⟩⟩
theorem RowsIn.snoc {w : World} {base : Nat} {rows : List (List Int)} {xs : List Value} {v : Value} {r : List Int} (h : RowsIn w base rows xs) (hr : w.ownsRow base 3 1 v r.length (r.map (Value.int .i64))) : RowsIn w base (rows ++ [r]) (xs ++ [v]) := by
  refine ⟨by simp [h.1], fun i s hi => ?_⟩
  by_cases e : i < rows.length
  · rw [List.getElem?_append_left e] at hi
    obtain ⟨v', h1, h2⟩ := h.2 i s hi
    exact ⟨v', by rw [List.getElem?_append_left (by rw [h.1]; exact e)]; exact h1, h2⟩
  · have hlt := (List.getElem?_eq_some_iff.1 hi).1
    simp at hlt
    have : i = rows.length := by omega
    subst this
    simp at hi
    subst hi
    exact ⟨v, by rw [List.getElem?_append_right (by rw [h.1]; exact Nat.le_refl _), h.1]; simp, hr⟩
theorem info_ints : (Try.prog.info? 27).map (fun i => (i.zero, i.size, i.bytes)) = some (some (Value.slice none 0 0), 1, 24) := by kernel_rfl
theorem slice_cell (w : World) (u : Value) (e : TypeId) : ∀ j x, [u][j]? = some x → (w.alloc (.cells #[u] e)).cell? ((⟨w.heap.size, 0, none⟩ : Addr).add j) = some x := one_cell w u e
theorem rrow_of {w : World} {base base2 : Nat} {A : Option Addr} {n c : Nat} {e : TypeId} {xs : List Value} {rows : List (List Int)} (h : w.ownsRow base e 1 (.slice A n c) n xs) (hr : RowsIn w base2 rows xs) : RRow w w.heap.size A rows := by
  intro i r hi
  obtain ⟨v, h1, h2⟩ := hr.2 i r hi
  obtain ⟨A', c', rfl⟩ := own_form h2
  have hl := (List.getElem?_eq_some_iff.1 h1).1
  have hn := h.1
  rcases h.2 with ⟨_, h0⟩ | ⟨g, cap, cur, hv, _, hh, _⟩
  · omega
  · injection hv with e1 e2 e3
    subst e1
    refine ⟨g, 0, rfl, (Array.getElem?_eq_some_iff.1 hh).1, A', c', ?_, IRow.of_own h2⟩
    have := h.cells (g := g) rfl i _ h1
    rw [show ((⟨g, 0, none⟩ : Addr).add i) = ⟨g, 0 + i, none⟩ from by unfold Addr.add; split <;> simp_all] at this
    exact this
theorem madeRows_of {w w1 w' : World} {v : Value} {rows : List (List Int)} {xs : List Value} {ty : TypeId} {base2 : Nat} (hb : Below w.heap.size w w1) (hown : w'.ownsRow w1.heap.size ty 1 v rows.length xs) (hr : RowsIn w' base2 rows xs) (hb1 : Below w1.heap.size w1 w') : MadeRows w rows (.returned v) w' := by
  obtain ⟨A, c, rfl⟩ := own_form hown
  exact ⟨A, c, rfl, rrow_of hown hr, hb.trans (hb1.mono hb.size)⟩
theorem zeros_map (m : Nat) : (madeCells #[Value.int .i64 0] m).toList = (List.replicate m (0 : Int)).map (Value.int .i64) := by
  rw [toList_madeCells_one, List.map_replicate]

set_option maxHeartbeats 4000000 in
set_option maxRecDepth 100000 in
theorem table_any (A : Option Addr) (n c : Nat) (vs : List (Int × Int)) (w : World)
    (hn : Hid (vs.length = n)) (hl : n ≤ 9223372036854775807) (hf : Hid (Fit vs)) (hv : VRow w w.heap.size A vs) :
    Calls Try.prog 18 #[.slice A n c] w (MadeRows w (table vs)) := by
  obtain ⟨i0, hi, hz0, hz1, hz2⟩ := info_parts info_int
  obtain ⟨i1, hi1, hy0, hy1, hy2⟩ := info_parts info_ints
  go_enter Try.func18, Try.ntmps18
  go_wp2_with fail
  refine (procsOf_any A n c vs _ hn hl hf hv).mono ?_
  rintro e w1 ⟨A1, c1, rfl, hI1, hb1⟩
  rw [procsIf_length]
  have h64 := procsN_few vs
  have hv1 := (hv.below hb1).more hb1.size
  generalize hpn : Dp.procsN vs = m at h64 ⊢
  have HPN := Lib.hid hpn
  clear hpn
  go_wp2_with fail
  go_loopw [4, 14] (fun u i wr => ∃ k : Nat, k ≤ m ∧ i = .int .i64 k ∧ Below w1.heap.size w1 wr ∧ Hid (∃ xs, wr.ownsRow w1.heap.size 27 1 u k xs ∧ RowsIn wr w1.heap.size ((table vs).take k) xs)) (fun _ i _ => m - (intOf i).toNat)
  case atStart => exact ⟨0, by omega, rfl, Below.refl _ _, Lib.hid ⟨[], World.ownsRow_nil _ _ _ _, RowsIn.nil _ _⟩⟩
  case round =>
    obtain ⟨k, hk, rfl, hbe, HX⟩ := hrel
    by_cases hkm : k < m
    · obtain ⟨wo, rfl⟩ : ∃ wo : World, wo = wr := ⟨_, rfl⟩
      have pk := proc_of (vs := vs) (i := k) (by rw [HPN.out]; exact hkm)
      obtain ⟨pb, po, hA1, hpb, hck⟩ := hI1 _ _ pk
      subst hA1
      have hIr := Lib.hid hI1
      generalize hx : Dp.proc vs k = x at hck
      have HPX := Lib.hid hx
      have hckr : wo.cell? ⟨pb, po + k, none⟩ = some (.int .i64 x) := (hbe.cell (p := ⟨pb, po + k, none⟩) hpb).trans hck
      clear pk hck hI1 hx
      have hmb : i0.bytes * m ≤ 281474976710656 := by rw [hz2]; omega
      go_wp2_with (at_make; refine wpList_make_full _ rfl _ _ 27 rfl wo.heap.size 3 i0 (.int .i64 0) 1 Try.underlying27 hi hz0 hz1 _ _ _ _ m rfl rfl rfl rfl hmb (by unfold maxLen; omega) (Nat.le_refl _) ?_)
      intro w2 hown2 hg2
      rw [zeros_map] at hown2
      have hb2 : Below wo.heap.size wo w2 := (Below.refl _ _).grown hg2 (Nat.le_refl _) (fun j hj => by cases hj)
      generalize hg : wo.heap.size = g at hown2 hb2 ⊢
      have HG := Lib.hid hg
      clear hg hg2
      go_wp2_with fail
      go_loopw [23] (fun q wr => ∃ j : Nat, j ≤ m ∧ q = .int .i64 j ∧ Below g wo wr ∧ wr.ownsRow g 3 1 (.slice (some ⟨g, 0, none⟩) m m) m ((part vs k j).map (Value.int .i64))) (fun q _ => m - (intOf q).toNat)
      case atStart => exact ⟨0, by omega, rfl, hb2, by rw [part_zero, HPN.out]; exact hown2⟩
      case round =>
        obtain ⟨j, hj, rfl, hbq, hown⟩ := hrel
        have hbeq : Below w1.heap.size w1 wr := hbe.trans (hbq.mono (by rw [← HG.out]; exact hbe.size))
        by_cases hjm : j < m
        · have pj := proc_of (vs := vs) (i := j) (by rw [HPN.out]; exact hjm)
          obtain ⟨pb', po', hA1, hpb', hcj⟩ := hIr.out _ _ pj
          injection hA1 with hA1
          injection hA1 with e1 e2
          subst e1 e2
          have HF : Hid (Dp.far vs k j = Dp.farV vs x (Dp.proc vs j)) := Lib.hid (by
            rw [← HPX.out]; exact isP_far (isP_iff.2 (by rw [HPN.out]; omega)) (isP_iff.2 (by rw [HPN.out]; omega)))
          generalize Dp.proc vs j = y at hcj HF
          have hcq : wr.cell? ⟨pb, po + j, none⟩ = some (.int .i64 y) := (hbeq.cell (p := ⟨pb, po + j, none⟩) hpb').trans hcj
          have hvq := hv1.below hbeq
          clear pj hcj
          go_wp2_with fail
          refine (apart_quiet A n c vs x y _ _ hn hl hvq).mono ?_
          rintro e w4 ⟨rfl, q4, rfl⟩
          have hown4 : (wr.drewN q4).ownsRow g 3 1 (.slice (some ⟨g, 0, none⟩) m m) m ((part vs k j).map (Value.int .i64)) := own_below hown (below_drewN (Below.refl _ _) q4)
          have hst := hown4.cellAt j (by omega)
          have hfz := hown4.frozenAt j
          have hS := hown4.stored j (.int .i64 (Dp.farV vs x y))
          rw [← HF.out, ← List.map_set, part_set (by rw [HPN.out]; exact hjm), HF.out] at hS
          have HS := Lib.hid hS
          obtain ⟨z, hz⟩ : ∃ z : Int, ((part vs k j).map (Value.int .i64))[j]? = some (.int .i64 z) := by
            rw [List.getElem?_map]
            exact ⟨_, by rw [List.getElem?_eq_getElem (by rw [part_length (by rw [HPN.out]; omega), HPN.out]; exact hjm)]; rfl⟩
          rw [hz] at hst
          clear hz hS hown hown4
          go_wp2_with fail
          go_roundw
          case rel =>
            refine ⟨j + 1, by omega, by go_num, ?_, HS.out.1⟩
            exact (below_drewN hbq q4).setCell (by simp) _
          case measure => simp [intOf]; omega
        · have hjm' : j = m := by omega
          subst hjm'
          have HROW : Hid (wr.ownsRow w1.heap.size 3 1 (.slice (some ⟨g, 0, none⟩) j j) (rowOf vs k).length ((rowOf vs k).map (Value.int .i64))) := Lib.hid (by
            have h := own_base (b2 := w1.heap.size) hown (by rw [← HG.out]; exact hbe.size)
            rw [rowOf_length, HPN.out, ← part_all, HPN.out]
            exact h)
          obtain ⟨xs, ho, hr⟩ := HX.out
          have hbq' : Below wo.heap.size wo wr := by rw [HG.out]; exact hbq
          have hoq := own_below ho hbq'
          have hrq := hr.below hbq'
          have HRQ := Lib.hid hrq
          clear ho hr hrq
          go_wp2_with (at_builtin; refine wpList_append_own _ rfl _ _ 30 rfl w1.heap.size 27 i1 (.slice none 0 0) 1 24 Try.underlying30 hi1 hy0 hy1 hy2 rfl (by decide) _ _ _ rfl (hoq.alloc _) ⟨wr.heap.size, 0, none⟩ 1 1 [.slice (some ⟨g, 0, none⟩) j j] rfl rfl ?c1 ?c2 ?c3 ?c4 ?c5 ?_)
          case c1 => exact slice_cell _ _ _
          case c2 => intro u hu; simp at hu; subst hu; rfl
          case c3 => unfold maxLen; omega
          case c4 => omega
          case c5 => have := hbeq.size; simp; omega
          intro v' w5 hown5 hg5 _
          have hbn : Below wr.heap.size wr (wr.alloc (.cells #[.slice (some ⟨g, 0, none⟩) j j] 27)) := (Below.refl _ _).alloc (Nat.le_refl _) _
          have hR := ((HRQ.out.below hbn).grown (hoq.alloc _) hg5).snoc ((own_below HROW.out hbn).kept hg5 (own_types (own_below HROW.out hbn) (hoq.alloc _) (by decide)))
          have HN := Lib.hid (show ∃ ys, w5.ownsRow w1.heap.size 27 1 v' (k + 1) ys ∧ RowsIn w5 w1.heap.size ((table vs).take (k + 1)) ys from
            ⟨_, hown5, by rw [List.take_add_one, table_at (by rw [HPN.out]; exact hkm)]; exact hR⟩)
          have hbe5 : Below w1.heap.size w1 w5 := (hbeq.alloc hbeq.size _).grown hg5 (by have := hbeq.size; simp; omega) (fun j hj => (hoq.lt j hj).1)
          clear hR hown5
          go_wp2_with fail
          go_roundw
          case rel => exact ⟨k + 1, by omega, by go_num, hbe5, HN⟩
          case measure => simp [intOf]; omega
    · have hkn : k = m := by omega
      subst hkn
      obtain ⟨xs, ho, hr⟩ := HX.out
      have M := Lib.hid (madeRows_of (rows := table vs) hb1 (by rw [table_length, HPN.out]; exact ho) (by rw [List.take_of_length_le (by rw [table_length, HPN.out]; exact Nat.le_refl _)] at hr; exact hr) hbe)
      clear ho hr
      go_wp2_with fail
      go_ret
      exact M.out
end Go.Proofs.Ytkjcihdejileoaa

