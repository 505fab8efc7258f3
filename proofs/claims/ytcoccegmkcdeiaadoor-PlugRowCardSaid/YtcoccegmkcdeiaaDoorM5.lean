/- Contracts and plain mathematics, put together by program (wip/merge.py) out of: DApart DFar DTable Vx TParse. -/
import Derived.Test.YtcoccegmkcdeiaaDoorM3
import Derived.Test.YtcoccegmkcdeiaaDoorM4
import Derived.Test.YtcoccegmkcdeiaaDoorM2
import Derived.Test.YtcoccegmkcdeiaaDoorM0
import Derived.Deep.RegionHeld3
import Derived.Laws.OwnMore
import Derived.Maps.AppendAt
import Derived.Lib.OthersKept
/- The small parts of dist: whether there is a p-th processor, how far two vertices are apart, the processors of a tree that may be; by contracts. -/
namespace Go.Proofs.YtcoccegmkcdeiaaDoor
open Go.RowKit
set_option linter.unusedVariables false

/-- The processors of a tree that may be; none of another one. -/
def procsIf (vs : List (Int × Int)) : List Int := if Tp.may vs then Dp.procs vs else []
theorem procsIf_length (vs : List (Int × Int)) : (procsIf vs).length = Dp.procsN vs := by
  unfold procsIf Dp.procsN
  split <;> rfl

/-- Whether there is a p-th one of n. -/
def isP (p : Int) (n : Nat) : Bool := decide (0 ≤ p ∧ p < n)
theorem isP_iff {p : Int} {n : Nat} : isP p n = true ↔ 0 ≤ p ∧ p < n := by unfold isP; rw [decide_eq_true_iff]
theorem isP_not {p : Int} {n : Nat} : isP p n = false ↔ p < 0 ∨ (n : Int) ≤ p := by unfold isP; rw [decide_eq_false_iff_not]; omega
theorem among_any (A : Option Addr) (n c : Nat) (p : Int) (w : World) (hl : n ≤ 9223372036854775807) :
    Calls Tryd.prog 70 #[.slice A n c, .int .i64 p] w fun e w' => e = .returned (.bool (isP p n)) ∧ w' = w := by
  by_cases h0 : 0 ≤ p
  · obtain ⟨i, rfl⟩ := Int.eq_ofNat_of_zero_le h0
    by_cases h1 : i < n
    · have H : Hid (isP i n = true) := Lib.hid (isP_iff.2 (by omega))
      clear h0
      go_enter Tryd.func70, Tryd.ntmps70
      go_wp2
      go_ret
      exact ⟨by rw [H.out]; rfl, rfl⟩
    · have H : Hid (isP i n = false) := Lib.hid (isP_not.2 (by omega))
      clear h0
      go_enter Tryd.func70, Tryd.ntmps70
      go_wp2
      go_ret
      exact ⟨by rw [H.out]; rfl, rfl⟩
  · have H : Hid (isP p n = false) := Lib.hid (isP_not.2 (by omega))
    go_enter Tryd.func70, Tryd.ntmps70
    go_wp2
    go_ret
    exact ⟨by rw [H.out]; rfl, rfl⟩

theorem procsOf_any (A : Option Addr) (n c : Nat) (vs : List (Int × Int)) (w : World)
    (hn : Hid (vs.length = n)) (hl : n ≤ 9223372036854775807) (hf : Hid (Fit vs)) (hv : VRow w w.heap.size A vs) :
    Calls Tryd.prog 69 #[.slice A n c] w (Made w (procsIf vs)) := by
  go_enter Tryd.func69, Tryd.ntmps69
  go_wp2_with fail
  refine (check_any A n c vs _ hn hl hf hv).mono ?_
  rintro e w1 ⟨he, hb1⟩
  cases hm : Tp.may vs
  · rw [hm] at he
    have he' : e = .returned (.int .i64 2) := he
    subst he'
    have H : Hid (procsIf vs = []) := Lib.hid (by unfold procsIf; rw [hm]; rfl)
    clear hm he
    go_wp2_with fail
    go_ret
    rw [H.out]
    exact ⟨none, 0, rfl, fun i z hi => by simp at hi, hb1⟩
  · rw [hm] at he
    have he' : e = .returned (.int .i64 0) := he
    subst he'
    have H : Hid (procsIf vs = Tp.those (levelP 3) vs) := Lib.hid (by unfold procsIf; rw [hm]; rfl)
    have h64 : n ≤ 64 := by have := ((Tp.tree_iff vs).1 hm).few; have := hn.out; omega
    clear hm he
    have hv1 := (hv.below hb1).more hb1.size
    go_wp2_with fail
    refine (procs_any A n c vs _ hn hl (by omega) hv1).mono ?_
    rintro e w2 ⟨A2, c2, rfl, hI2, hb2⟩
    have M := Lib.hid (show Made w (procsIf vs) (.returned (.slice A2 (Tp.those (levelP 3) vs).length c2)) w2 from by
      rw [H.out]
      exact ⟨A2, c2, rfl, hI2, hb1.trans (hb2.mono hb1.size)⟩)
    go_wp2_with fail
    go_ret
    exact M.out

theorem farV_three {vs : List (Int × Int)} {v u : Int} (h : ∀ e : Nat, e < 3 → Dp.above vs e v ≠ Dp.above vs e u) : Dp.farV vs v u = 3 := by
  have h0 : Dp.above vs 0 v ≠ Dp.above vs 0 u := h 0 (by omega)
  have h1 : Dp.above vs 1 v ≠ Dp.above vs 1 u := h 1 (by omega)
  have h2 : Dp.above vs 2 v ≠ Dp.above vs 2 u := h 2 (by omega)
  unfold Dp.farV
  rw [if_neg h0, if_neg h1, if_neg h2]

end Go.Proofs.YtcoccegmkcdeiaaDoor


/- dist.Far and dist.Node, by contracts: how far two processors are from each other, and a processor's node, as the document says. -/
namespace Go.Proofs.YtcoccegmkcdeiaaDoor
open Go.RowKit
set_option linter.unusedVariables false

theorem isP_far {vs : List (Int × Int)} {a b : Int} (h : isP a (Dp.procsN vs) = true) (h' : isP b (Dp.procsN vs) = true) : Dp.far vs a b = Dp.farV vs (Dp.proc vs a) (Dp.proc vs b) :=
  Dp.far_in (by have := isP_iff.1 h; have := isP_iff.1 h'; omega)
theorem isP_proc {vs : List (Int × Int)} {a : Int} (h : isP a (Dp.procsN vs) = true) : ∃ i : Nat, a = i ∧ i < Dp.procsN vs ∧ (procsIf vs)[i]? = some (Dp.proc vs a) ∧ Tp.Tree vs := by
  obtain ⟨h0, h1⟩ := isP_iff.1 h
  obtain ⟨i, rfl⟩ := Int.eq_ofNat_of_zero_le h0
  have T := Dp.tree_of_in h0 h1
  refine ⟨i, rfl, by omega, ?_, T⟩
  have := (Dp.proc_mem T h0 h1).1
  unfold procsIf
  rw [if_pos ((Tp.tree_iff vs).2 T)]
  exact this

theorem proc_of {vs : List (Int × Int)} {i : Nat} (h : i < Dp.procsN vs) : (procsIf vs)[i]? = some (Dp.proc vs i) := by
  obtain ⟨j, e, _, hp, _⟩ := isP_proc (vs := vs) (a := i) (isP_iff.2 (by omega))
  rw [show i = j by omega] at hp ⊢
  exact hp
theorem procsN_fits (vs : List (Int × Int)) (n : Nat) (hn : Hid (vs.length = n)) (hl : n ≤ 9223372036854775807) : Dp.procsN vs ≤ 9223372036854775807 := by
  have h1 := those_len (levelP 3) vs
  have h2 := hn.out
  have e : (procsIf vs).length ≤ (Tp.those (levelP 3) vs).length := by
    unfold procsIf; split
    · exact Nat.le_refl _
    · exact Nat.zero_le _
  rw [procsIf_length] at e
  omega

theorem index_any (A : Option Addr) (n c : Nat) (zs : List Int) (v : Int) (w : World) (B : Nat)
    (hn : Hid (zs.length = n)) (hl : n ≤ 9223372036854775807) (hv : IRow w B A zs) :
    Calls Tryd.prog 60 #[.slice A n c, .int .i64 v] w fun e w' => e = .returned (.int .i64 (Dp.place zs v)) ∧ w' = w := by
  go_enter Tryd.func60, Tryd.ntmps60
  go_wp2
  go_loop [8] (fun i => ∃ k : Nat, k ≤ n ∧ i = .int .i64 k ∧ Hid (v ∉ zs.take k)) (fun i => n - (intOf i).toNat)
  case atStart => exact ⟨0, by omega, rfl, Lib.hid (by simp)⟩
  case round =>
    obtain ⟨k, hk, rfl, hno⟩ := hrel
    by_cases hkn : k < n
    · obtain ⟨z, hz⟩ : ∃ z, zs[k]? = some z := ⟨_, List.getElem?_eq_getElem (by have := hn.out; omega)⟩
      obtain ⟨pb, po, hA, _, hcz⟩ := hv k z hz
      subst hA
      cases hq : (v == z)
      · have H : Hid (v ∉ zs.take (k + 1)) := Lib.hid (by
          rw [List.take_add_one, hz]
          simp only [Option.toList_some, List.mem_append, List.mem_singleton, not_or]
          rw [beq_eq_false_iff_ne] at hq
          exact ⟨hno.out, hq⟩)
        clear hz
        go_wp2
        go_round
        case rel => exact ⟨k + 1, by omega, by go_num, H⟩
        case measure => simp [intOf]; omega
      · have H : Hid (Dp.place zs v = k) := Lib.hid (by
          rw [beq_iff_eq] at hq
          subst hq
          exact Dp.place_hit hz hno.out)
        clear hz
        go_wp2
        go_ret
        exact ⟨by rw [H.out]; rfl, rfl⟩
    · have H : Hid (Dp.place zs v = -1) := Lib.hid (Dp.place_out (by
        have := hno.out
        rw [List.take_of_length_le (by have := hn.out; omega)] at this
        exact this))
      go_wp2
      go_ret
      exact ⟨by rw [H.out]; rfl, rfl⟩

theorem below_undrew' {w w' : World} (h : Below w.drew.heap.size w.drew w') : Below w.heap.size w w' := ⟨h.os, h.tape, h.output, h.size, h.block⟩

set_option maxHeartbeats 4000000 in
theorem node_any (A : Option Addr) (n c : Nat) (vs : List (Int × Int)) (p : Int) (w : World)
    (hn : Hid (vs.length = n)) (hl : n ≤ 9223372036854775807) (hf : Hid (Fit vs)) (hv : VRow w w.heap.size A vs) :
    Calls Tryd.prog 59 #[.slice A n c, .int .i64 p] w fun e w' => e = .returned (.int .i64 (Dp.node vs p)) ∧ Below w.heap.size w w' := by
  go_enter Tryd.func59, Tryd.ntmps59
  go_wp2_with fail
  refine (procsOf_any A n c vs _ hn hl hf hv).mono ?_
  rintro e w1 ⟨A1, c1, rfl, hI1, hb1⟩
  rw [procsIf_length]
  have hm := procsN_fits vs n hn hl
  generalize hpn : Dp.procsN vs = m at hm ⊢
  have HPN := Lib.hid hpn
  clear hpn
  go_wp2_with fail
  refine (among_any A1 m c1 p _ hm).mono ?_
  rintro e w2 ⟨rfl, rfl⟩
  cases ha : isP p m
  · have H : Hid (Dp.node vs p = -1) := Lib.hid (Dp.node_out (by rw [HPN.out]; exact isP_not.1 ha))
    clear ha
    go_wp2_with fail
    go_ret
    exact ⟨by rw [H.out]; rfl, hb1⟩
  have HA := Lib.hid ha
  clear ha
  have HF : Hid (Dp.node vs p = Dp.place (Tp.those (levelP 1) vs) (Tp.up vs 1 n (Dp.proc vs p))) := Lib.hid (by
    rw [← hn.out]; exact Dp.node_in (by rw [HPN.out]; have := isP_iff.1 HA.out; omega))
  obtain ⟨i, rfl, him, pa, T⟩ := isP_proc (vs := vs) (a := p) (by rw [HPN.out]; exact HA.out)
  have h64 : n ≤ 64 := by have := T.few; have := hn.out; omega
  rw [HPN.out] at him
  obtain ⟨pb1, po1, hA1, hpb, hca⟩ := hI1 i _ pa
  subst hA1
  have hv1 := (hv.below hb1).more hb1.size
  generalize Dp.proc vs i = x at *
  have hle := those_len (levelP 1) vs
  clear pa hI1 T
  go_wp2_with fail
  go_region_held3 (fun w' => w'.cell? ⟨pb1, po1 + i, none⟩ = some (.int .i64 x))
    (first | (rw [hbY.cell (by have := hbX.size; simp; omega)]; assumption) | (rw [hbX.cell (by simp; omega)]; assumption) | go_keep)
    ((first
      | (go_at_call 52; refine (nodes_any A n c vs _ hn hl (by omega) (by exact hv1)).mono ?_; rintro e wX ⟨AX, cX, rfl, hIX, hbX'⟩; have hbX := below_undrew' hbX')
      | (go_at_call 71; refine (up_any A n c vs x 1 _ hn hl (by exact ((hv1.below hbX).more hbX.size))).mono ?_; rintro e wY ⟨rfl, hbY⟩)
      | (go_at_call 60; refine (index_any AX _ cX _ _ _ wX.heap.size (Lib.hid rfl) (by have := hn.out; omega) (by exact (hIX.below hbY))).mono ?_; rintro e wZ ⟨rfl, rfl⟩)))
  go_wp2_with fail
  go_ret
  exact ⟨by rw [HF.out]; rfl, hb1.trans ((hbX.trans (hbY.mono hbX.size)).mono hb1.size)⟩
end Go.Proofs.YtcoccegmkcdeiaaDoor


/- dist.Table, by its contract: of each processor, in turn, how far it is from each, in new memory. -/
namespace Go.Proofs.YtcoccegmkcdeiaaDoor
open Go.RowKit
set_option linter.unusedVariables false

theorem procsN_few (vs : List (Int × Int)) : Dp.procsN vs ≤ 64 := by
  rw [← procsIf_length]
  unfold procsIf
  split
  · rename_i h
    have := ((Tp.tree_iff vs).1 h).few
    have := those_len (levelP 3) vs
    exact Nat.le_trans this (by omega)
  · exact Nat.zero_le _
/-- How far processor k is from each. -/
def rowOf (vs : List (Int × Int)) (k : Nat) : List Int := (List.range (Dp.procsN vs)).map fun (b : Nat) => Dp.far vs k b
theorem rowOf_length (vs : List (Int × Int)) (k : Nat) : (rowOf vs k).length = Dp.procsN vs := by unfold rowOf; simp
theorem rowOf_at {vs : List (Int × Int)} {k j : Nat} (h : j < Dp.procsN vs) : (rowOf vs k)[j]? = some (Dp.far vs k j) := by unfold rowOf; simp [h]
theorem table_at {vs : List (Int × Int)} {k : Nat} (h : k < Dp.procsN vs) : (table vs)[k]? = some (rowOf vs k) := by unfold table rowOf; simp [h]
theorem table_length (vs : List (Int × Int)) : (table vs).length = Dp.procsN vs := by unfold table; simp
theorem own_base {w : World} {b1 b2 n size : Nat} {e : TypeId} {v : Value} {xs : List Value} (h : w.ownsRow b1 e size v n xs) (hb : b2 ≤ b1) : w.ownsRow b2 e size v n xs := by
  refine ⟨h.1, ?_⟩
  rcases h.2 with h0 | ⟨g, cap, cur, e1, hg, h3⟩
  · exact .inl h0
  · exact .inr ⟨g, cap, cur, e1, Nat.le_trans hb hg, h3⟩
/-- A row that is filled up to its j-th place. -/
def part (vs : List (Int × Int)) (k j : Nat) : List Int := (rowOf vs k).take j ++ List.replicate (Dp.procsN vs - j) 0
theorem part_zero (vs : List (Int × Int)) (k : Nat) : part vs k 0 = List.replicate (Dp.procsN vs) 0 := by unfold part; simp
theorem part_all (vs : List (Int × Int)) (k : Nat) : part vs k (Dp.procsN vs) = rowOf vs k := by
  unfold part
  rw [List.take_of_length_le (by rw [rowOf_length]; exact Nat.le_refl _), Nat.sub_self]
  simp
theorem part_length {vs : List (Int × Int)} {k j : Nat} (h : j ≤ Dp.procsN vs) : (part vs k j).length = Dp.procsN vs := by
  unfold part
  rw [List.length_append, List.length_take, List.length_replicate, rowOf_length]; omega
theorem part_set {vs : List (Int × Int)} {k j : Nat} (h : j < Dp.procsN vs) : (part vs k j).set j (Dp.far vs k j) = part vs k (j + 1) := by
  apply List.ext_getElem?
  intro i
  have hl : ((rowOf vs k).take j).length = j := by rw [List.length_take, rowOf_length]; omega
  have hl' : ((rowOf vs k).take (j + 1)).length = j + 1 := by rw [List.length_take, rowOf_length]; omega
  by_cases e : j = i
  · subst e
    rw [List.getElem?_set_self (by rw [part_length (by omega)]; exact h)]
    unfold part
    rw [List.getElem?_append_left (by omega), List.getElem?_take, if_pos (by omega), rowOf_at h]
  · rw [List.getElem?_set_ne e]
    unfold part
    by_cases e2 : i < j
    · rw [List.getElem?_append_left (by omega), List.getElem?_append_left (by omega), List.getElem?_take, List.getElem?_take, if_pos (by omega), if_pos (by omega)]
    · rw [List.getElem?_append_right (by omega), List.getElem?_append_right (by omega), hl, hl', List.getElem?_replicate, List.getElem?_replicate]
      by_cases e3 : i < Dp.procsN vs
      · rw [if_pos (by omega), if_pos (by omega)]
      · rw [if_neg (by omega), if_neg (by omega)]
/-- The slices that stand in a list of lists, each its row, of the call's own. -/
def RowsIn (w : World) (base : Nat) (rows : List (List Int)) (xs : List Value) : Prop :=
  xs.length = rows.length ∧ ∀ (i : Nat) (r : List Int), rows[i]? = some r → ∃ v : Value, xs[i]? = some v ∧ w.ownsRow base 3 1 v r.length (r.map (Value.int .i64))
theorem RowsIn.nil (w : World) (base : Nat) : RowsIn w base [] [] := ⟨rfl, fun i r h => by simp at h⟩
theorem RowsIn.below {w w' : World} {base : Nat} {rows : List (List Int)} {xs : List Value} (h : RowsIn w base rows xs) (hb : Below w.heap.size w w') : RowsIn w' base rows xs :=
  ⟨h.1, fun i r hi => by obtain ⟨v, h1, h2⟩ := h.2 i r hi; exact ⟨v, h1, own_below h2 hb⟩⟩
theorem own_types {w : World} {b1 b2 s1 s2 n1 n2 : Nat} {e1 e2 : TypeId} {v1 v2 : Value} {x1 x2 : List Value} (h1 : w.ownsRow b1 e1 s1 v1 n1 x1) (h2 : w.ownsRow b2 e2 s2 v2 n2 x2) (hne : e1 ≠ e2) : v1.ownBlock = none ∨ v1.ownBlock ≠ v2.ownBlock := by
  rcases h1.2 with ⟨rfl, _⟩ | ⟨g1, c1, cur1, rfl, _, k1, _⟩
  · exact .inl rfl
  · rcases h2.2 with ⟨rfl, _⟩ | ⟨g2, c2, cur2, rfl, _, k2, _⟩
    · exact .inr (by simp [Value.ownBlock])
    · refine .inr ?_
      intro h
      have e : g1 = g2 := by simpa [Value.ownBlock] using h
      subst e
      rw [k1] at k2
      injection k2 with k2
      injection k2 with _ k2
      exact hne k2
theorem RowsIn.grown {w w' : World} {base b2 n2 : Nat} {rows : List (List Int)} {xs x2 : List Value} {v2 : Value} (h : RowsIn w base rows xs) (ho : w.ownsRow b2 42 1 v2 n2 x2) (hg : w.grownBy w' v2.ownBlock) : RowsIn w' base rows xs :=
  ⟨h.1, fun i r hi => by obtain ⟨v, h1, h2⟩ := h.2 i r hi; exact ⟨v, h1, h2.kept hg (own_types h2 ho (by decide))⟩⟩
theorem RowsIn.snoc {w : World} {base : Nat} {rows : List (List Int)} {xs : List Value} {v : Value} {r : List Int} (h : RowsIn w base rows xs) (hr : w.ownsRow base 3 1 v r.length (r.map (Value.int .i64))) : RowsIn w base (rows ++ [r]) (xs ++ [v]) := by
  refine ⟨by simp [h.1], fun i s hi => ?_⟩
  by_cases e : i < rows.length
  · rw [List.getElem?_append_left e] at hi
    obtain ⟨v', h1, h2⟩ := h.2 i s hi
    exact ⟨v', by rw [List.getElem?_append_left (by rw [h.1]; exact e)]; exact h1, h2⟩
  · have hlt := (List.getElem?_eq_some_iff.1 hi).1
    simp at hlt
    have : i = rows.length := by omega
    subst this
    simp at hi
    subst hi
    exact ⟨v, by rw [List.getElem?_append_right (by rw [h.1]; exact Nat.le_refl _), h.1]; simp, hr⟩
theorem info_ints : (Tryd.prog.info? 42).map (fun i => (i.zero, i.size, i.bytes)) = some (some (Value.slice none 0 0), 1, 24) := by kernel_rfl
theorem slice_cell (w : World) (u : Value) (e : TypeId) : ∀ j x, [u][j]? = some x → (w.alloc (.cells #[u] e)).cell? ((⟨w.heap.size, 0, none⟩ : Addr).add j) = some x := one_cell w u e
theorem rrow_of {w : World} {base base2 : Nat} {A : Option Addr} {n c : Nat} {e : TypeId} {xs : List Value} {rows : List (List Int)} (h : w.ownsRow base e 1 (.slice A n c) n xs) (hr : RowsIn w base2 rows xs) : RRow w w.heap.size A rows := by
  intro i r hi
  obtain ⟨v, h1, h2⟩ := hr.2 i r hi
  obtain ⟨A', c', rfl⟩ := own_form h2
  have hl := (List.getElem?_eq_some_iff.1 h1).1
  have hn := h.1
  rcases h.2 with ⟨_, h0⟩ | ⟨g, cap, cur, hv, _, hh, _⟩
  · omega
  · injection hv with e1 e2 e3
    subst e1
    refine ⟨g, 0, rfl, (Array.getElem?_eq_some_iff.1 hh).1, A', c', ?_, IRow.of_own h2⟩
    have := h.cells (g := g) rfl i _ h1
    rw [show ((⟨g, 0, none⟩ : Addr).add i) = ⟨g, 0 + i, none⟩ from by unfold Addr.add; split <;> simp_all] at this
    exact this
theorem madeRows_of {w w1 w' : World} {v : Value} {rows : List (List Int)} {xs : List Value} {ty : TypeId} {base2 : Nat} (hb : Below w.heap.size w w1) (hown : w'.ownsRow w1.heap.size ty 1 v rows.length xs) (hr : RowsIn w' base2 rows xs) (hb1 : Below w1.heap.size w1 w') : MadeRows w rows (.returned v) w' := by
  obtain ⟨A, c, rfl⟩ := own_form hown
  exact ⟨A, c, rfl, rrow_of hown hr, hb.trans (hb1.mono hb.size)⟩
theorem zeros_map (m : Nat) : (madeCells #[Value.int .i64 0] m).toList = (List.replicate m (0 : Int)).map (Value.int .i64) := by
  rw [toList_madeCells_one, List.map_replicate]

end Go.Proofs.YtcoccegmkcdeiaaDoor


/- Slices of vertices that a call makes for itself: their cells, and how they read. -/
namespace Go.Proofs.YtcoccegmkcdeiaaDoor
open Go.RowKit
set_option linter.unusedVariables false

def vcells (vs : List (Int × Int)) : List Value := vs.flatMap fun x => [.int .i64 x.1, .int .i64 x.2]
theorem vcells_nil : vcells [] = [] := rfl
theorem vcells_one (p l : Int) : vcells [(p, l)] = [.int .i64 p, .int .i64 l] := rfl
theorem vcells_append (a b : List (Int × Int)) : vcells (a ++ b) = vcells a ++ vcells b := by unfold vcells; rw [List.flatMap_append]
theorem vcells_length (vs : List (Int × Int)) : (vcells vs).length = vs.length * 2 := by
  induction vs with
  | nil => rfl
  | cons x xs ih =>
    have : vcells (x :: xs) = .int .i64 x.1 :: .int .i64 x.2 :: vcells xs := rfl
    rw [this, List.length_cons, List.length_cons, ih, List.length_cons]; omega
theorem vcells_at : ∀ (vs : List (Int × Int)) (i : Nat), (vcells vs)[i * 2]? = (vs[i]?).map (fun x => Value.int .i64 x.1) ∧ (vcells vs)[i * 2 + 1]? = (vs[i]?).map (fun x => Value.int .i64 x.2) := by
  intro vs
  induction vs with
  | nil => intro i; simp [vcells]
  | cons x xs ih =>
    intro i
    have e : vcells (x :: xs) = .int .i64 x.1 :: .int .i64 x.2 :: vcells xs := rfl
    rw [e]
    cases i with
    | zero => exact ⟨rfl, rfl⟩
    | succ i =>
      obtain ⟨h1, h2⟩ := ih i
      rw [show (i + 1) * 2 = i * 2 + 1 + 1 from by omega]
      simp only [List.getElem?_cons_succ]
      exact ⟨h1, h2⟩
theorem vcells_one' (vs : List (Int × Int)) : ∀ u ∈ vcells vs, u.oneCell' = true := by
  intro u hu
  unfold vcells at hu
  obtain ⟨x, _, hx⟩ := List.mem_flatMap.1 hu
  simp only [List.mem_cons, List.not_mem_nil, or_false] at hx
  rcases hx with rfl | rfl <;> rfl
theorem add_at (b o j : Nat) : ((⟨b, o, none⟩ : Addr).add j) = ⟨b, o + j, none⟩ := by
  unfold Addr.add; split <;> simp_all
/-- The cells of a slice that came in, one by one. -/
theorem VRow.cells {w : World} {B b off : Nat} {vs : List (Int × Int)} (h : VRow w B (some ⟨b, off, none⟩) vs) : ∀ j u, (vcells vs)[j]? = some u → w.cell? ((⟨b, off, none⟩ : Addr).add j) = some u := by
  intro j u hj
  have hl := (List.getElem?_eq_some_iff.1 hj).1
  rw [vcells_length] at hl
  obtain ⟨x, hx⟩ : ∃ x, vs[j / 2]? = some x := ⟨_, List.getElem?_eq_getElem (by omega)⟩
  obtain ⟨b', off', hA, _, h1, h2⟩ := h _ _ hx
  injection hA with hA
  injection hA with e1 e2
  subst e1 e2
  obtain ⟨g1, g2⟩ := vcells_at vs (j / 2)
  rw [add_at]
  rcases Nat.mod_two_eq_zero_or_one j with e | e
  · rw [show j / 2 * 2 = j from by omega, hx] at g1
    rw [hj] at g1
    rw [show j / 2 * 2 = j from by omega] at h1
    rw [h1, g1]; rfl
  · rw [show j / 2 * 2 + 1 = j from by omega, hx] at g2
    rw [hj] at g2
    rw [show off + j / 2 * 2 + 1 = off + j from by omega] at h2
    rw [h2, g2]; rfl
/-- A row of vertices that a call has made for itself, read as vertices. -/
theorem VRow.of_own {w : World} {base n c : Nat} {e : TypeId} {A : Option Addr} {vs : List (Int × Int)} (h : w.ownsRow base e 2 (.slice A n c) n (vcells vs)) : VRow w w.heap.size A vs := by
  intro i x hi
  have hl : i < n := by
    have h1 := h.1
    have h2 := (List.getElem?_eq_some_iff.1 hi).1
    rw [vcells_length] at h1; omega
  rcases h.2 with ⟨_, h0⟩ | ⟨g, cap, cur, hv, _, hh, _⟩
  · omega
  · injection hv with h1 h2 h3
    subst h1
    obtain ⟨g1, g2⟩ := vcells_at vs i
    rw [hi] at g1 g2
    have c1 := h.cells (g := g) rfl _ _ g1
    have c2 := h.cells (g := g) rfl _ _ g2
    rw [add_at] at c1 c2
    exact ⟨g, 0, rfl, (Array.getElem?_eq_some_iff.1 hh).1, c1, by rw [show 0 + i * 2 + 1 = 0 + (i * 2 + 1) from by omega]; exact c2⟩
theorem own_vlen {w : World} {base n : Nat} {e : TypeId} {v : Value} {vs : List (Int × Int)} (h : w.ownsRow base e 2 v n (vcells vs)) : vs.length = n := by
  have h1 := h.1
  rw [vcells_length] at h1; omega
theorem own_empty (w : World) (base : Nat) (e : TypeId) (h : base ≤ w.heap.size) : (w.alloc (.cells #[] e)).ownsRow base e 2 (.slice (some ⟨w.heap.size, 0, none⟩) 0 0) 0 (vcells []) :=
  World.ownsRow_made _ _ _ h (by unfold maxLen; omega) rfl
theorem two_cells (w : World) (p l : Int) (e : TypeId) : ∀ j x, (vcells [(p, l)])[j]? = some x → (w.alloc (.cells #[.int .i64 p, .int .i64 l] e)).cell? ((⟨w.heap.size, 0, none⟩ : Addr).add j) = some x := by
  intro j x hj
  rw [vcells_one] at hj
  match j, hj with
  | 0, hj => simp at hj; subst hj; simp [Addr.add]
  | 1, hj => simp at hj; subst hj; simp [Addr.add]
theorem vcells_set : ∀ (vs : List (Int × Int)) (i : Nat) (p : Int) (x : Int × Int), vs[i]? = some x → (vcells vs).set (i * 2) (.int .i64 p) = vcells (vs.set i (p, x.2)) := by
  intro vs
  induction vs with
  | nil => intro i p x h; cases h
  | cons y ys ih =>
    intro i p x h
    have e : vcells (y :: ys) = .int .i64 y.1 :: .int .i64 y.2 :: vcells ys := rfl
    cases i with
    | zero => injection h with h; subst h; rfl
    | succ i =>
      rw [e, show (i + 1) * 2 = i * 2 + 1 + 1 from by omega, List.set_cons_succ, List.set_cons_succ, ih i p x h]; rfl
theorem news_kept {W W' : World} {row g : Nat} {zs : List Value} (hg : W.grownBy W' (some row)) (hne : g ≠ row) (hlt : g < W.heap.size) (h : ∀ j u, zs[j]? = some u → W.cell? ((⟨g, 0, none⟩ : Addr).add j) = some u) :
    ∀ j u, zs[j]? = some u → W'.cell? ((⟨g, 0, none⟩ : Addr).add j) = some u := by
  intro j u hj
  have h1 := h j u hj
  rw [add_at] at h1 ⊢
  exact (World.cell?_of_block (hg.block g hlt (by simpa using hne))).trans h1
theorem news_kept_drew {W W' : World} {row g : Nat} {zs : List Value} {v : Value} (hg : W.drew.grownBy W' v.ownBlock) (hv : v.ownBlock = some row) (hne : g ≠ row) (hlt : g < W.heap.size) (h : ∀ j u, zs[j]? = some u → W.cell? ((⟨g, 0, none⟩ : Addr).add j) = some u) :
    ∀ j u, zs[j]? = some u → W'.cell? ((⟨g, 0, none⟩ : Addr).add j) = some u := by
  rw [hv] at hg
  exact news_kept (W := W.drew) hg hne hlt h
theorem Fit.append {a b : List (Int × Int)} (ha : Fit a) (hb : Fit b) : Fit (a ++ b) := by
  intro x hx
  rcases List.mem_append.1 hx with h | h
  · exact ha x h
  · exact hb x h
theorem Fit.drop {a : List (Int × Int)} (ha : Fit a) (k : Nat) : Fit (a.drop k) := fun x hx => ha x (List.mem_of_mem_drop hx)
theorem Fit.take {a : List (Int × Int)} (ha : Fit a) (k : Nat) : Fit (a.take k) := fun x hx => ha x (List.mem_of_mem_take hx)
theorem VRow.take {w : World} {B : Nat} {A : Option Addr} {vs : List (Int × Int)} (h : VRow w B A vs) (k : Nat) : VRow w B A (vs.take k) := by
  intro i x hi
  refine h i x ?_
  rw [List.getElem?_take] at hi
  split at hi
  · exact hi
  · cases hi
theorem VRow.drop1 {w : World} {B b off : Nat} {vs : List (Int × Int)} (h : VRow w B (some ⟨b, off, none⟩) vs) : VRow w B (some ⟨b, off + 2, none⟩) (vs.drop 1) := by
  intro i x hi
  rw [List.getElem?_drop] at hi
  obtain ⟨b', off', hA, hb, h1, h2⟩ := h _ _ hi
  injection hA with hA
  injection hA with e1 e2
  subst e1 e2
  exact ⟨b, off + 2, rfl, hb, by rw [show off + 2 + i * 2 = off + (1 + i) * 2 from by omega]; exact h1, by rw [show off + 2 + i * 2 + 1 = off + (1 + i) * 2 + 1 from by omega]; exact h2⟩
end Go.Proofs.YtcoccegmkcdeiaaDoor


/- text.Parse comes to a plain function of the bytes. -/
namespace Go.Proofs.YtcoccegmkcdeiaaDoor
open Go.RowKit
set_option linter.unusedVariables false

/-- What a call leaves that has parsed: the vertices in new memory, the place, the error; all else as it was. -/
def Parsed (w0 : World) (r : List (Int × Int) × Nat × Int) (e : Ending) (w' : World) : Prop :=
  ∃ A c, e = .returned (.tuple #[.slice A r.1.length c, .int .i64 r.2.1, .int .i64 r.2.2]) ∧ VRow w' w'.heap.size A r.1 ∧ Below w0.heap.size w0 w'
theorem VRow.nil (w : World) (B : Nat) (A : Option Addr) : VRow w B A [] := fun i x h => by simp at h
/-- An int that is no more than 64. -/
def capI (z : Int) : Int := if z ≤ 64 then z else 64
/-- What holds of the memory at each place of the text. -/
structure Here (w0 : World) (s : ByteArray) (pos : Nat) (vs : List (Int × Int)) (ab : Nat → Int) (t : Value) (wr : World) : Prop where
  ab : ∀ j, j < 4 → wr.cell? ⟨w0.heap.size, j, none⟩ = some (.int .i64 (capI (ab j))) ∧ wr.frozen? ⟨w0.heap.size, j, none⟩ = false
  iter : wr.heap[w0.heap.size + 1]? = some (.stringIter s pos)
  own : wr.ownsRow (w0.heap.size + 2) 78 2 t (vs.take 65).length (vcells (vs.take 65))
  below : Below w0.heap.size w0 wr
  size : w0.heap.size + 2 ≤ wr.heap.size
theorem here0 (w : World) (s : ByteArray) : Here w s 0 [] Tx.st0.ab (.slice none 0 0) ((w.alloc (.cells #[.int .i64 (-1), .int .i64 0, .int .i64 0, .int .i64 0] 75)).iter s 0) := by
  refine ⟨?_, ?_, World.ownsRow_nil _ _ _ _, ((Below.refl _ _).alloc (Nat.le_refl _) _).alloc (by simp) _, by simp [World.iter]⟩
  · intro j hj
    have e : ∀ p : Addr, p.block = w.heap.size → (((w.alloc (.cells #[.int .i64 (-1), .int .i64 0, .int .i64 0, .int .i64 0] 75)).iter s 0).cell? p = (w.alloc (.cells #[.int .i64 (-1), .int .i64 0, .int .i64 0, .int .i64 0] 75)).cell? p) ∧ (((w.alloc (.cells #[.int .i64 (-1), .int .i64 0, .int .i64 0, .int .i64 0] 75)).iter s 0).frozen? p = (w.alloc (.cells #[.int .i64 (-1), .int .i64 0, .int .i64 0, .int .i64 0] 75)).frozen? p) := by
      intro p hp
      have h := (Below.refl (w.heap.size + 1) (w.alloc (.cells #[.int .i64 (-1), .int .i64 0, .int .i64 0, .int .i64 0] 75))).alloc (by simp) (.stringIter s 0)
      exact ⟨h.cell (by omega), h.frozen (by omega)⟩
    rw [(e _ rfl).1, (e _ rfl).2]
    refine ⟨?_, ?_⟩
    · rw [World.cell?_alloc_at _ _ _ _ rfl]
      rcases (show j = 0 ∨ j = 1 ∨ j = 2 ∨ j = 3 by omega) with rfl | rfl | rfl | rfl <;> rfl
    · rw [World.frozen?_alloc_at _ _ _ _ rfl]
  · have := World.iter_heap (w.alloc (.cells #[.int .i64 (-1), .int .i64 0, .int .i64 0, .int .i64 0] 75)) s 0
    simpa using this
theorem own_iterAt {w : World} {base n k : Nat} {e : TypeId} {size : Nat} {v : Value} {xs : List Value} (h : w.ownsRow base e size v n xs) (hk : k < base) (s : ByteArray) (pos : Nat) : (w.iterAt k s pos).ownsRow base e size v n xs := by
  refine ⟨h.1, ?_⟩
  rcases h.2 with h2 | ⟨g, cap, cur, hv, hbg, hg, rest⟩
  · exact .inl h2
  · exact .inr ⟨g, cap, cur, hv, hbg, (Lib.iterAt_other w k g s pos (by omega)).trans hg, rest⟩
theorem Here.next {w0 : World} {s : ByteArray} {pos : Nat} {vs : List (Int × Int)} {ab : Nat → Int} {t : Value} {wr : World} (h : Here w0 s pos vs ab t wr) (pos' : Nat) : Here w0 s pos' vs ab t (wr.iterAt (w0.heap.size + 1) s pos') := by
  have hb := Lib.below_iterAt (Below.refl (w0.heap.size + 1) wr) (k := w0.heap.size + 1) (Nat.le_refl _) s pos'
  refine ⟨fun j hj => ?_, Lib.iterAt_heap _ _ _ _ _ h.iter, own_iterAt h.own (by omega) _ _, Lib.below_iterAt h.below (by omega) _ _, by rw [Lib.iterAt_size]; exact h.size⟩
  rw [hb.cell (by simp), hb.frozen (by simp)]
  exact h.ab j hj
theorem Here.pos {w0 : World} {s : ByteArray} {pos : Nat} {vs : List (Int × Int)} {ab : Nat → Int} {t : Value} {wr : World} (h : Here w0 s pos vs ab t wr) : wr.iterPos (w0.heap.size + 1) = pos := by
  unfold World.iterPos; rw [h.iter]
theorem Here.push {w0 : World} {s : ByteArray} {pos : Nat} {vs : List (Int × Int)} {ab : Nat → Int} {t : Value} {wr : World} (h : Here w0 s pos vs ab t wr) (l : Nat) (hl : l < 4) (z : Int) :
    Here w0 s pos vs (fun j => if j = l then z else ab j) t (wr.setCell ⟨w0.heap.size, l, none⟩ (.int .i64 (capI z))) := by
  refine ⟨fun j hj => ?_, ?_, ownsRow_setCell_below h.own (by simp) _, h.below.setCell (Nat.le_refl _) _, by simp [World.setCell]; exact h.size⟩
  · by_cases e : j = l
    · subst e
      simp only [if_true]
      exact ⟨World.cell?_setCell_same' _ _ _ (by rw [(h.ab j hj).1]; rfl), by rw [World.frozen?_setCell]; exact (h.ab j hj).2⟩
    · simp only [if_neg e]
      exact ⟨(World.cell?_setCell_other _ _ _ _ (fun h => by injection h with _ h; exact e h.symm)).trans (h.ab j hj).1, by rw [World.frozen?_setCell]; exact (h.ab j hj).2⟩
  · rw [Below.heap_setCell _ _ _ _ (by simp)]; exact h.iter
theorem Here.grown {w0 : World} {s : ByteArray} {pos : Nat} {vs : List (Int × Int)} {ab : Nat → Int} {t t' : Value} {wr w2 : World} {p l : Int} (h : Here w0 s pos vs ab t wr) (e : vs.take 65 = vs) (h64 : vs.length ≤ 64)
    (hr : ∀ k, t.ownBlock = some k → w0.heap.size + 2 ≤ k) (hg : (wr.alloc (.cells #[.int .i64 p, .int .i64 l] 78)).grownBy w2 t.ownBlock) (ho : w2.ownsRow (w0.heap.size + 2) 78 2 t' (vs.length + 1) (vcells vs ++ vcells [(p, l)])) :
    Here w0 s pos (vs ++ [(p, l)]) ab t' w2 := by
  have hs := h.size
  have hb : Below (w0.heap.size + 2) wr w2 := ((Below.refl _ wr).alloc h.size _).grown hg (by simp; omega) hr
  refine ⟨fun j hj => ?_, ?_, ?_, h.below.trans (hb.mono (by omega)), Nat.le_trans h.size hb.size⟩
  · rw [hb.cell (by simp), hb.frozen (by simp)]
    exact h.ab j hj
  · rw [hb.block _ (by omega)]; exact h.iter
  · have e2 : (vs ++ [(p, l)]).take 65 = vs ++ [(p, l)] := List.take_of_length_le (by simp; omega)
    rw [e2, vcells_append, List.length_append]
    exact ho
/-- What holds of what has been read, at each place of the text. -/
structure SoFar (l : List UInt8) (σ : Tx.St) (pos : Nat) : Prop where
  run : Tx.run Tx.st0 l = Tx.run σ (l.drop pos)
  inv : Tx.Inv σ
  ab : ∀ j, -1 ≤ σ.ab j ∧ σ.ab j ≤ σ.vs.length
  vs : ∀ (i : Nat) (x : Int × Int), σ.vs[i]? = some x → -1 ≤ x.1 ∧ x.1 ≤ i ∧ 0 ≤ x.2 ∧ x.2 ≤ 3
theorem good0 (l : List UInt8) : SoFar l Tx.st0 0 := by
  refine ⟨by rw [List.drop_zero], Tx.inv0, fun j => ?_, fun i x h => by simp [Tx.st0] at h⟩
  unfold Tx.st0
  simp only
  split <;> simp
theorem SoFar.next {l : List UInt8} {σ : Tx.St} {pos : Nat} (h : SoFar l σ pos) {c : UInt8} {r : List UInt8} (hd : l.drop pos = c :: r) (hg : Tx.goes σ.q c σ.lv = true) : SoFar l (Tx.adv σ c) (pos + 1) := by
  refine ⟨?_, h.inv.adv hg, ?_, ?_⟩
  · rw [h.run, hd, Tx.run_yes hg]
    congr 1
    rw [← List.drop_drop, hd]; rfl
  · intro j
    have h1 := h.ab j
    unfold Tx.adv
    split
    · simp only
      split <;> omega
    · split
      · exact h1
      · simp only [List.length_append, List.length_singleton]; omega
  · intro i x hx
    have h2 := h.ab σ.lv
    have h3 := h.inv.le
    unfold Tx.adv at hx
    split at hx
    · exact h.vs i x hx
    · split at hx
      · exact h.vs i x hx
      · simp only at hx
        by_cases hi : i < σ.vs.length
        · rw [List.getElem?_append_left hi] at hx; exact h.vs i x hx
        · rw [List.getElem?_append_right (by omega)] at hx
          have e : i - σ.vs.length = 0 := by
            have := (List.getElem?_eq_some_iff.1 hx).1
            simp at this; omega
          rw [e] at hx
          injection hx with hx
          subst hx
          simp only
          omega
theorem SoFar.fit {l : List UInt8} {σ : Tx.St} {pos : Nat} (h : SoFar l σ pos) : Fit (σ.vs.take 65) := by
  intro x hx
  obtain ⟨i, hi⟩ := List.mem_iff_getElem?.1 hx
  have hl := (List.getElem?_eq_some_iff.1 hi).1
  rw [List.length_take] at hl
  rw [List.getElem?_take] at hi
  split at hi
  · have := h.vs i x hi
    exact ⟨⟨by omega, by omega⟩, ⟨by omega, by omega⟩⟩
  · cases hi
theorem SoFar.cap {l : List UInt8} {σ : Tx.St} {pos : Nat} (h : SoFar l σ pos) (hl : σ.vs.length ≤ 64) (j : Nat) : capI (σ.ab j) = σ.ab j := by
  have := h.ab j
  exact if_pos (by omega)
theorem may_cut (vs : List (Int × Int)) : Tp.may (vs.take 65) = Tp.may vs := by
  by_cases h : vs.length ≤ 64
  · rw [List.take_of_length_le (by omega)]
  · have h1 : Tp.may vs = false := Tp.may_long (by omega)
    have h2 : Tp.may (vs.take 65) = false := Tp.may_long (by rw [List.length_take]; omega)
    rw [h1, h2]
/-- Where it doesn't go on. -/
theorem SoFar.stuck {l : List UInt8} {σ : Tx.St} {pos : Nat} (h : SoFar l σ pos) {c : UInt8} {r : List UInt8} (hd : l.drop pos = c :: r) (hg : Tx.goes σ.q c σ.lv = false) : Tx.parse l = ([], pos, 2) := by
  have e := h.run
  rw [hd, Tx.run_no hg] at e
  rw [Tx.parse_stuck (by rw [e]; simp), e, ← hd, List.length_drop]
  have : pos ≤ l.length := by
    have := congrArg List.length hd
    rw [List.length_drop, List.length_cons] at this
    omega
  simp only [Prod.mk.injEq, true_and, and_true]
  omega
theorem SoFar.all {l : List UInt8} {σ : Tx.St} {pos : Nat} (h : SoFar l σ pos) (hp : l.length ≤ pos) : Tx.run Tx.st0 l = (σ, []) := by
  rw [h.run, List.drop_of_length_le hp]; rfl
theorem SoFar.no {l : List UInt8} {σ : Tx.St} {pos : Nat} (h : SoFar l σ pos) (hp : l.length ≤ pos) (hn : ¬ (σ.lv = 0 ∧ Tp.may σ.vs = true)) : Tx.parse l = ([], l.length, 2) := by
  unfold Tx.parse
  rw [h.all hp, if_neg (fun hh => hn hh.2)]; rfl
theorem SoFar.yes {l : List UInt8} {σ : Tx.St} {pos : Nat} (h : SoFar l σ pos) (hp : l.length ≤ pos) (hn : σ.lv = 0 ∧ Tp.may σ.vs = true) : Tx.parse l = (σ.vs, 0, 0) := by
  unfold Tx.parse
  rw [h.all hp, if_pos ⟨rfl, hn⟩]
theorem byte_at (s : ByteArray) (pos : Nat) (h : pos < s.size) : s.data.toList.drop pos = s[pos]'h :: s.data.toList.drop (pos + 1) := by
  rw [List.drop_eq_getElem_cons (by simpa using h)]; rfl

theorem Here.parsed {w0 : World} {s : ByteArray} {pos : Nat} {vs : List (Int × Int)} {ab : Nat → Int} {t : Value} {wr : World} (h : Here w0 s pos vs ab t wr) {r : List (Int × Int) × Nat × Int} (hr : r = ([], pos, 2)) :
    Parsed w0 r (.returned (.tuple #[.slice none 0 0, .int .i64 pos, .int .i64 2])) wr := by
  subst hr
  exact ⟨none, 0, rfl, VRow.nil _ _ _, h.below⟩
theorem SoFar.adv40 {l : List UInt8} {σ : Tx.St} {pos : Nat} (h : SoFar l (Tx.adv σ 40) pos) : SoFar l ⟨σ.vs, fun j => if j = σ.lv + 1 then (σ.vs.length : Int) - 1 else σ.ab j, σ.lv + 1, 40⟩ pos := h
theorem SoFar.adv41 {l : List UInt8} {σ : Tx.St} {pos : Nat} (h : SoFar l (Tx.adv σ 41) pos) : SoFar l ⟨σ.vs, σ.ab, σ.lv - 1, 41⟩ pos := h
theorem adv_other {σ : Tx.St} {c : UInt8} (h0 : c ≠ 40) (h1 : c ≠ 41) : Tx.adv σ c = ⟨σ.vs ++ [(σ.ab σ.lv, (σ.lv : Int))], σ.ab, σ.lv, c⟩ := by
  unfold Tx.adv; rw [if_neg h0, if_neg h1]
theorem byte_eq (a b : UInt8) : ((a.toNat : Int) == (b.toNat : Int)) = (a == b) := by
  rw [Bool.eq_iff_iff, beq_iff_eq, beq_iff_eq]
  constructor
  · intro h; exact UInt8.toNat_inj.1 (by omega)
  · intro h; rw [h]
theorem opens_lv {σ : Tx.St} (hi : Tx.Inv σ) (hg : Tx.goes σ.q 40 σ.lv = true) : σ.lv ≤ 2 ∧ 1 ≤ σ.vs.length ∨ σ.lv ≤ 2 := by
  refine .inr ?_
  rcases hi with h | h | h | h | h | h | h
  · omega
  · omega
  · omega
  · omega
  · rw [Tx.goes_opn (.inr h.1), beq_iff_eq] at hg
    exact absurd hg.symm (Tx.lt_no40 _)
  · rw [Tx.goes_whl (.inl h.1)] at hg
    simp only [Bool.and_eq_true, Bool.or_eq_true, beq_iff_eq] at hg
    rcases hg.2 with e | e
    · exact absurd e.symm (Tx.lt_no40 _)
    · exact absurd e (by decide)
  · omega
theorem shuts_lv {σ : Tx.St} (hi : Tx.Inv σ) (hg : Tx.goes σ.q 41 σ.lv = true) : 1 ≤ σ.lv := by
  unfold Tx.goes at hg
  split at hg
  · rw [beq_iff_eq] at hg; exact absurd hg.symm (Tx.lt_no41 _)
  · split at hg
    · cases hg
    · simp only [Bool.and_eq_true, decide_eq_true_eq] at hg; exact hg.1
theorem cap_len (vs : List (Int × Int)) : ((min 65 vs.length : Nat) : Int) - 1 = capI ((vs.length : Int) - 1) := by
  unfold capI
  split <;> omega

set_option maxRecDepth 100000 in
set_option maxHeartbeats 1600000 in
theorem parse_anyL3 (s : ByteArray) (w : World) (hs : s.size ≤ 9223372036854775807) :
    Calls Tryd.prog 18 #[.string s] w (Parsed w (Tx.parse s.data.toList)) := by
  obtain ⟨i0, hi, hz0, hz1, hz2⟩ := info_parts info_vx
  have hlen := Lib.hid (show s.data.toList.length = s.size from Array.length_toList)
  go_enter Tryd.func18, Tryd.ntmps18
  go_wp2_with fail
  go_loopw [5, 7, 8] (fun t lv q wr => ∃ (pos : Nat) (σ : Tx.St), pos ≤ s.size ∧ Hid (SoFar s.data.toList σ pos) ∧ Hid (Here w s pos σ.vs σ.ab t wr) ∧ lv = .int .i64 σ.lv ∧ q = .int .i32 σ.q.toNat)
    (fun _ _ _ wr => s.size - wr.iterPos (w.heap.size + 1))
  case atStart => exact ⟨0, Tx.st0, Nat.zero_le _, Lib.hid (good0 _), Lib.hid (here0 w s), rfl, rfl⟩
  case round =>
    obtain ⟨pos, σ, hpos, hG, hH, rfl, rfl⟩ := hrel
    have hle := hG.out.inv.le
    have hit := Lib.hid hH.out.iter
    by_cases hp : pos < s.size
    · obtain ⟨c, hc⟩ : ∃ c, s[pos]'hp = c := ⟨_, rfl⟩
      have hd := Lib.hid (byte_at s pos hp)
      rw [hc] at hd
      by_cases ha : c.toNat < 128
      · have hnx : ∀ ty, (Instr.next (.pointer (some ⟨w.heap.size + 1, 0, none⟩)) true ty).run Tryd.prog wr = .ok (.tuple #[.bool true, .int .i64 pos, .int .i32 (c.toNat : Int)]) (wr.iterAt (w.heap.size + 1) s (pos + 1)) := fun ty => by
          rw [Lib.run_next_ascii_at wr (w.heap.size + 1) s pos ty hit.out hp (by rw [hc]; exact ha), hc]
        have hH1 := Lib.hid (hH.out.next (pos + 1))
        have hG1 := Lib.hid (goI_byte σ.q c σ.lv)
        clear hc
        cases hg : Tx.goes σ.q c σ.lv
        · have HS := Lib.hid (hG.out.stuck hd.out hg)
          have HB := Lib.hid ((hH.out.next (pos + 1)).below)
          rw [hg] at hG1
          clear hg
          go_wp2_with fail
          refine (goesOn_any _ _ σ.lv hle _).mono ?_
          rintro e w' ⟨rfl, rfl⟩
          rw [hG1.out]
          go_wp2_with fail
          go_ret3
          exact ⟨none, 0, by rw [HS.out]; rfl, by rw [HS.out]; exact VRow.nil _ _ _, HB.out⟩
        · have HG := Lib.hid (hG.out.next hd.out hg)
          by_cases h40 : c = 40
          · subst h40
            have hl2 : σ.lv ≤ 2 := by rcases opens_lv hG.out.inv hg with h | h <;> omega
            have HH := Lib.hid (hH1.out.push (σ.lv + 1) (by omega) ((σ.vs.length : Int) - 1))
            have HC := Lib.hid (cap_len σ.vs)
            obtain ⟨hc1, hc2⟩ := hH1.out.ab (σ.lv + 1) (by omega)
            have hown := hH1.out.own
            have ht : ∃ A cc, u5 = .slice A (σ.vs.take 65).length cc := own_form hown
            obtain ⟨A, cc, rfl⟩ := ht
            have h65 : min 65 σ.vs.length ≤ 65 := by omega
            have hG1 : Hid (goI (σ.q.toNat : Int) 40 σ.lv = true) := Lib.hid ((goI_byte σ.q 40 σ.lv).trans hg)
            clear hg
            go_wp2_with fail
            refine (goesOn_any _ _ σ.lv hle _).mono ?_
            rintro e w' ⟨rfl, rfl⟩
            rw [hG1.out]
            clear hown
            go_wp2_with fail
            go_roundw
            case rel => exact ⟨pos + 1, ⟨σ.vs, fun j => if j = σ.lv + 1 then (σ.vs.length : Int) - 1 else σ.ab j, σ.lv + 1, 40⟩, by omega, Lib.hid HG.out.adv40, Lib.hid (by have := HH.out; rw [← HC.out, List.length_take] at this; exact this), by go_num, rfl⟩
            case measure =>
              have e1 := HH.out.pos
              rw [← HC.out] at e1
              rw [e1, hH.out.pos]
              omega
          · by_cases h41 : c = 41
            · subst h41
              have hl1 : 1 ≤ σ.lv := shuts_lv hG.out.inv hg
              have hG1 : Hid (goI (σ.q.toNat : Int) 41 σ.lv = true) := Lib.hid ((goI_byte σ.q 41 σ.lv).trans hg)
              clear hg
              go_wp2_with fail
              refine (goesOn_any _ _ σ.lv hle _).mono ?_
              rintro e w' ⟨rfl, rfl⟩
              rw [hG1.out]
              go_wp2_with fail
              go_roundw
              case rel => exact ⟨pos + 1, ⟨σ.vs, σ.ab, σ.lv - 1, 41⟩, by omega, Lib.hid HG.out.adv41, hH1, by go_num, rfl⟩
              case measure =>
                rw [hH1.out.pos, hH.out.pos]
                omega
            · rw [adv_other h40 h41] at HG
              have k40 : ((c.toNat : Int) == 40) = false := (byte_eq c 40).trans (beq_eq_false_iff_ne.2 h40)
              have k41 : ((c.toNat : Int) == 41) = false := (byte_eq c 41).trans (beq_eq_false_iff_ne.2 h41)
              rw [hg] at hG1
              obtain ⟨hc1, hc2⟩ := hH1.out.ab σ.lv (by omega)
              have hown := hH1.out.own
              obtain ⟨A, cc, rfl⟩ : ∃ A cc, u5 = .slice A (σ.vs.take 65).length cc := own_form hown
              have hsz := hH1.out.size
              clear hg h40 h41 hc2
              by_cases h64 : σ.vs.length ≤ 64
              · have e65 : σ.vs.take 65 = σ.vs := List.take_of_length_le (by omega)
                rw [e65] at hown
                rw [hG.out.cap h64] at hc1
                have hH2 : Hid (Here w s (pos + 1) σ.vs σ.ab (.slice A σ.vs.length cc) (wr.iterAt (w.heap.size + 1) s (pos + 1))) := Lib.hid (by have := hH1.out; rw [e65] at this; exact this)
                have E65 := Lib.hid e65
                rw [e65]
                clear e65
                go_wp2_with fail
                refine (goesOn_any _ _ σ.lv hle _).mono ?_
                rintro e w' ⟨rfl, rfl⟩
                rw [hG1.out]
                go_wp2_with (at_builtin; refine wpList_append_own _ rfl _ _ 22 rfl (w.heap.size + 2) 78 i0 (.agg #[.int .i64 0, .int .i64 0]) 2 16 Tryd.underlying22 hi hz0 hz1 hz2 rfl (by decide) _ _ _ rfl (hown.alloc _) ⟨(wr.iterAt (w.heap.size + 1) s (pos + 1)).heap.size, 0, none⟩ 1 1 (vcells [(σ.ab σ.lv, (σ.lv : Int))]) rfl rfl ?c1 ?c2 ?c3 ?c4 ?c5 ?_)
                case c1 => exact two_cells _ _ _ _
                case c2 => exact vcells_one' _
                case c3 => unfold maxLen; omega
                case c4 => omega
                case c5 => simp; omega
                intro v' w2 hown2 hgr _
                go_wp2_with fail
                go_roundw
                case rel =>
                  exact ⟨pos + 1, _, by omega, HG, Lib.hid (hH2.out.grown E65.out h64 (fun k hk => (hown.lt k hk).1) hgr hown2), rfl, rfl⟩
                case measure =>
                  have e1 := (hH2.out.grown E65.out h64 (fun k hk => (hown.lt k hk).1) hgr hown2).pos
                  rw [e1, hH.out.pos]
                  omega
              · have e65 : (σ.vs ++ [(σ.ab σ.lv, (σ.lv : Int))]).take 65 = σ.vs.take 65 := by rw [List.take_append_of_le_length (by omega)]
                have hm : min 65 σ.vs.length = 65 := by omega
                have hHN : Hid (Here w s (pos + 1) (σ.vs ++ [(σ.ab σ.lv, (σ.lv : Int))]) σ.ab (.slice A (σ.vs.take 65).length cc) (wr.iterAt (w.heap.size + 1) s (pos + 1))) := Lib.hid ⟨hH1.out.ab, hH1.out.iter, by rw [e65]; exact hH1.out.own, hH1.out.below, hH1.out.size⟩
                have hl65 : (σ.vs.take 65).length = 65 := by rw [List.length_take, hm]
                rw [hl65] at hHN
                rw [hl65]
                clear e65 hown hl65 hm hc1
                go_wp2_with fail
                refine (goesOn_any _ _ σ.lv hle _).mono ?_
                rintro e w' ⟨rfl, rfl⟩
                rw [hG1.out]
                go_wp2_with fail
                go_roundw
                case rel => exact ⟨pos + 1, _, by omega, HG, hHN, rfl, rfl⟩
                case measure =>
                  rw [hH1.out.pos, hH.out.pos]
                  omega
      · have hgo : ∀ q l, Tx.goes q c l = false := fun q l => Tx.odd_no (by
          have k : ∀ b : UInt8, b.toNat < 128 → (c != b) = true := fun b hb => by rw [bne_iff_ne]; intro e; rw [e] at ha; exact ha hb
          unfold Tx.odd
          rw [k 109 (by decide), k 110 (by decide), k 99 (by decide), k 112 (by decide), k 40 (by decide), k 41 (by decide)]; rfl) q l
        obtain ⟨hr1, hr2⟩ := decode_high s pos hp (by rw [hc]; omega)
        have hr3 := decode_le s pos
        obtain ⟨r, n, hrn⟩ : ∃ r n, Utf8.decode s pos = (r, n) := ⟨_, _, rfl⟩
        rw [hrn] at hr1 hr2 hr3
        have hnx : ∀ ty, (Instr.next (.pointer (some ⟨w.heap.size + 1, 0, none⟩)) true ty).run Tryd.prog wr = .ok (.tuple #[.bool true, .int .i64 pos, .int .i32 (r : Int)]) (wr.iterAt (w.heap.size + 1) s (pos + n)) := fun ty => by
          rw [Lib.run_next_any_at wr (w.heap.size + 1) s pos ty hit.out hp, hrn]
        have HS := Lib.hid (hG.out.stuck hd.out (hgo _ _))
        have HB := Lib.hid ((hH.out.next (pos + n)).below)
        have hG1 := Lib.hid (goI_high (σ.q.toNat : Int) (r : Int) σ.lv (by simp only at hr1; omega))
        clear hc hgo hrn hr1 hr2 hr3
        go_wp2_with fail
        refine (goesOn_any _ _ σ.lv hle _).mono ?_
        rintro e w' ⟨rfl, rfl⟩
        rw [hG1.out]
        go_wp2_with fail
        go_ret3
        exact ⟨none, 0, by rw [HS.out]; rfl, by rw [HS.out]; exact VRow.nil _ _ _, HB.out⟩
    · have hpe : s.data.toList.length ≤ pos := by rw [hlen.out]; omega
      have hnx : ∀ ty, (Instr.next (.pointer (some ⟨w.heap.size + 1, 0, none⟩)) true ty).run Tryd.prog wr = .ok (.tuple #[.bool false]) wr := fun ty => Lib.run_next_end_at wr (w.heap.size + 1) s pos ty hit.out hp
      by_cases h0 : σ.lv = 0
      · have hown := hH.out.own
        obtain ⟨A, cc, rfl⟩ : ∃ A cc, u5 = .slice A (σ.vs.take 65).length cc := own_form hown
        have hrow := VRow.of_own hown
        have hfit := Lib.hid hG.out.fit
        have hbe := hH.out.below
        have hb65 : (σ.vs.take 65).length ≤ 9223372036854775807 := by rw [List.length_take]; omega
        rw [h0]
        obtain ⟨n65, hn65⟩ : ∃ n65, (σ.vs.take 65).length = n65 := ⟨_, rfl⟩
        have HN := Lib.hid hn65
        rw [hn65] at hb65 ⊢
        cases hm : Tp.may σ.vs
        · have HS := Lib.hid (hG.out.no hpe (fun h => by rw [h.2] at hm; cases hm))
          have HM := Lib.hid (show Tp.errno (Tp.may (σ.vs.take 65)) = 2 by rw [may_cut, hm]; rfl)
          clear hm hown h0 hn65 hpe
          go_wp2_with fail
          refine (check_any A n65 cc (σ.vs.take 65) _ HN hb65 hfit hrow).mono ?_
          rintro e w' ⟨rfl, hb⟩
          rw [HM.out]
          go_wp2_with fail
          go_ret3
          exact ⟨none, 0, by rw [HS.out, hlen.out]; rfl, by rw [HS.out]; exact VRow.nil _ _ _, hbe.trans (hb.mono hbe.size)⟩
        · have HS := Lib.hid (hG.out.yes hpe ⟨h0, hm⟩)
          have HM := Lib.hid (show Tp.errno (Tp.may (σ.vs.take 65)) = 0 by rw [may_cut, hm]; rfl)
          have E65 := Lib.hid (show σ.vs.take 65 = σ.vs from List.take_of_length_le (by have := ((Tp.tree_iff _).1 hm).few; omega))
          clear hm hown h0 hn65 hpe
          go_wp2_with fail
          refine (check_any A n65 cc (σ.vs.take 65) _ HN hb65 hfit hrow).mono ?_
          rintro e w' ⟨rfl, hb⟩
          rw [HM.out]
          go_wp2_with fail
          go_ret3
          refine ⟨A, cc, ?_, ?_, hbe.trans (hb.mono hbe.size)⟩
          · rw [HS.out, ← HN.out, E65.out]; rfl
          · rw [HS.out]
            rw [E65.out] at hrow
            exact (hrow.below hb).more hb.size
      · have hn0 : ((σ.lv : Int) != 0) = true := by rw [bne_iff_ne]; omega
        have HS := Lib.hid (hG.out.no hpe (fun h => h0 h.1))
        have HB := Lib.hid hH.out.below
        clear h0 hpe
        go_wp2_with fail
        go_ret3
        exact ⟨none, 0, by rw [HS.out, hlen.out]; rfl, by rw [HS.out]; exact VRow.nil _ _ _, HB.out⟩
end Go.Proofs.YtcoccegmkcdeiaaDoor

