/- The document's Ahead and Drop; the law's same: by their contracts. -/
import Derived.Test.YtjcljdehhckaeaaHPush
import Derived.Deep.QuietTactic
import Derived.BigQuiet
namespace Go.Proofs.Ytjcljdehhckaeaa
open Go.RowKit
set_option linter.unusedVariables false

theorem info_rtm : (Try.prog.info? 35).map (fun i => (i.zero, i.size, i.bytes)) = some (some (.agg #[.int .i64 0, .int .i64 0, .int .i64 0]), 3, 24) := by kernel_rfl
/-- Timers appended to a row of the call's own. -/
theorem run_append_tm (w : World) (ty : TypeId) (base : Nat) (v : Value) (n : Nat) (xs : List Hp.Tm) (hown : w.ownsRow base 35 3 v n (tcells xs))
    (A : Option Addr) (m c : Nat) (ts : List Hp.Tm) (h : TR w A m c ts) (hb : n + m ≤ 1000000) (hbase : base ≤ w.heap.size) :
    ∃ v' w', (Builtin.append_ #[28, 28] ty #[v, .slice A m c]).run Try.prog w = .ok v' w' ∧ w'.ownsRow base 35 3 v' (n + m) (tcells (xs ++ ts)) ∧ w.grownBy w' v.ownBlock := by
  obtain ⟨i0, hi, hz0, hz1, hz2⟩ := info_parts3 info_rtm
  have hm := h.len
  cases A with
  | none =>
    have hc := h.nil rfl
    have hcap := h.cap
    subst hc
    have hm0 : m = 0 := by omega
    subst hm0
    obtain rfl := List.length_eq_zero_iff.1 hm
    exact ⟨v, w, run_append_owned_none (P := Try.prog) w base 28 ty 35 i0 3 Try.underlying28 hi v n _ hown, by rw [List.append_nil, Nat.add_zero]; exact hown, World.grownBy.refl w _⟩
  | some ad =>
    have hcells : ∀ j u, (tcells ts)[j]? = some u → w.cell? (ad.add j) = some u := by
      cases ts with
      | nil => intro j u hj; simp [tcells] at hj
      | cons y ys =>
        obtain ⟨b, off, e, _⟩ := h.row 0 y rfl
        injection e with e
        subst e
        exact h.tcells
    obtain ⟨v', w', h1, h2, h3, _⟩ := run_append_own (P := Try.prog) w base 28 ty 35 i0 _ 3 24 Try.underlying28 hi hz0 hz1 hz2 rfl (by decide) v n _ hown ad m c _ (by rw [tcells_length, hm]) hcells (tcells_one ts) (by unfold maxLen; omega) (by omega) hbase
    exact ⟨v', w', h1, by rw [tcells_append]; exact h2, h3⟩
theorem wpList_append_tm {w : World} {ops : Array Oper} {rest : List Oper} {o : Oper} {a : Act} {Q : Exit → Act → World → Prop} (hgd : o.guard = none) (s x : Operand)
    (ho : o.op = .call { callee := .builtin .append, args := #[s, x], argTypes := #[28, 28] })
    (base : Nat) (v : Value) (n : Nat) (xs : List Hp.Tm) (hs : a.eval s = v) (hown : w.ownsRow base 35 3 v n (tcells xs))
    (A : Option Addr) (m c : Nat) (ts : List Hp.Tm) (hx : a.eval x = .slice A m c) (h : TR w A m c ts) (hb : n + m ≤ 1000000) (hbase : base ≤ w.heap.size)
    (hK : ∀ v' w', w'.ownsRow base 35 3 v' (n + m) (tcells (xs ++ ts)) → w.grownBy w' v.ownBlock → wpList Try.prog ops Q rest (a.put o.dst v') w') : wpList Try.prog ops Q (o :: rest) a w := by
  obtain ⟨v', w', hr, h2, h3⟩ := run_append_tm w o.type base v n xs hown A m c ts h hb hbase
  refine wpList_plain hgd fun K hK' => ?_
  unfold Oper.wp
  simp [execOp, ho, resolve, invoke, builtin, hs, hx, hr, Result.andThen]
  exact hK' _ _ (hK v' w' h2 h3)
/-- One timer in a block of its own, as a row. -/
theorem tr_one (w : World) (x1 x2 x3 : Int) (T : TypeId) : TR (w.alloc (.cells #[.int .i64 x1, .int .i64 x2, .int .i64 x3] T)) (some ⟨w.heap.size, 0, none⟩) 1 1 [(x1, x2, x3)] := by
  have ho : (w.alloc (.cells #[.int .i64 x1, .int .i64 x2, .int .i64 x3] T)).ownsRow w.heap.size T 3 (.slice (some ⟨w.heap.size, 0, none⟩) 1 1) 1 (tcells [(x1, x2, x3)]) :=
    ⟨rfl, .inr ⟨w.heap.size, 1, _, rfl, Nat.le_refl _, heap_alloc_new w _, Nat.le_refl _, by unfold maxLen; omega, rfl, rfl⟩⟩
  obtain ⟨A, c, e, hr, _⟩ := TR.of_own ho
  injection e with e1 e2 e3
  subst e1 e3
  exact hr
set_option maxHeartbeats 1000000 in
theorem ahead_any (x1 x2 x3 y1 y2 y3 : Int) (w : World) : Calls Try.prog 21 #[.agg #[.int .i64 x1, .int .i64 x2, .int .i64 x3], .agg #[.int .i64 y1, .int .i64 y2, .int .i64 y3]] w fun e w' => e = .returned (.bool (decide (Hp.Lt (x1, x2, x3) (y1, y2, y3)))) ∧ Below w.heap.size w w' := by
  by_cases h1 : x1 = y1
  · by_cases h2 : x2 = y2
    · have t1 : (x1 != y1) = false := by simp [h1]
      have t2 : (x2 != y2) = false := by simp [h2]
      have hd : decide (Hp.Lt (x1, x2, x3) (y1, y2, y3)) = decide (x3 < y3) := by unfold Hp.Lt; simp [h1, h2]
      rw [hd]
      clear h1 h2 hd
      go_enter Try.func21, Try.ntmps21
      go_wp2_with fail
      go_ret
      exact ⟨rfl, (below_new _ _).trans ((below_new _ _).mono (by simp))⟩
    · have t1 : (x1 != y1) = false := by simp [h1]
      have t2 : (x2 != y2) = true := by simp [h2]
      have hd : decide (Hp.Lt (x1, x2, x3) (y1, y2, y3)) = decide (x2 < y2) := by unfold Hp.Lt; simp [h1, h2]
      rw [hd]
      clear h1 h2 hd
      go_enter Try.func21, Try.ntmps21
      go_wp2_with fail
      go_ret
      exact ⟨rfl, (below_new _ _).trans ((below_new _ _).mono (by simp))⟩
  · have t1 : (x1 != y1) = true := by simp [h1]
    have hd : decide (Hp.Lt (x1, x2, x3) (y1, y2, y3)) = decide (x1 < y1) := by unfold Hp.Lt; simp [h1]
    rw [hd]
    clear h1 hd
    go_enter Try.func21, Try.ntmps21
    go_wp2_with fail
    go_ret
    exact ⟨rfl, (below_new _ _).trans ((below_new _ _).mono (by simp))⟩
set_option maxHeartbeats 1000000 in
theorem refDrop_any (A : Option Addr) (n c : Nat) (ts : List Hp.Tm) (g : Int) (w : World) (h : TR w A n c ts) (hl : n ≤ 1000000) :
    Calls Try.prog 15 #[.slice A n c, .int .i64 g] w (MadeT w (Hp.others ts g)) := by
  have H := Lib.hid h
  have hlen := h.len
  clear h
  go_enter Try.func15, Try.ntmps15
  go_wp2_with fail
  go_loopw [5, 6] (fun v i wr => ∃ k m : Nat, k ≤ n ∧ i = .int .i64 k ∧ m ≤ k ∧ wr.ownsRow w.heap.size 35 3 v m (tcells (Hp.others (ts.take k) g)) ∧ Hid (Below w.heap.size w wr)) (fun _ i _ => n - (intOf i).toNat)
  case atStart => exact ⟨0, 0, Nat.zero_le _, rfl, Nat.le_refl _, World.ownsRow_nil _ _ _ _, Lib.hid (Below.refl _ _)⟩
  case round =>
    obtain ⟨i, m, hi, rfl, hm, hown, HW⟩ := hrel
    by_cases hlt : i < n
    · obtain ⟨x, hx⟩ : ∃ x, ts[i]? = some x := ⟨_, List.getElem?_eq_getElem (by omega)⟩
      obtain ⟨b, off, rfl, _, hc⟩ := H.out.cells (by omega)
      obtain ⟨c0, c1, c2⟩ := hc i x hx
      have c0 := keepcell HW.out c0
      have c1 := keepcell HW.out c1
      have c2 := keepcell HW.out c2
      have hot := Hp.others_take hx g
      obtain ⟨x1, x2, x3⟩ := x
      simp only at c0 c1 c2 hot
      have i0 : (0 : Int) ≤ (i : Int) := by omega
      have i1 : (i : Int) < (n : Int) := by omega
      have HO := Lib.hid hown
      obtain ⟨A1, q1, rfl, _, _⟩ := TR.of_own hown
      clear hc hx hown
      by_cases hgx : x3 = g
      · have t1 : (x3 != g) = false := by simp [hgx]
        rw [if_pos hgx] at hot
        have HO1 := Lib.hid (show wr.ownsRow w.heap.size 35 3 (.slice A1 m q1) m (tcells (Hp.others (ts.take (i + 1)) g)) by rw [hot]; exact HO.out)
        clear hot hgx
        go_wp2_with fail
        go_roundw
        case rel => exact ⟨i + 1, m, by omega, by go_num, by omega, HO1.out, HW⟩
        case measure => simp [intOf]; omega
      · have t1 : (x3 != g) = true := by simp [hgx]
        rw [if_neg hgx] at hot
        have HT := Lib.hid hot
        have hb1 := below_new wr (.cells #[.int .i64 x1, .int .i64 x2, .int .i64 x3] 35)
        have HB1 := Lib.hid (HW.out.trans (hb1.mono HW.out.size))
        have HO1 := Lib.hid (own_below HO.out hb1)
        have HS := HW.out.size
        clear hot hgx hb1
        go_wp2_with (refine wpList_append_tm (by rfl) _ _ (by rfl) w.heap.size (.slice A1 m q1) m (Hp.others (ts.take i) g) (by rfl) HO1.out (some ⟨wr.heap.size, 0, none⟩) 1 1 [(x1, x2, x3)] (by rfl) (tr_one wr x1 x2 x3 _) (by omega) (by simp; omega) ?_; intro v' w' ho hg)
        have HB2 := Lib.hid (HB1.out.grown hg (by simp; omega) (fun k e => (HO.out.lt k e).1))
        rw [← HT.out] at ho
        go_roundw
        case rel => exact ⟨i + 1, m + 1, by omega, by go_num, by omega, ho, HB2⟩
        case measure => simp [intOf]; omega
    · obtain rfl : i = n := by omega
      rw [List.take_of_length_le (by omega)] at hown
      obtain ⟨A1, q1, rfl, hr1, hf1⟩ := TR.of_own hown
      clear hown
      go_wp2_with fail
      go_ret
      exact ⟨_, _, _, rfl, hr1, hf1, HW.out⟩
end Go.Proofs.Ytjcljdehhckaeaa

