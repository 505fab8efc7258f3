/- gs: those whose timers these are, by its contract; timers appended to a row of the call's own; one timer as a row. -/
import Derived.Test.YtgknbjiocgcmdaaHPop
import Derived.Test.YtgknbjiocgcmdaaRApp
import Derived.Test.YtgknbjiocgcmdaaKPlain
namespace Go.Proofs.Ytgknbjiocgcmdaa
open Go.RowKit
set_option linter.unusedVariables false

/-- Timers appended to a row of the call's own. -/
theorem run_append_ht (w : World) (ty : TypeId) (base : Nat) (v : Value) (n : Nat) (xs : List Hp.Tm) (hown : w.ownsRow base 62 3 v n (tcells xs))
    (A : Option Addr) (m c : Nat) (ts : List Hp.Tm) (h : TR w A m c ts) (hb : n + m ≤ 1000000) (hbase : base ≤ w.heap.size) :
    ∃ v' w', (Builtin.append_ #[25, 25] ty #[v, .slice A m c]).run Try.prog w = .ok v' w' ∧ w'.ownsRow base 62 3 v' (n + m) (tcells (xs ++ ts)) ∧ w.grownBy w' v.ownBlock := by
  obtain ⟨i0, hi, hz0, hz1, hz2⟩ := info_parts3 info_tm
  have hm := h.len
  cases A with
  | none =>
    have hc := h.nil rfl
    have hcap := h.cap
    subst hc
    have hm0 : m = 0 := by omega
    subst hm0
    obtain rfl := List.length_eq_zero_iff.1 hm
    exact ⟨v, w, run_append_owned_none (P := Try.prog) w base 25 ty 62 i0 3 Try.underlying25 hi v n _ hown, by rw [List.append_nil, Nat.add_zero]; exact hown, World.grownBy.refl w _⟩
  | some ad =>
    have hcells : ∀ j u, (tcells ts)[j]? = some u → w.cell? (ad.add j) = some u := by
      cases ts with
      | nil => intro j u hj; simp [tcells] at hj
      | cons y ys =>
        obtain ⟨b, off, e, _⟩ := h.row 0 y rfl
        injection e with e
        subst e
        exact h.tcells
    obtain ⟨v', w', h1, h2, h3, _⟩ := run_append_own (P := Try.prog) w base 25 ty 62 i0 _ 3 24 Try.underlying25 hi hz0 hz1 hz2 rfl (by decide) v n _ hown ad m c _ (by rw [tcells_length, hm]) hcells (tcells_one ts) (by unfold maxLen; omega) (by omega) hbase
    exact ⟨v', w', h1, by rw [tcells_append]; exact h2, h3⟩
theorem wpList_append_ht {w : World} {ops : Array Oper} {rest : List Oper} {o : Oper} {a : Act} {Q : Exit → Act → World → Prop} (hgd : o.guard = none) (s x : Operand)
    (ho : o.op = .call { callee := .builtin .append, args := #[s, x], argTypes := #[25, 25] })
    (base : Nat) (v : Value) (n : Nat) (xs : List Hp.Tm) (hs : a.eval s = v) (hown : w.ownsRow base 62 3 v n (tcells xs))
    (A : Option Addr) (m c : Nat) (ts : List Hp.Tm) (hx : a.eval x = .slice A m c) (h : TR w A m c ts) (hb : n + m ≤ 1000000) (hbase : base ≤ w.heap.size)
    (hK : ∀ v' w', w'.ownsRow base 62 3 v' (n + m) (tcells (xs ++ ts)) → w.grownBy w' v.ownBlock → wpList Try.prog ops Q rest (a.put o.dst v') w') : wpList Try.prog ops Q (o :: rest) a w := by
  obtain ⟨v', w', hr, h2, h3⟩ := run_append_ht w o.type base v n xs hown A m c ts h hb hbase
  refine wpList_plain hgd fun K hK' => ?_
  unfold Oper.wp
  simp [execOp, ho, resolve, invoke, builtin, hs, hx, hr, Result.andThen]
  exact hK' _ _ (hK v' w' h2 h3)
/-- One timer in a block of its own, as a row. -/
theorem tr_new (w : World) (x1 x2 x3 : Int) (T : TypeId) : TR (w.alloc (.cells #[.int .i64 x1, .int .i64 x2, .int .i64 x3] T)) (some ⟨w.heap.size, 0, none⟩) 1 1 [(x1, x2, x3)] := by
  have ho : (w.alloc (.cells #[.int .i64 x1, .int .i64 x2, .int .i64 x3] T)).ownsRow w.heap.size T 3 (.slice (some ⟨w.heap.size, 0, none⟩) 1 1) 1 (tcells [(x1, x2, x3)]) :=
    ⟨rfl, .inr ⟨w.heap.size, 1, _, rfl, Nat.le_refl _, heap_alloc_new w _, Nat.le_refl _, by unfold maxLen; omega, rfl, rfl⟩⟩
  obtain ⟨A, c, e, hr, _⟩ := TR.of_own ho
  injection e with e1 e2 e3
  subst e1 e3
  exact hr
/-- Whose timers these are. -/
def who (ts : List Hp.Tm) : List Int := ts.map fun x => x.2.2
theorem who_take {ts : List Hp.Tm} {k : Nat} {x : Hp.Tm} (h : ts[k]? = some x) : who (ts.take (k + 1)) = who (ts.take k) ++ [x.2.2] := by
  unfold who
  rw [List.take_add_one, h, List.map_append]
  rfl
set_option maxHeartbeats 1000000 in
theorem gs_any (A : Option Addr) (n c : Nat) (ts : List Hp.Tm) (w : World) (h : TR w A n c ts) (hl : n ≤ 100000) :
    Calls Try.prog 24 #[.slice A n c] w (MadeO w (who ts)) := by
  have H := Lib.hid h
  have hlen := h.len
  have hcap := h.cap
  have hmost := h.most
  clear h
  go_enter Try.func24, Try.ntmps24
  go_wp2_with fail
  go_loopw [3, 8] (fun v i wr => ∃ k : Nat, k ≤ n ∧ i = .int .i64 k ∧ wr.ownsRow w.heap.size 3 1 v k ((who (ts.take k)).map (Value.int .i64)) ∧ Hid (Below w.heap.size w wr)) (fun _ i _ => n - (intOf i).toNat)
  case atStart => exact ⟨0, Nat.zero_le _, rfl, World.ownsRow_nil _ _ _ _, Lib.hid (Below.refl _ _)⟩
  case round =>
    obtain ⟨k, hk, rfl, hown, HB⟩ := hrel
    have HO := Lib.hid hown
    clear hown
    by_cases hlt : k < n
    · obtain ⟨x, hx⟩ : ∃ x, ts[k]? = some x := ⟨_, List.getElem?_eq_getElem (by omega)⟩
      obtain ⟨g, off, rfl, _, hc⟩ := H.out.cells (by omega)
      obtain ⟨c0, c1, c2⟩ := hc k x hx
      have HT := Lib.hid (who_take hx)
      obtain ⟨x1, x2, x3⟩ := x
      have c0 := keepcell HB.out c0
      have c1 := keepcell HB.out c1
      have c2 := keepcell HB.out c2
      simp only at c0 c1 c2 HT
      obtain ⟨W2, hW2, y0, y1, y2, yf, hb2⟩ := new3v wr (.int .i64 x1) (.int .i64 x2) (.int .i64 x3) 62
      have hb3 := hb2.trans ((below_new W2 (.cells #[.int .i64 x3] 3)).mono hb2.size)
      obtain ⟨A1, q1, rfl, _, _⟩ := Row.of_own' HO.out
      have i0 : (0 : Int) ≤ (k : Int) := by omega
      have i1 : (k : Int) < (n : Int) := by omega
      have HB3 := Lib.hid (HB.out.trans (hb3.mono HB.out.size))
      have HO3 := Lib.hid (own_below HO.out hb3)
      have HR := Lib.hid (row_at W2 x3 (wr.heap.size + 1) (by rw [hW2]; simp))
      subst hW2
      clear hc hx hb2 hb3 yf HO
      go_wp2_with (at_builtin; refine wpList_append_row rfl _ _ rfl w.heap.size _ k _ rfl HO3.out _ 1 1 [x3] rfl HR.out (by omega) HB3.out.size ?_; intro v' w2 hown2 hg)
      have HO4 := Lib.hid (show w2.ownsRow w.heap.size 3 1 v' (k + 1) ((who (ts.take (k + 1))).map (Value.int .i64)) by rw [HT.out]; exact hown2)
      have HB4 := Lib.hid (HB3.out.grown hg HB3.out.size (fun j hj => (HO3.out.lt j hj).1))
      clear hown2 hg HO3 HR c0 c1 c2 y0 y1 y2
      go_wp2_with fail
      go_roundw
      case rel => exact ⟨k + 1, by omega, by go_num, HO4.out, HB4⟩
      case measure => simp [intOf]; omega
    · obtain rfl : k = n := by omega
      have HT := Lib.hid (show who (ts.take k) = who ts by rw [List.take_of_length_le (by omega)])
      clear hlt hk
      go_wp2_with fail
      go_ret
      exact ⟨_, k, rfl, by rw [← HT.out]; exact HO.out, HB.out⟩
end Go.Proofs.Ytgknbjiocgcmdaa

