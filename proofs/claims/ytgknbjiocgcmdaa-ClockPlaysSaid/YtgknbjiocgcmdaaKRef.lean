/- The document's rows of sleepers; Who, by its contract. -/
import Derived.Test.YtgknbjiocgcmdaaPR
import Derived.Test.YtgknbjiocgcmdaaCel2
import Derived.Test.YtgknbjiocgcmdaaKPlain
import Derived.Deep.AppendLies
import Derived.Deep.RegionLaw
import Derived.Laws.OwnMore
namespace Go.Proofs.Ytgknbjiocgcmdaa
open Go.RowKit
set_option linter.unusedVariables false

theorem info_one : (Try.prog.info? 64).map (fun i => (i.zero, i.size, i.bytes)) = some (some (.agg #[.int .i64 0, .int .i64 0]), 2, 16) := by kernel_rfl
theorem run_append_one (w : World) (ty : TypeId) (base : Nat) (v : Value) (n : Nat) (xs : List Kp.On) (hown : w.ownsRow base 64 2 v n (vcells xs))
    (A : Option Addr) (m c : Nat) (vs : List Kp.On) (h : PR w A m c vs) (hb : n + m ≤ 1000000) (hbase : base ≤ w.heap.size) :
    ∃ v' w', (Builtin.append_ #[30, 30] ty #[v, .slice A m c]).run Try.prog w = .ok v' w' ∧ w'.ownsRow base 64 2 v' (n + m) (vcells (xs ++ vs)) ∧ w.grownBy w' v.ownBlock := by
  obtain ⟨i0, hi, hz0, hz1, hz2⟩ := info_parts info_one
  have hm := h.len
  have hr := h.row
  cases A with
  | none =>
    have hc := h.nil rfl
    have hcap := h.cap
    subst hc
    have hm0 : m = 0 := by omega
    subst hm0
    have hv : vs = [] := List.length_eq_zero_iff.1 hm
    subst hv
    exact ⟨v, w, run_append_owned_none (P := Try.prog) w base 30 ty 64 i0 2 Try.underlying30 hi v n _ hown, by rw [List.append_nil, Nat.add_zero]; exact hown, World.grownBy.refl w _⟩
  | some ad =>
    have hcells : ∀ j u, (vcells vs)[j]? = some u → w.cell? (ad.add j) = some u := by
      cases vs with
      | nil => intro j u hj; simp [vcells] at hj
      | cons y ys =>
        obtain ⟨b, off, e, _⟩ := hr 0 y rfl
        injection e with e
        subst e
        exact hr.cells
    obtain ⟨v', w', h1, h2, h3, _⟩ := run_append_own (P := Try.prog) w base 30 ty 64 i0 _ 2 16 Try.underlying30 hi hz0 hz1 hz2 rfl (by decide) v n _ hown ad m c _ (by rw [vcells_length, hm]) hcells (vcells_one' vs) (by unfold maxLen; omega) (by omega) hbase
    exact ⟨v', w', h1, by rw [vcells_append]; exact h2, h3⟩
theorem wpList_append_one {w : World} {ops : Array Oper} {rest : List Oper} {o : Oper} {a : Act} {Q : Exit → Act → World → Prop} (hgd : o.guard = none) (s x : Operand)
    (ho : o.op = .call { callee := .builtin .append, args := #[s, x], argTypes := #[30, 30] })
    (base : Nat) (v : Value) (n : Nat) (xs : List Kp.On) (hs : a.eval s = v) (hown : w.ownsRow base 64 2 v n (vcells xs))
    (A : Option Addr) (m c : Nat) (vs : List Kp.On) (hx : a.eval x = .slice A m c) (h : PR w A m c vs) (hb : n + m ≤ 1000000) (hbase : base ≤ w.heap.size)
    (hK : ∀ v' w', w'.ownsRow base 64 2 v' (n + m) (vcells (xs ++ vs)) → w.grownBy w' v.ownBlock → wpList Try.prog ops Q rest (a.put o.dst v') w') : wpList Try.prog ops Q (o :: rest) a w := by
  obtain ⟨v', w', hr, h2, h3⟩ := run_append_one w o.type base v n xs hown A m c vs h hb hbase
  refine wpList_plain hgd fun K hK' => ?_
  unfold Oper.wp
  simp [execOp, ho, resolve, invoke, builtin, hs, hx, hr, Result.andThen]
  exact hK' _ _ (hK v' w' h2 h3)
theorem own_base1 {w : World} {b1 b2 n size : Nat} {e : TypeId} {v : Value} {xs : List Value} (h : w.ownsRow b1 e size v n xs) (hb : b2 ≤ b1) : w.ownsRow b2 e size v n xs := by
  refine ⟨h.1, ?_⟩
  rcases h.2 with h0 | ⟨g, cap, cur, e1, hg, h3⟩
  · exact .inl h0
  · exact .inr ⟨g, cap, cur, e1, Nat.le_trans hb hg, h3⟩
theorem ids_take {S : List Kp.On} {k : Nat} {o : Kp.On} (h : S[k]? = some o) : Kp.ids (S.take (k + 1)) = Kp.ids (S.take k) ++ [o.1] := by
  rw [List.take_add_one, h, Kp.ids_append]
  rfl
set_option maxHeartbeats 1000000 in
theorem refWho_any (now : Int) (A : Option Addr) (n c : Nat) (S : List Kp.On) (w : World) (h : PR w A n c S) (hl : n ≤ 100000) :
    Calls Try.prog 19 #[.agg #[.int .i64 now, .slice A n c]] w (MadeO w (Kp.ids S)) := by
  have H := Lib.hid h
  have hlen := h.len
  have hcap := h.cap
  have hmost := h.most
  have C0 := Lib.hid (Cel2.new w (.int .i64 now) (.slice A n c) 32)
  have B0 := Lib.hid (below_new w (.cells #[.int .i64 now, .slice A n c] 32))
  clear h
  go_enter Try.func19, Try.ntmps19
  go_wp2_with fail
  go_loopw [3, 4] (fun v i wr => ∃ k : Nat, k ≤ n ∧ i = .int .i64 k ∧ Hid (wr.ownsRow (w.heap.size + 1) 3 1 v k ((Kp.ids (S.take k)).map (Value.int .i64))) ∧ Hid (Below w.heap.size w wr) ∧ Hid (Cel2 wr w.heap.size (.int .i64 now) (.slice A n c))) (fun _ i _ => n - (intOf i).toNat)
  case atStart => exact ⟨0, Nat.zero_le _, rfl, Lib.hid (World.ownsRow_nil _ _ _ _), B0, C0⟩
  case round =>
    clear B0 C0
    obtain ⟨k, hk, rfl, HO, HB, HC⟩ := hrel
    obtain ⟨A1, q1, rfl, _, _⟩ := Row.of_own' HO.out
    have d1 := HC.out.c1
    by_cases hlt : k < n
    · obtain ⟨x, hx⟩ : ∃ x, S[k]? = some x := ⟨_, List.getElem?_eq_getElem (by omega)⟩
      obtain ⟨g, off, rfl, _, hc⟩ := (H.out.below HB.out).cells (by omega)
      obtain ⟨c0, c1⟩ := hc k x hx
      have HT := Lib.hid (ids_take hx)
      obtain ⟨x1, x2⟩ := x
      simp only at c0 c1 HT
      have hb3 := below_new wr (.cells #[.int .i64 x1] 3)
      have i0 : (0 : Int) ≤ (k : Int) := by omega
      have i1 : (k : Int) < (n : Int) := by omega
      have HB3 := Lib.hid (HB.out.trans (hb3.mono HB.out.size))
      have HO3 := Lib.hid (own_below HO.out hb3)
      have HC3 := Lib.hid (HC.out.step hb3)
      have HR := Lib.hid (row_at wr x1 wr.heap.size rfl)
      clear hc hx hb3 HO
      go_wp2_with (at_builtin; refine wpList_append_row rfl _ _ rfl (w.heap.size + 1) _ k _ rfl HO3.out _ 1 1 [x1] rfl HR.out (by omega) HC3.out.lt ?_; intro v' w2 hown2 hg)
      have HO4 := Lib.hid (show w2.ownsRow (w.heap.size + 1) 3 1 v' (k + 1) ((Kp.ids (S.take (k + 1))).map (Value.int .i64)) by rw [HT.out]; exact hown2)
      have HB4 := Lib.hid (HB3.out.grown hg HB3.out.size (fun j hj => by have := (HO3.out.lt j hj).1; omega))
      have HC4 := Lib.hid (HC3.out.grown hg (fun e => by have := (HO3.out.lt _ e.symm).1; omega))
      clear hown2 hg HO3 HR HC3 HB3 HC HB c0 c1 d1
      go_wp2_with fail
      go_roundw
      case rel => exact ⟨k + 1, by omega, by go_num, HO4, HB4, HC4⟩
      case measure => simp [intOf]; omega
    · obtain rfl : k = n := by omega
      have HT := Lib.hid (show Kp.ids (S.take k) = Kp.ids S by rw [List.take_of_length_le (by omega)])
      clear hlt hk
      go_wp2_with fail
      go_ret
      exact ⟨_, k, rfl, by rw [← HT.out]; exact own_base1 HO.out (Nat.le_succ _), HB.out⟩
end Go.Proofs.Ytgknbjiocgcmdaa

