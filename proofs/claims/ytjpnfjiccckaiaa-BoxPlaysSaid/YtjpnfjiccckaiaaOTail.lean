/- A row that a law keeps for itself, of which it may have cut off the begin: cells that may be written as far as there is room, in a block of its own kind; one more appended. -/
import Derived.Test.YtjpnfjiccckaiaaRApp
namespace Go.Proofs.Ytjpnfjiccckaiaa
open Go.RowKit
set_option linter.unusedVariables false

/-- A row of the call's own (from block base on), or the rest of one. -/
structure Tk (w : World) (base : Nat) (A : Option Addr) (n c : Nat) (zs : List Int) : Prop where
  row : Row w A n c zs
  room : ∀ j, j < c → ∃ g off, A = some ⟨g, off, none⟩ ∧ base ≤ g ∧ (w.cell? ⟨g, off + j, none⟩).isSome = true ∧ w.frozen? ⟨g, off + j, none⟩ = false
  typ : ∀ ad, A = some ad → base ≤ ad.block ∧ ∃ cur, w.heap[ad.block]? = some (.cells cur 3 (0, 0))
theorem Tk.nothing (w : World) (base : Nat) : Tk w base none 0 0 [] := ⟨Row.nothing w, (fun j h => by omega), (fun ad e => by cases e)⟩
theorem Tk.below {w w' : World} {base : Nat} {A : Option Addr} {n c : Nat} {zs : List Int} (h : Tk w base A n c zs) (hb : Below w.heap.size w w') : Tk w' base A n c zs := by
  refine ⟨h.row.below hb, fun j hj => ?_, fun ad e => ?_⟩
  · obtain ⟨g, off, e, hg, h1, h2⟩ := h.room j hj
    obtain ⟨u, hu⟩ := Option.isSome_iff_exists.1 h1
    exact ⟨g, off, e, hg, by rw [keepcell hb hu]; rfl, keepfree hb hu h2⟩
  · obtain ⟨h1, cur, h2⟩ := h.typ ad e
    exact ⟨h1, cur, (hb.block _ (Array.getElem?_eq_some_iff.1 h2).1).trans h2⟩
theorem Tk.step {w w' : World} {base : Nat} {A : Option Addr} {n c : Nat} {zs : List Int} (h : Tk w base A n c zs) (hb : Below w.heap.size w w') : Tk w' base A n c zs := h.below hb
theorem Tk.set {w : World} {base X j : Nat} {A : Option Addr} {n c : Nat} {zs : List Int} {u : Value} (h : Tk w base A n c zs) (hX : X < base) : Tk (w.setCell ⟨X, j, Option.none⟩ u) base A n c zs := by
  refine ⟨⟨h.row.len, h.row.cap, h.row.most, h.row.nil, fun i z hi => ?_⟩, fun i hi => ?_, fun ad e => ?_⟩
  · have hl := (List.getElem?_eq_some_iff.1 hi).1
    have hc := h.row.cap
    have hlen := h.row.len
    obtain ⟨g, off, e, hg, _⟩ := h.room i (by omega)
    obtain ⟨b, o, e', hb, hcell⟩ := h.row.row i z hi
    rw [e] at e'
    injection e' with e'
    injection e' with e1 e2
    subst e1 e2
    exact ⟨g, off, e, by simpa [World.setCell] using hb, (World.cell?_setCell_other _ _ _ _ (fun e => by injection e with e; omega)).trans hcell⟩
  · obtain ⟨g, off, e, hg, h1, h2⟩ := h.room i hi
    refine ⟨g, off, e, hg, ?_, ?_⟩
    · rw [World.cell?_setCell_other _ _ _ _ (fun e => by injection e with e; omega)]; exact h1
    · rw [World.frozen?_setCell]; exact h2
  · obtain ⟨h1, cur, h2⟩ := h.typ ad e
    exact ⟨h1, cur, (Below.heap_setCell w ⟨X, j, Option.none⟩ u _ (by simp only; omega)).trans h2⟩
theorem Tk.put {w : World} {base b : Nat} {A : Option Addr} {n c : Nat} {zs : List Int} {u v x y : Value} (h : Tk w base A n c zs) (hb : b < base) : Tk ((((w.setCell ⟨b, 0, none⟩ u).setCell ⟨b, 1, none⟩ v).setCell ⟨b, 2, none⟩ x).setCell ⟨b, 3, none⟩ y) base A n c zs := (((h.set hb).set hb).set hb).set hb
/-- The begin is cut off. -/
theorem Tk.slice {w : World} {base b off n c : Nat} {zs : List Int} (h : Tk w base (some ⟨b, off, Option.none⟩) n c zs) (k : Nat) (hk : k ≤ n) : Tk w base (if c = k then some ⟨b, off, Option.none⟩ else some ⟨b, off + k, Option.none⟩) (n - k) (c - k) (zs.drop k) := by
  refine ⟨h.row.slice k hk, fun j hj => ?_, fun ad e => by
    obtain ⟨h1, cur, h2⟩ := h.typ _ rfl
    split at e <;> (injection e with e; subst e; exact ⟨h1, cur, h2⟩)⟩
  rw [if_neg (by omega)]
  obtain ⟨g, o, e, hg, h1, h2⟩ := h.room (k + j) (by omega)
  injection e with e
  injection e with e1 e2
  subst e1 e2
  exact ⟨b, off + k, rfl, hg, by rw [Nat.add_assoc]; exact h1, by rw [Nat.add_assoc]; exact h2⟩
theorem Tk.lt {w : World} {base k off n c : Nat} {zs : List Int} (h : Tk w base (some ⟨k, off, none⟩) n c zs) (hc : 0 < c) : base ≤ k ∧ k < w.heap.size := by
  obtain ⟨g, o, e, hg, h1, _⟩ := h.room 0 hc
  injection e with e
  injection e with e1 e2
  subst e1 e2
  obtain ⟨u, hu⟩ := Option.isSome_iff_exists.1 h1
  exact ⟨hg, World.block_lt_of_cell? w ⟨k, off + 0, none⟩ hu⟩
theorem Tk.of_own {w : World} {base n : Nat} {v : Value} {zs : List Int} (h : w.ownsRow base 3 1 v n (zs.map (Value.int .i64))) : ∃ A c, v = .slice A n c ∧ Tk w base A n c zs := by
  rcases h.2 with ⟨rfl, rfl⟩ | ⟨g, cap, cur, rfl, hg, hcur, h1, h2, h3, _⟩
  · exact ⟨none, 0, rfl, by
      have hl := own_len h
      have : zs = [] := List.length_eq_zero_iff.1 hl
      subst this
      exact Tk.nothing w base⟩
  · obtain ⟨A, c, e, hr⟩ := Row.of_own h
    injection e with e1 e2 e3
    subst e1 e3
    refine ⟨_, _, rfl, hr, fun j hj => ⟨g, 0, rfl, hg, ?_, ?_⟩, fun ad e => by injection e with e; subst e; exact ⟨hg, cur, hcur⟩⟩
    · rw [Nat.zero_add]
      simp only [World.cell?, hcur]
      simp
      omega
    · simp [World.frozen?, hcur]
theorem run_append_tk (w : World) (ty : TypeId) (base : Nat) (A : Option Addr) (n c : Nat) (zs : List Int) (x : Int) (h : Tk w base A n c zs) (Y : Nat) (hY : w.cell? ⟨Y, 0, none⟩ = some (.int .i64 x)) (hb : n ≤ 1000000) (hbase : base ≤ w.heap.size) :
    ∃ A' c' w', (Builtin.append_ #[24, 24] ty #[.slice A n c, .slice (some ⟨Y, 0, none⟩) 1 1]).run Try.prog w = .ok (.slice A' (n + 1) c') w' ∧ Tk w' base A' (n + 1) c' (zs ++ [x]) ∧ (∃ foot, w.grownBy w' foot ∧ ∀ k, foot = some k → 0 < c ∧ ∃ off, A = some ⟨k, off, none⟩) := by
  obtain ⟨i0, hi, hz0, hz1, hz2⟩ := info_parts info_int
  have hl := h.row.len
  have hcap := h.row.cap
  have hnews : ∀ j u, [Value.int .i64 x][j]? = some u → w.cell? ((⟨Y, 0, none⟩ : Addr).add j) = some u := by
    intro j u hj
    cases j with
    | zero => rw [add_lit']; simpa using hj ▸ hY
    | succ j => simp at hj
  have hone : ∀ u ∈ [Value.int .i64 x], u.oneCell' = true := by intro u hu; rw [List.mem_singleton] at hu; subst hu; rfl
  by_cases hroom : n + 1 ≤ c
  · obtain ⟨g, off, rfl, hg, h1, h2⟩ := h.room n (by omega)
    have hr := run_append_room_cells (P := Try.prog) w 24 ty 3 i0 Try.underlying24 hi g off n c ⟨Y, 0, none⟩ 1 1 [.int .i64 x] (by rw [hz1]; rfl) hnews hone hroom
      (by intro j hj; rw [hz1, Nat.mul_one]; obtain rfl : j = 0 := by simpa using hj
          exact h1)
      (by intro j hj; rw [hz1, Nat.mul_one]; obtain rfl : j = 0 := by simpa using hj
          exact h2)
    rw [hz1, Nat.mul_one] at hr
    refine ⟨_, _, _, hr, ⟨⟨by simp [hl], hroom, h.row.most, fun e => (by cases e), fun i z hiz => ?_⟩, fun j hj => ?_, fun ad e => ?_⟩, some g, ⟨rfl, rfl, rfl, by simp [World.setCells], fun k _ hk => ?_⟩, fun k e => by injection e with e; subst e; exact ⟨by omega, off, rfl⟩⟩
    · show ∃ b o, _ ∧ _ ∧ (w.setCell ⟨g, off + n, none⟩ (.int .i64 x)).cell? _ = _
      by_cases hin : i < n
      · rw [List.getElem?_append_left (by omega)] at hiz
        obtain ⟨b, o, e', hb', hcell⟩ := h.row.row i z hiz
        injection e' with e'
        injection e' with e1 e2
        subst e1 e2
        exact ⟨g, off, rfl, by simpa [World.setCells] using hb', (World.cell?_setCell_other _ _ _ _ (fun e => by injection e with _ e; omega)).trans hcell⟩
      · have hin2 : i = n := by
          have := (List.getElem?_eq_some_iff.1 hiz).1
          simp at this
          omega
        subst hin2
        rw [List.getElem?_append_right (by omega), hl, Nat.sub_self] at hiz
        injection hiz with hiz
        subst hiz
        obtain ⟨u, hu⟩ := Option.isSome_iff_exists.1 h1
        exact ⟨g, off, rfl, by have := World.block_lt_of_cell? w ⟨g, off + i, none⟩ hu; simpa [World.setCells] using this, World.cell?_setCell_same' _ _ _ h1⟩
    · obtain ⟨g', off', e, _, h3, h4⟩ := h.room j hj
      injection e with e
      injection e with e1 e2
      subst e1 e2
      refine ⟨g, off, rfl, hg, ?_, ?_⟩
      · show ((w.setCell ⟨g, off + n, none⟩ (.int .i64 x)).cell? _).isSome = true
        by_cases e : j = n
        · subst e
          rw [World.cell?_setCell_same' _ _ _ h1]
          rfl
        · rw [World.cell?_setCell_other _ _ _ _ (fun e => by injection e with _ e; omega)]
          exact h3
      · show (w.setCell ⟨g, off + n, none⟩ (.int .i64 x)).frozen? _ = false
        rw [World.frozen?_setCell]
        exact h4
    · obtain ⟨h3, cur, h4⟩ := h.typ ad e
      injection e with e
      subst e
      exact ⟨h3, _, heap_setCell_same w g (off + n) cur 3 _ h4⟩
    · exact Below.heap_setCell w ⟨g, off + n, none⟩ _ k (fun e => hk (by simp [e]))
  · cases A with
    | none =>
      have hc := h.row.nil rfl
      subst hc
      obtain rfl : n = 0 := by omega
      obtain rfl := List.length_eq_zero_iff.1 hl
      obtain ⟨v', w', hr, h2, h3, _⟩ := run_append_own (P := Try.prog) w base 24 ty 3 i0 _ 1 8 Try.underlying24 hi hz0 hz1 hz2 rfl (by decide) (.slice none 0 0) 0 [] (World.ownsRow_nil _ _ _ _) ⟨Y, 0, none⟩ 1 1 [.int .i64 x] rfl hnews hone (by unfold maxLen; omega) (by omega) hbase
      obtain ⟨A', c', rfl, ht⟩ := Tk.of_own (zs := [x]) (n := 0 + 1) h2
      exact ⟨A', c', w', hr, ht, none, ⟨h3.os, h3.tape, h3.output, h3.size, fun k hk _ => h3.block k hk (by simp [Value.ownBlock])⟩, fun k e => by cases e⟩
    | some ad =>
      have hcells : ∀ j u, (zs.map (Value.int .i64))[j]? = some u → w.cell? (ad.add j) = some u := by
        cases zs with
        | nil => intro j u hj; simp at hj
        | cons y ys =>
          obtain ⟨b, off, e, _⟩ := h.row.row 0 y rfl
          injection e with e
          subst e
          exact h.row.icells
      obtain ⟨v', w', hr, h2, h3⟩ := run_append_arg_grows (P := Try.prog) w 24 ty 3 i0 _ 1 8 Try.underlying24 hi hz0 hz1 hz2 rfl (by decide) ad n c (zs.map (Value.int .i64)) (by rw [List.length_map, hl]; omega) hcells ⟨Y, 0, none⟩ 1 1 [.int .i64 x] rfl hnews (by omega) (by unfold maxLen; omega) (by omega)
      have h2' : w'.ownsRow base 3 1 v' (n + 1) ((zs ++ [x]).map (Value.int .i64)) := by
        rw [List.map_append]
        refine ⟨h2.1, ?_⟩
        rcases h2.2 with h0 | ⟨g, cap, cur, e1, hg, h4⟩
        · exact .inl h0
        · exact .inr ⟨g, cap, cur, e1, Nat.le_trans hbase hg, h4⟩
      obtain ⟨A', c', rfl, ht⟩ := Tk.of_own h2'
      exact ⟨A', c', w', hr, ht, none, h3, fun k e => by cases e⟩
theorem wpList_append_tk {w : World} {ops : Array Oper} {rest : List Oper} {o : Oper} {a : Act} {Q : Exit → Act → World → Prop} (hgd : o.guard = none) (s y : Operand)
    (ho : o.op = .call { callee := .builtin .append, args := #[s, y], argTypes := #[24, 24] })
    (base : Nat) (A : Option Addr) (n c : Nat) (zs : List Int) (x : Int) (hs : a.eval s = .slice A n c) (h : Tk w base A n c zs)
    (Y : Nat) (hy : a.eval y = .slice (some ⟨Y, 0, none⟩) 1 1) (hY : w.cell? ⟨Y, 0, none⟩ = some (.int .i64 x)) (hb : n ≤ 1000000) (hbase : base ≤ w.heap.size)
    (hK : ∀ A' c' w' foot, Tk w' base A' (n + 1) c' (zs ++ [x]) → w.grownBy w' foot → (∀ k, foot = some k → 0 < c ∧ ∃ off, A = some ⟨k, off, none⟩) → wpList Try.prog ops Q rest (a.put o.dst (.slice A' (n + 1) c')) w') : wpList Try.prog ops Q (o :: rest) a w := by
  obtain ⟨A', c', w', hr, h2, foot, h3, h4⟩ := run_append_tk w o.type base A n c zs x h Y hY hb hbase
  refine wpList_plain hgd fun K hK' => ?_
  unfold Oper.wp
  simp [execOp, ho, resolve, invoke, builtin, hs, hy, hr, Result.andThen]
  exact hK' _ _ (hK A' c' w' foot h2 h3 h4)
theorem Tk.grown {w w' : World} {base n c : Nat} {A : Option Addr} {zs : List Int} {row : Option Nat} (h : Tk w base A n c zs) (hg : w.grownBy w' row) (hne : ∀ ad, A = some ad → some ad.block ≠ row) : Tk w' base A n c zs := by
  have hk : ∀ ad, A = some ad → w'.heap[ad.block]? = w.heap[ad.block]? := fun ad e => by
    obtain ⟨_, cur, h3⟩ := h.typ ad e
    exact hg.block _ (Array.getElem?_eq_some_iff.1 h3).1 (hne ad e)
  refine ⟨h.row.grown hg hne, fun j hj => ?_, fun ad e => ?_⟩
  · obtain ⟨g, off, e, hg1, h1, h2⟩ := h.room j hj
    have hb := hk _ e
    simp only at hb
    exact ⟨g, off, e, hg1, by rw [World.cell?_of_block hb]; exact h1, by rw [World.frozen?_of_block hb]; exact h2⟩
  · obtain ⟨h1, cur, h2⟩ := h.typ ad e
    exact ⟨h1, cur, (hk ad e).trans h2⟩
end Go.Proofs.Ytjpnfjiccckaiaa

