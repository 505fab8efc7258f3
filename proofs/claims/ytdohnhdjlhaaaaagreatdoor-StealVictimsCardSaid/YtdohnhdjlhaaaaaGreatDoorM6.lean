/- Contracts and plain mathematics, put together by program (wip/merge.py) out of: JPlain2 JPut5 JRefAll JRowed JRinged. -/
import Derived.Test.YtdohnhdjlhaaaaaGreatDoorM4
import Derived.Test.YtdohnhdjlhaaaaaGreatDoorM5
import Derived.Test.YtdohnhdjlhaaaaaGreatDoorM1
/- Runs in plain mathematics: the example; what put and push keep. -/
namespace Go.Proofs.YtdohnhdjlhaaaaaGreatDoor.Jp
set_option linter.unusedVariables false

/-! ### The document's example -/
def exT : List (Int × Int) := [(-1, 0), (0, 1), (1, 2), (2, 3)]
def exS : Nat → Rn
  | 0 => ⟨exT, 2, [(0, [])], [[]], 1⟩
  | 1 => ⟨exT, 2, [(1, [])], [[]], 1⟩
  | 2 => ⟨exT, 2, [(2, [1])], [[]], 1⟩
  | 3 => ⟨exT, 2, [(3, [1, 2])], [[]], 1⟩
  | _ => ⟨exT, 2, [(4, [2])], [[1, 3]], 1⟩
theorem ex_new : new exT 2 = (exS 0, 0) := by
  unfold new
  rw [if_neg (by decide), if_neg (by decide)]
  rfl
theorem ex_may (k : Nat) (hk : k < 5) : May (exS k) := by
  have hr : ∀ (x : Int × List Int) (s : Int), Rp.may x s = true → ∀ (p : Nat) y, [x][p]? = some y → Rp.may y s = true := by
    intro x s h p y hy
    cases p with
    | zero => simp at hy; rw [← hy]; exact h
    | succ p => simp at hy
  have hon : ∀ k, onP (exS k) 0 = true := by
    intro k
    match k with
    | 0 => decide
    | 1 => decide
    | 2 => decide
    | 3 => decide
    | (n + 4) => exact (show onP ⟨exT, 2, [(4, [2])], [[1, 3]], 1⟩ 0 = true by decide)
  have hp0 : ∀ (x : Int × List Int) (p : Nat) y, [x][p]? = some y → p = 0 := by
    intro x p y hy
    cases p with
    | zero => rfl
    | succ p => simp at hy
  match k, hk with
  | 0, _ => exact ⟨by decide, by decide, by decide, by decide, by decide, by decide, by decide, fun p x hx => ⟨hr _ _ (by decide) p x hx, .inr (by rw [hp0 _ p x hx]; exact hon 0)⟩, by decide⟩
  | 1, _ => exact ⟨by decide, by decide, by decide, by decide, by decide, by decide, by decide, fun p x hx => ⟨hr _ _ (by decide) p x hx, .inr (by rw [hp0 _ p x hx]; exact hon 1)⟩, by decide⟩
  | 2, _ => exact ⟨by decide, by decide, by decide, by decide, by decide, by decide, by decide, fun p x hx => ⟨hr _ _ (by decide) p x hx, .inr (by rw [hp0 _ p x hx]; exact hon 2)⟩, by decide⟩
  | 3, _ => exact ⟨by decide, by decide, by decide, by decide, by decide, by decide, by decide, fun p x hx => ⟨hr _ _ (by decide) p x hx, .inr (by rw [hp0 _ p x hx]; exact hon 3)⟩, by decide⟩
  | 4, _ => exact ⟨by decide, by decide, by decide, by decide, by decide, by decide, by decide, fun p x hx => ⟨hr _ _ (by decide) p x hx, .inr (by rw [hp0 _ p x hx]; exact hon 4)⟩, by decide⟩
theorem ex_put (k : Nat) (hk : k < 4) : put (exS k) 0 ((k : Int) + 1) = (exS (k + 1), 0) := by
  have hM := ex_may k (by omega)
  have e : put (exS k) ((0 : Nat) : Int) ((k : Int) + 1) = (done (exS k) 0 ((k : Int) + 1), 0) := by
    refine put_done ?_ ?_ ?_
    · intro h
      rcases h with h | h | h | h
      · exact h hM
      · omega
      · have : (exS k).rings.length = 1 := by
          match k, hk with
          | 0, _ => rfl
          | 1, _ => rfl
          | 2, _ => rfl
          | 3, _ => rfl
        omega
      · omega
    · match k, hk with
      | 0, _ => decide
      | 1, _ => decide
      | 2, _ => decide
      | 3, _ => decide
    · match k, hk with
      | 0, _ => decide
      | 1, _ => decide
      | 2, _ => decide
      | 3, _ => decide
  rw [show (0 : Int) = ((0 : Nat) : Int) from rfl, e]
  match k, hk with
  | 0, _ => rfl
  | 1, _ => rfl
  | 2, _ => rfl
  | 3, _ => rfl

/-! ### What put and push keep -/
theorem put_next (x : Int × List Int) (g s : Int) : (Rp.put x g s).1.1 = g := by
  unfold Rp.put Rp.add
  split
  · rfl
  · split <;> rfl
theorem sub_flatten {l : List (List Int)} {x : List Int} (h : x ∈ l) : x.Sublist l.flatten := by
  induction l with
  | nil => simp at h
  | cons y l ih =>
    rw [List.flatten_cons]
    rcases List.mem_cons.1 h with rfl | h
    · exact List.sublist_append_left _ _
    · exact (ih h).trans (List.sublist_append_right _ _)
theorem ring_once {r : Rn} (h : Rp.Once (all r)) {x : Int × List Int} (hx : x ∈ r.rings) : Rp.Once (Rp.all x) := by
  have hs : (Rp.all x).Sublist (all r) := (sub_flatten (List.mem_map.2 ⟨x, hx, rfl⟩)).trans (List.sublist_append_left _ _)
  exact ⟨fun y hy => h.1 y (hs.subset hy), h.2.sublist hs⟩
theorem may_size {x : Int × List Int} {s : Int} (hs : 2 ≤ s) (h : Rp.may x s = true) : x.2.length ≤ s.toNat := by
  unfold Rp.may at h
  rw [Bool.and_eq_true, decide_eq_true_iff] at h
  have := h.1
  unfold Rp.sz at this
  rw [if_neg (by omega)] at this
  exact this
theorem may_of {x : Int × List Int} {s : Int} (hs : 2 ≤ s) (h : x.2.length ≤ s.toNat) (ho : Rp.Once (Rp.all x)) : Rp.may x s = true := by
  unfold Rp.may
  rw [Bool.and_eq_true, decide_eq_true_iff, decide_eq_true_iff]
  unfold Rp.sz
  rw [if_neg (by omega)]
  exact ⟨h, ho⟩
theorem ringAt_some {r : Rn} {k : Nat} {x : Int × List Int} (h : r.rings[k]? = some x) : ringAt r k = x := by unfold ringAt; rw [h]; rfl
theorem rowAt_some {r : Rn} {k : Nat} {x : List Int} (h : r.rows[k]? = some x) : rowAt r k = x := by unfold rowAt; rw [h]; rfl
theorem node_lt {r : Rn} (h : May r) {k : Nat} (hk : k < r.rings.length) : nodeOf r k < r.rows.length := by
  obtain ⟨m, e, hm⟩ := node_at h.tree (k := k) (by rw [← h.rings]; exact hk)
  unfold nodeOf
  rw [e, h.rows]
  exact hm
theorem done_may {r : Rn} (h : May r) {k : Nat} (hk : k < r.rings.length) {g : Int} (hg : 1 ≤ g) (hn : g ∉ all r) (ho : onP r k = true) : May (done r k g) := by
  obtain ⟨x, hx⟩ : ∃ x, r.rings[k]? = some x := ⟨_, List.getElem?_eq_getElem hk⟩
  have hp := perm_done (r := r) (p := k) (g := g) (by omega) hk (node_lt h hk)
  have honce : Rp.Once (all (done r k g)) := (Rp.Once.snoc h.once hg hn).perm hp.symm
  have hrl : (done r k g).rings.length = r.rings.length := by unfold done rowed ringed; simp
  refine ⟨h.tree, h.low, h.high, hrl.trans h.rings, by unfold done rowed ringed; simp only [List.length_set]; exact h.rows, h.some, fun z hz => by rw [hrl]; exact h.few z hz, fun p y hy => ?_, honce⟩
  have hym := List.mem_of_getElem? hy
  have hyo := ring_once honce hym
  have hy' : (r.rings.set k (Rp.put (ringAt r k) g r.size).1)[p]? = Option.some y := hy
  by_cases e : k = p
  · subst e
    rw [List.getElem?_set_self hk] at hy'
    injection hy' with hy'
    subst hy'
    refine ⟨may_of h.low ?_ hyo, .inr ho⟩
    rw [ringAt_some hx]
    have hl := may_size h.low (h.ring k x hx).1
    have hs2 := h.low
    have := (Rp.put_len x g r.size.toNat (by omega) hl).1
    rwa [show ((r.size.toNat : Nat) : Int) = r.size by omega] at this
  · rw [List.getElem?_set_ne e] at hy'
    exact h.ring p y hy'
theorem pushed_may {r : Rn} (h : May r) {n : Nat} (hk : n < r.rows.length) {g : Int} (hg : 1 ≤ g) (hn : g ∉ all r) : May (pushed r n g) := by
  have hp := perm_pushed (r := r) hk g
  have honce : Rp.Once (all (pushed r n g)) := (Rp.Once.snoc h.once hg hn).perm hp.symm
  exact ⟨h.tree, h.low, h.high, h.rings, by unfold pushed rowed; simp only [List.length_set]; exact h.rows, h.some, h.few, h.ring, honce⟩
theorem done_where {r : Rn} (h : May r) {k : Nat} (hk : k < r.rings.length) {g : Int} (hg : 1 ≤ g) (hn : g ∉ all r) : whr (done r k g) g = ((k : Int), -1) := by
  refine whr_ring (k := k) (x := (Rp.put (ringAt r k) g r.size).1) ?_ ?_ ?_
  · show (r.rings.set k (Rp.put (ringAt r k) g r.size).1)[k]? = _
    rw [List.getElem?_set_self hk]
  · rw [has_iff]
    unfold Rp.all
    rw [put_next, if_neg (by omega)]
    exact List.mem_cons_self ..
  · intro j hj y hy
    have hy' : (r.rings.set k (Rp.put (ringAt r k) g r.size).1)[j]? = Option.some y := hy
    rw [List.getElem?_set_ne (by omega)] at hy'
    rw [has_no]
    exact fun hm => hn (mem_all.2 (.inl ⟨y, List.mem_of_getElem? hy', hm⟩))
theorem pushed_where {r : Rn} {n : Nat} (hk : n < r.rows.length) {g : Int} (hn : g ∉ all r) : whr (pushed r n g) g = (-1, (n : Int)) := by
  refine whr_row (k := n) (l := rowAt r n ++ [g]) ?_ ?_ ?_ ?_
  · intro y hy
    rw [has_no]
    exact fun hm => hn (mem_all.2 (.inl ⟨y, hy, hm⟩))
  · show (r.rows.set n (rowAt r n ++ [g]))[n]? = _
    rw [List.getElem?_set_self hk]
  · rw [has_iff]
    simp
  · intro j hj y hy
    have hy' : (r.rows.set n (rowAt r n ++ [g]))[j]? = Option.some y := hy
    rw [List.getElem?_set_ne (by omega)] at hy'
    rw [has_no]
    exact fun hm => hn (mem_all.2 (.inr ⟨y, List.mem_of_getElem? hy', hm⟩))
theorem done_next {r : Rn} {k : Nat} (hk : k < r.rings.length) (g : Int) : ∃ l, (done r k g).rings[k]? = some (g, l) := by
  refine ⟨(Rp.put (ringAt r k) g r.size).1.2, ?_⟩
  show (r.rings.set k (Rp.put (ringAt r k) g r.size).1)[k]? = _
  rw [List.getElem?_set_self hk]
  exact congrArg some (Prod.ext (put_next _ _ _) rfl)
theorem pushed_row {r : Rn} {n : Nat} (hk : n < r.rows.length) (g : Int) : (pushed r n g).rows[n]? = some (rowAt r n ++ [g]) := by
  show (r.rows.set n (rowAt r n ++ [g]))[n]? = _
  rw [List.getElem?_set_self hk]
/-- Put did it: what was asked holds. -/
theorem put_ok {r : Rn} {p g : Int} (h : (put r p g).2 = 0) : ∃ k : Nat, p = k ∧ k < r.rings.length ∧ 1 ≤ g ∧ g ∉ all r ∧ onP r k = true ∧ May r ∧ put r p g = (done r k g, 0) := by
  by_cases h1 : ¬ May r ∨ p < 0 ∨ (r.rings.length : Int) ≤ p ∨ g < 1
  · rw [put_arg h1] at h
    exact absurd h (by simp)
  · by_cases h2 : Tp.has (all r) g = true
    · rw [put_there h1 h2] at h
      exact absurd h (by simp)
    · have h2' : Tp.has (all r) g = false := by cases e : Tp.has (all r) g; rfl; exact absurd e h2
      cases h3 : onP r p
      · rw [put_off h1 h2' h3] at h
        exact absurd h (by simp)
      · have hM : May r := Classical.byContradiction fun hn => h1 (.inl hn)
        obtain ⟨k, rfl⟩ := Int.eq_ofNat_of_zero_le (show 0 ≤ p by omega)
        exact ⟨k, rfl, by omega, by omega, has_no.1 h2', h3, hM, put_done h1 h2' h3⟩
theorem push_ok {r : Rn} {p g : Int} (h : (push r p g).2 = 0) : ∃ k : Nat, p = k ∧ k < r.rows.length ∧ 1 ≤ g ∧ g ∉ all r ∧ May r ∧ push r p g = (pushed r k g, 0) := by
  by_cases h1 : ¬ May r ∨ p < 0 ∨ (r.rows.length : Int) ≤ p ∨ g < 1
  · rw [push_arg h1] at h
    exact absurd h (by simp)
  · by_cases h2 : Tp.has (all r) g = true
    · rw [push_there h1 h2] at h
      exact absurd h (by simp)
    · have h2' : Tp.has (all r) g = false := by cases e : Tp.has (all r) g; rfl; exact absurd e h2
      have hM : May r := Classical.byContradiction fun hn => h1 (.inl hn)
      obtain ⟨k, rfl⟩ := Int.eq_ofNat_of_zero_le (show 0 ≤ p by omega)
      exact ⟨k, rfl, by omega, by omega, has_no.1 h2', hM, push_done h1 h2'⟩
/-- Put did not: the Runs are as they were. -/
theorem put_no {r : Rn} {p g : Int} (h : (put r p g).2 ≠ 0) : (put r p g).1 = r := by
  by_cases h1 : ¬ May r ∨ p < 0 ∨ (r.rings.length : Int) ≤ p ∨ g < 1
  · rw [put_arg h1]
  · by_cases h2 : Tp.has (all r) g = true
    · rw [put_there h1 h2]
    · have h2' : Tp.has (all r) g = false := by cases e : Tp.has (all r) g; rfl; exact absurd e h2
      cases h3 : onP r p
      · rw [put_off h1 h2' h3]
      · obtain ⟨k, rfl⟩ := Int.eq_ofNat_of_zero_le (show 0 ≤ p by omega)
        rw [put_done h1 h2' h3] at h
        exact absurd rfl h
theorem push_no {r : Rn} {p g : Int} (h : (push r p g).2 ≠ 0) : (push r p g).1 = r := by
  by_cases h1 : ¬ May r ∨ p < 0 ∨ (r.rows.length : Int) ≤ p ∨ g < 1
  · rw [push_arg h1]
  · by_cases h2 : Tp.has (all r) g = true
    · rw [push_there h1 h2]
    · have h2' : Tp.has (all r) g = false := by cases e : Tp.has (all r) g; rfl; exact absurd e h2
      obtain ⟨k, rfl⟩ := Int.eq_ofNat_of_zero_le (show 0 ≤ p by omega)
      rw [push_done h1 h2'] at h
      exact absurd rfl h

/-! ### New -/
theorem mem_ones {n : Nat} (hn : n ≤ 64) (z : Int) : z ∈ Zp.mem (2 ^ n - 1) ↔ 0 ≤ z ∧ z < n := by
  rw [Zp.mem_mem]
  constructor
  · rintro ⟨i, hi, rfl, hb⟩
    rw [Nat.testBit_two_pow_sub_one, decide_eq_true_iff] at hb
    omega
  · rintro ⟨h0, h1⟩
    obtain ⟨k, rfl⟩ := Int.eq_ofNat_of_zero_le h0
    exact ⟨k, by omega, rfl, by rw [Nat.testBit_two_pow_sub_one, decide_eq_true_iff]; omega⟩
theorem procs_pos {vs : List (Int × Int)} (h : Tp.may vs = true) : 1 ≤ (Dp.procs vs).length := by
  have T := (Tp.tree_iff vs).1 h
  obtain ⟨j, y, hj, hy⟩ := T.node
  obtain ⟨k, z, hk, hz, _⟩ := T.below hj hy
  have : (k : Int) ∈ Dp.procs vs := Tp.mem_those.2 ⟨k, z, rfl, hk, by rw [beq_iff_eq]; exact hz⟩
  exact List.length_pos_of_mem this
theorem made_all (vs : List (Int × Int)) (size : Int) : all (made vs size) = [] := by
  unfold all made
  simp only [List.map_replicate]
  rw [List.append_eq_nil_iff]
  constructor
  · rw [List.flatten_eq_nil_iff]
    intro l hl
    rw [List.eq_of_mem_replicate hl]
    rfl
  · rw [List.flatten_eq_nil_iff]
    intro l hl
    exact List.eq_of_mem_replicate hl
theorem made_may {vs : List (Int × Int)} {size : Int} (h : Tp.may vs = true) (h1 : ¬ size < 2) (h2 : ¬ 16 < size) : May (made vs size) := by
  have T := (Tp.tree_iff vs).1 h
  have h32 : (Dp.procs vs).length ≤ 32 := T.procs
  have hp := procs_pos h
  have hl : (made vs size).rings.length = (Dp.procs vs).length := by unfold made; simp
  refine ⟨h, by show 2 ≤ size; omega, by show size ≤ 16; omega, hl, by unfold made; simp, ?_, ?_, ?_, by rw [made_all]; exact ⟨fun x hx => by simp at hx, List.nodup_nil⟩⟩
  · intro e
    have : (0 : Int) ∈ Zp.mem (made vs size).on := (mem_ones (by omega) 0).2 ⟨by omega, by omega⟩
    rw [e] at this
    simp at this
  · intro z hz
    rw [hl]
    exact ((mem_ones (n := (Dp.procs vs).length) (by omega) z).1 hz).2
  · intro p x hx
    have hx' : (List.replicate (Dp.procs vs).length ((0 : Int), ([] : List Int)))[p]? = some x := hx
    have := List.eq_of_mem_replicate (List.mem_of_getElem? hx')
    subst this
    refine ⟨?_, .inl rfl⟩
    exact may_of (show 2 ≤ (made vs size).size from by show 2 ≤ size; omega) (by simp) ⟨fun x hx => by simp [Rp.all] at hx, by simp [Rp.all]⟩
/-- What New tells: refused, or Runs in which nobody stands. -/
theorem new_is (vs : List (Int × Int)) (size : Int) : ((new vs size).2 ≠ 0 ∧ (new vs size).1 = zero) ∨ (new vs size = (made vs size, 0) ∧ May (made vs size)) := by
  unfold new
  by_cases h : Tp.may vs = false
  · rw [if_pos h]
    exact .inl ⟨by decide, rfl⟩
  · rw [if_neg h]
    by_cases h1 : size < 2 ∨ 16 < size
    · rw [if_pos h1]
      exact .inl ⟨by decide, rfl⟩
    · rw [if_neg h1]
      exact .inr ⟨rfl, made_may (by cases e : Tp.may vs; exact absurd e h; rfl) (by omega) (by omega)⟩
end Go.Proofs.YtdohnhdjlhaaaaaGreatDoor.Jp


/- A box and a result's place, what a call leaves that tells Runs and an error, in memory. -/
namespace Go.Proofs.YtdohnhdjlhaaaaaGreatDoor
open Go.RowKit
set_option linter.unusedVariables false

/-- A box, and a result's place. -/
theorem boxes2 (w : World) (p0 p1 p2 p3 p4 z0 z1 z2 z3 z4 : Value) (T U : TypeId) : ∃ V, V = (w.alloc (.cells #[p0, p1, p2, p3, p4] T)).alloc (.cells #[z0, z1, z2, z3, z4] U) ∧
    B5 V w.heap.size p0 p1 p2 p3 p4 ∧ C5 V (w.heap.size + 1) z0 z1 z2 z3 z4 ∧ Below w.heap.size w V ∧ w.heap.size + 1 < V.heap.size := by
  have a1 := B5.new w p0 p1 p2 p3 p4 T
  have a2 := C5.new (w.alloc (.cells #[p0, p1, p2, p3, p4] T)) z0 z1 z2 z3 z4 U
  have s1 : (w.alloc (.cells #[p0, p1, p2, p3, p4] T)).heap.size = w.heap.size + 1 := by simp
  rw [s1] at a2
  exact ⟨_, rfl, a1.step (below_new _ _), a2, ((Below.refl _ w).alloc (Nat.le_refl _) _).alloc (by simp) _, by simp⟩
theorem TellJE.is {F : Nat → Prop} {w0 w' : World} {d : Ad} {r : Jp.Rn} {e : Int} {p : Jp.Rn × Int} (hp : p = (r, e)) (h : RM (More F w0) w' d r) (hb : Below w0.heap.size w0 w') : TellJE F w0 p (.returned (.tuple #[jv d r, .int .i64 e])) w' := by
  subst hp
  exact ⟨d, rfl, h, hb⟩
/-- What the result's place holds, told. -/
theorem RM.put {F : Nat → Prop} {w : World} {d : Ad} {r : Jp.Rn} (h : RM F w d r) {X : Nat} (hX : ¬ F X) (u0 u1 u2 u3 u4 : Value) : RM F (put5 w X u0 u1 u2 u3 u4) d r := ((((h.far hX 0 u0).far hX 1 u1).far hX 2 u2).far hX 3 u3).far hX 4 u4
theorem put5_told {W : World} {b : Nat} {v0 v1 v2 v3 v4 : Value} (h : C5 W b v0 v1 v2 v3 v4) (u0 u1 u2 u3 u4 : Value) :
    (put5 W b u0 u1 u2 u3 u4).cell? ⟨b, 0, none⟩ = some u0 ∧ (put5 W b u0 u1 u2 u3 u4).cell? ⟨b, 1, none⟩ = some u1 ∧ (put5 W b u0 u1 u2 u3 u4).cell? ⟨b, 2, none⟩ = some u2 ∧ (put5 W b u0 u1 u2 u3 u4).cell? ⟨b, 3, none⟩ = some u3 ∧ (put5 W b u0 u1 u2 u3 u4).cell? ⟨b, 4, none⟩ = some u4 :=
  ⟨(h.put u0 u1 u2 u3 u4).b5.c0, (h.put u0 u1 u2 u3 u4).b5.c1, (h.put u0 u1 u2 u3 u4).b5.c2, (h.put u0 u1 u2 u3 u4).b5.c3, (h.put u0 u1 u2 u3 u4).b5.c4⟩
end Go.Proofs.YtdohnhdjlhaaaaaGreatDoor


/- The document's All, by its contract: who stands in the rings, and then in the rows. -/
namespace Go.Proofs.YtdohnhdjlhaaaaaGreatDoor
open Go.RowKit
set_option linter.unusedVariables false

set_option maxHeartbeats 1000000 in
theorem jrefAll_any {F : Nat → Prop} (d : Ad) (r : Jp.Rn) (w : World) (h : RM F w d r) (hlow : Low r) :
    Calls Tryz.prog 62 #[jv d r] w (MadeR w (Jp.all r)) := by
  obtain ⟨T, nt, ct, R, nr, cr, S, ns, cs⟩ := d
  have H := Lib.hid h
  have HL := Lib.hid hlow
  obtain ⟨hr1, hr2, hr3⟩ := h.nr
  obtain ⟨hs1, hs2, hs3⟩ := h.ns
  have hr4 := hlow.rings
  have hs4 := hlow.rows
  simp only at hr1 hr2 hr3 hs1 hs2 hs3
  clear h hlow
  obtain ⟨V, hV, hX, hB⟩ := B5.start w (.slice T nt ct) (.int .i64 r.size) (.slice R nr cr) (.slice S ns cs) (.int .u64 (r.on : Nat)) 27
  have E := Lib.hid hV
  have X0 := Lib.hid hX
  have B0 := Lib.hid hB
  clear hV hX hB
  unfold jv
  go_enter Tryz.func62, Tryz.ntmps62
  go_wp2_with fail
  rw [← E.out]
  clear E
  go_loopw [3, 4] (fun u i wr => ∃ k : Nat, k ≤ nr ∧ i = .int .i64 k ∧ Hid (wr.ownsRow V.heap.size 3 1 u (ringsTo r k).length ((ringsTo r k).map (Value.int .i64))) ∧ Hid (Below V.heap.size V wr)) (fun _ i _ => nr - (intOf i).toNat)
  case atStart => exact ⟨0, Nat.zero_le _, rfl, Lib.hid (World.ownsRow_nil _ _ _ _), Lib.hid (Below.refl _ _)⟩
  case round =>
    obtain ⟨k, hk, rfl, HO, HB⟩ := hrel
    have hB1 := B0.out.trans (HB.out.mono B0.out.size)
    have HM := Lib.hid (H.out.below hB1)
    have B1 := Lib.hid hB1
    have X1 := X0.out.step HB.out
    have d2 := X1.c2
    have d3 := X1.c3
    clear X1 hB1
    obtain ⟨u0, v0, rfl, _⟩ := Row.of_own HO.out
    by_cases hlt : k < nr
    · obtain ⟨x, hx⟩ : ∃ x, r.rings[k]? = some x := ⟨_, List.getElem?_eq_getElem (by omega)⟩
      obtain ⟨b, off, A, n, c, hR, _, c0, c1, hrow⟩ := HM.out.ringAt hx
      simp only at hR
      subst hR
      have hn : n ≤ 400 := by rw [← hrow.len]; exact HL.out.ring x (List.mem_of_getElem? hx)
      have HC := Lib.hid (refAll_any x.1 A n c x.2 wr hrow (by omega))
      have HT := Lib.hid (ringsTo_succ hx)
      have HLE := Lib.hid (ringsTo_le HL.out k)
      have hxl := Rp.all_length x
      have HXL := Lib.hid (show (Rp.all x).length ≤ 401 by rw [hrow.len] at hxl; omega)
      have i0 : (0 : Int) ≤ (k : Int) := by omega
      have i1 : (k : Int) < (nr : Int) := by omega
      clear hx hrow hxl hr1 hs1 HM
      go_wp2_with fail
      refine HC.out.mono ?_
      rintro e w2 ⟨A2, n2, c2, rfl, hr2, hb2⟩
      have R2 := Lib.hid (show Row w2 A2 n2 c2 (Rp.all x) from hr2)
      have HN := Lib.hid (show (Rp.all x).length = n2 from hr2.len)
      have O2 := Lib.hid (own_below HO.out hb2)
      have B2 := Lib.hid (B1.out.trans (hb2.mono B1.out.size))
      have HB2 := Lib.hid (HB.out.trans (hb2.mono HB.out.size))
      clear hr2 hb2 HC c0 c1 d2 d3
      go_wp2_with (at_builtin; refine wpList_append_row rfl _ _ rfl V.heap.size _ _ _ rfl O2.out A2 n2 c2 _ rfl R2.out (by have := HLE.out; have := HXL.out; have := HN.out; omega) HB2.out.size ?_; intro v' w3 hown hg)
      have O3 := Lib.hid (show w3.ownsRow V.heap.size 3 1 v' (ringsTo r (k + 1)).length ((ringsTo r (k + 1)).map (Value.int .i64)) by rw [HT.out, List.length_append, HN.out]; exact hown)
      have B3 := Lib.hid (HB2.out.grown hg HB2.out.size (fun j hj => (O2.out.lt j hj).1))
      clear hown hg R2
      go_wp2_with fail
      go_roundw
      case rel => exact ⟨k + 1, by omega, by go_num, O3, B3⟩
      case measure => simp [intOf]; omega
    · obtain rfl : k = nr := by omega
      have HRA := Lib.hid (show ringsTo r k = rowsTo r 0 by rw [rowsTo_zero, hr1])
      obtain ⟨wo, rfl⟩ : ∃ wo : World, wo = wr := ⟨_, rfl⟩
      go_wp2_with fail
      clear d2 d3
      go_loopw [3, 5] (fun u i wr => ∃ j : Nat, j ≤ ns ∧ i = .int .i64 j ∧ Hid (wr.ownsRow V.heap.size 3 1 u (rowsTo r j).length ((rowsTo r j).map (Value.int .i64))) ∧ Hid (Below V.heap.size V wr)) (fun _ i _ => ns - (intOf i).toNat)
      case atStart => exact ⟨0, Nat.zero_le _, rfl, by rw [← HRA.out]; exact HO, HB⟩
      case round =>
        clear HO HB B1 HM
        obtain ⟨j, hj, rfl, HO, HB⟩ := hrel
        have hB1 := B0.out.trans (HB.out.mono B0.out.size)
        have HM := Lib.hid (H.out.below hB1)
        have B1 := Lib.hid hB1
        have X1 := X0.out.step HB.out
        have d2 := X1.c2
        have d3 := X1.c3
        clear X1 hB1
        obtain ⟨u1, v1, rfl, _⟩ := Row.of_own HO.out
        by_cases hlj : j < ns
        · obtain ⟨x, hx⟩ : ∃ x, r.rows[j]? = some x := ⟨_, List.getElem?_eq_getElem (by omega)⟩
          obtain ⟨b, off, A, n, c, hR, _, c0, hrow⟩ := HM.out.rowAt hx
          simp only at hR
          subst hR
          have hn : n ≤ 400 := by rw [← hrow.len]; exact HL.out.row x (List.mem_of_getElem? hx)
          have HT := Lib.hid (rowsTo_succ hx)
          have HLE := Lib.hid (rowsTo_le HL.out j)
          have R2 := Lib.hid hrow
          have HN := Lib.hid hrow.len
          have i0 : (0 : Int) ≤ (j : Int) := by omega
          have i1 : (j : Int) < (ns : Int) := by omega
          clear hx hrow hr1 hs1 HM
          go_wp2_with (at_builtin; refine wpList_append_row rfl _ _ rfl V.heap.size _ _ _ rfl HO.out A n c _ rfl R2.out (by have := HLE.out; omega) HB.out.size ?_; intro v' w3 hown hg)
          have O3 := Lib.hid (show w3.ownsRow V.heap.size 3 1 v' (rowsTo r (j + 1)).length ((rowsTo r (j + 1)).map (Value.int .i64)) by rw [HT.out, List.length_append, HN.out]; exact hown)
          have B3 := Lib.hid (HB.out.grown hg HB.out.size (fun j hj => (HO.out.lt j hj).1))
          clear hown hg R2 c0 d2 d3
          go_wp2_with fail
          go_roundw
          case rel => exact ⟨j + 1, by omega, by go_num, O3, B3⟩
          case measure => simp [intOf]; omega
        · obtain rfl : j = ns := by omega
          have hO := HO.out
          rw [← hs1, rowsTo_all] at hO
          obtain ⟨A3, c3, e3, hr3, hf3⟩ := Row.of_own' hO
          injection e3 with e31 e32 e33
          subst e31 e33
          have HM2 := Lib.hid (show MadeR w (Jp.all r) (.returned (.slice u1 (rowsTo r j).length v1)) wr from ⟨u1, _, v1, by rw [← hs1, rowsTo_all], hr3, hf3.mono B0.out.size, B1.out⟩)
          go_wp2_with fail
          go_ret
          exact HM2.out
end Go.Proofs.YtdohnhdjlhaaaaaGreatDoor


/- The document's Behind, Rowed, Ringed, by their contracts. -/
namespace Go.Proofs.YtdohnhdjlhaaaaaGreatDoor
open Go.RowKit
set_option linter.unusedVariables false

/-- A box, a result's place, a variable that holds what is in the box, and an empty slice. -/
theorem boxes4 (w : World) (p0 p1 p2 p3 p4 z0 z1 z2 z3 z4 : Value) (T U : TypeId) : ∃ V, V = (((w.alloc (.cells #[p0, p1, p2, p3, p4] T)).alloc (.cells #[z0, z1, z2, z3, z4] T)).alloc (.cells #[p0, p1, p2, p3, p4] T)).alloc (.cells #[] U) ∧
    B5 V w.heap.size p0 p1 p2 p3 p4 ∧ C5 V (w.heap.size + 1) z0 z1 z2 z3 z4 ∧ C5 V (w.heap.size + 1 + 1) p0 p1 p2 p3 p4 ∧ Below w.heap.size w V ∧ w.heap.size + 1 + 1 + 1 < V.heap.size ∧
    ∀ sz, V.ownsRow (w.heap.size + 1 + 1 + 1) U sz (.slice (some ⟨w.heap.size + 1 + 1 + 1, 0, none⟩) 0 0) 0 [] := by
  have a1 := (B5.new w p0 p1 p2 p3 p4 T)
  have a2 := C5.new (w.alloc (.cells #[p0, p1, p2, p3, p4] T)) z0 z1 z2 z3 z4 T
  have a3 := C5.new ((w.alloc (.cells #[p0, p1, p2, p3, p4] T)).alloc (.cells #[z0, z1, z2, z3, z4] T)) p0 p1 p2 p3 p4 T
  have a4 := fun sz => own_no (((w.alloc (.cells #[p0, p1, p2, p3, p4] T)).alloc (.cells #[z0, z1, z2, z3, z4] T)).alloc (.cells #[p0, p1, p2, p3, p4] T)) (w.heap.size + 1 + 1 + 1) U sz (by simp)
  have s1 : (w.alloc (.cells #[p0, p1, p2, p3, p4] T)).heap.size = w.heap.size + 1 := by simp
  have s2 : ((w.alloc (.cells #[p0, p1, p2, p3, p4] T)).alloc (.cells #[z0, z1, z2, z3, z4] T)).heap.size = w.heap.size + 1 + 1 := by simp
  have s3 : (((w.alloc (.cells #[p0, p1, p2, p3, p4] T)).alloc (.cells #[z0, z1, z2, z3, z4] T)).alloc (.cells #[p0, p1, p2, p3, p4] T)).heap.size = w.heap.size + 1 + 1 + 1 := by simp
  rw [s1] at a2
  rw [s2] at a3
  rw [s3] at a4
  refine ⟨_, rfl, ((a1.step (below_new _ _)).step (below_new _ _)).step (below_new _ _), (a2.step (below_new _ _)).step (below_new _ _), a3.step (below_new _ _), ((((Below.refl _ w).alloc (Nat.le_refl _) _).alloc (by simp) _).alloc (by simp; omega) _).alloc (by simp; omega) _, by simp, a4⟩
set_option maxRecDepth 100000 in
set_option maxHeartbeats 1000000 in
theorem jrowed_any {F : Nat → Prop} (d : Ad) (r : Jp.Rn) (n : Nat) (l : List Int) (A : Option Addr) (m c : Nat) (w : World) (h : RM F w d r) (hn : n < d.ns) (hs : d.ns ≤ 1000) (hr : Row w A m c l) (hA : l ≠ [] → ∀ ad, A = some ad → F ad.block) :
    Calls Tryz.prog 35 #[jv d r, .int .i64 n, .slice A m c] w (TellJ F w (Jp.rowed r n l)) := by
  obtain ⟨T, nt, ct, R, nr, cr, S, ns, cs⟩ := d
  simp only at hn hs
  obtain ⟨ls, hx, hls, hlie⟩ := h.rows
  simp only at hx
  obtain ⟨b0, o0, rfl, _, _⟩ := hx.cells (by omega)
  have H := Lib.hid h
  have HX := Lib.hid hx
  have HR := Lib.hid hr
  have HLS := Lib.hid hls
  have HLI := Lib.hid hlie
  have HAF := Lib.hid hA
  clear h hx hr hls hlie hA
  obtain ⟨V, hV, b1, b2, b3, hB, hsz, hown⟩ := boxes4 w (.slice T nt ct) (.int .i64 r.size) (.slice R nr cr) (.slice (some ⟨b0, o0, none⟩) ns cs) (.int .u64 (r.on : Nat)) (.slice none 0 0) (.int .i64 0) (.slice none 0 0) (.slice none 0 0) (.int .u64 0) 27 42
  have E := Lib.hid hV
  have X1 := Lib.hid b1
  have Z1 := Lib.hid b2
  have O1 := Lib.hid b3
  have B1 := Lib.hid hB
  have W1 := Lib.hid (show XO csL 1 42 (w.heap.size + 1 + 1 + 1) V (.slice (some ⟨w.heap.size + 1 + 1 + 1, 0, none⟩) 0 0) 0 [] from ⟨hown 1, fun e he => by simp at he, fun e he => by simp at he⟩)
  have HSZ := Lib.hid hsz
  clear hV b1 b2 b3 hB hown hsz
  unfold jv
  go_enter Tryz.func35, Tryz.ntmps35
  go_wp2_with (at_builtin; rw [← E.out]; refine wpList_append_rows rfl _ _ rfl (w.heap.size + 1 + 1 + 1) _ 0 [] W1.out rfl ⟨b0, o0, none⟩ ns cs ls rfl HX.out.len ((HX.out.below B1.out).flat csL_len (by decide)) (HX.out.below B1.out).rows (fun e he hne ad hA e2 => ?ap) (by omega) (by omega) (by have := HSZ.out; omega) ?_)
  case ap =>
    have := row_block (HX.out.rows e he) hne hA
    simp only [Value.ownBlock, Option.some.injEq] at e2
    omega
  intro g cap w' hx hg
  have hgs := hx.own.lt g rfl
  have Z2 := Z1.out.grown hg (by simp [Value.ownBlock])
  have O2 := O1.out.grown hg (by simp [Value.ownBlock])
  have B2 := B1.out.grown hg B1.out.size (fun k hk => by simp [Value.ownBlock] at hk; omega)
  have hlen := HX.out.len
  have hrb : ∀ e ∈ ls, e.l ≠ [] → ∀ ad, e.A = some ad → ad.block ≠ w.heap.size + 1 + 1 := fun e he hne ad hA => by
    have := row_block (HX.out.rows e he) hne hA
    omega
  have p3 := O2.b5.c3
  have q3 := O2.f3
  have O3 := O2.set3 (.slice (some ⟨g, 0, none⟩) ns cap)
  have Z3 := Z2.far (p := ⟨w.heap.size + 1 + 1, 3, none⟩) (u := .slice (some ⟨g, 0, none⟩) ns cap) (by simp only; omega)
  have K3 := hx.far (X := w.heap.size + 1 + 1) (j := 3) (u := .slice (some ⟨g, 0, none⟩) ns cap) (by omega) hrb
  have B3 := B2.setCell (p := ⟨w.heap.size + 1 + 1, 3, none⟩) (by simp only; omega) (.slice (some ⟨g, 0, none⟩) ns cap)
  have HR3 := HR.out.below B3
  have hra : Apart (.slice (some ⟨g, 0, none⟩) ns cap) ⟨0, l, A, m, c⟩ := fun hne ad hA e2 => by
    have := row_block HR.out hne hA
    simp only [Value.ownBlock, Option.some.injEq] at e2
    omega
  have K4 := K3.set1 n ⟨0, l, A, m, c⟩ hn HR3 hra
  obtain ⟨e0, he0⟩ : ∃ e, ls[n]? = some e := ⟨_, List.getElem?_eq_getElem (by omega)⟩
  have p4 := K3.own.cellAt n (by omega)
  have p5 := flat_at csL_len ls n e0 0 he0 (by decide)
  rw [Nat.mul_one, Nat.add_zero] at p5
  rw [p5] at p4
  have q4 := K3.own.frozenAt n
  have O4 := O3.far (p := ⟨g, n, none⟩) (u := .slice A m c) (by simp only; omega)
  have Z4 := Z3.far (p := ⟨g, n, none⟩) (u := .slice A m c) (by simp only; omega)
  have B4 := B3.setCell (p := ⟨g, n, none⟩) (by simp only; omega) (.slice A m c)
  have p40 : ((w'.setCell ⟨w.heap.size + 1 + 1, 3, none⟩ (.slice (some ⟨g, 0, none⟩) ns cap)).cell? ⟨g, n, none⟩) = some (.slice e0.A e0.n e0.c) := p4
  have P := O3.b5.c3
  clear p4 p5
  obtain ⟨W4, hW4⟩ : ∃ W4, W4 = (w'.setCell ⟨w.heap.size + 1 + 1, 3, none⟩ (.slice (some ⟨g, 0, none⟩) ns cap)).setCell ⟨g, n, none⟩ (.slice A m c) := ⟨_, rfl⟩
  rw [← hW4] at K4 O4 Z4 B4
  have E4 := Lib.hid hW4
  have i0 : (0 : Int) ≤ (n : Int) := by omega
  have i1 : (n : Int) < (ns : Int) := by omega
  have KH := Lib.hid K4
  have ZH := Lib.hid Z4
  have BH := Lib.hid B4
  have GH := Lib.hid hgs
  have t0 := O4.b5.c0
  have t1 := O4.b5.c1
  have t2 := O4.b5.c2
  have t3 := O4.b5.c3
  have t4 := O4.b5.c4
  have y0 := Z4.b5.c0
  have y1 := Z4.b5.c1
  have y2 := Z4.b5.c2
  have y3 := Z4.b5.c3
  have y4 := Z4.b5.c4
  have g0 := Z4.f0
  have g1 := Z4.f1
  have g2 := Z4.f2
  have g3 := Z4.f3
  have g4 := Z4.f4
  clear hW4 hx hg Z2 O2 B2 O3 Z3 K3 B3 HR3 hra O4 Z4 B4 K4 X1 Z1 O1 W1 HSZ hrb hgs
  go_wp2_with (rw [← E4.out])
  have hgs := GH.out
  have hrb2 : ∀ e ∈ ls.set n ⟨0, l, A, m, c⟩, e.l ≠ [] → ∀ ad, e.A = some ad → ad.block ≠ w.heap.size + 1 := fun e he hne ad hA => by
    have : ad.block < w.heap.size := by
      rcases List.mem_or_eq_of_mem_set he with h' | rfl
      · exact row_block (HX.out.rows e h') hne hA
      · exact row_block HR.out hne hA
    omega
  have hg1 : g ≠ w.heap.size + 1 := by omega
  have K5 := ((((KH.out.far (j := 0) (u := .slice T nt ct) hg1 hrb2).far (j := 1) (u := .int .i64 r.size) hg1 hrb2).far (j := 2) (u := .slice R nr cr) hg1 hrb2).far (j := 3) (u := .slice (some ⟨g, 0, none⟩) ns cap) hg1 hrb2).far (j := 4) (u := .int .u64 (r.on : Nat)) hg1 hrb2
  obtain ⟨A5, c5, e5, hx5, _⟩ := K5.xr csL_len (by decide)
  injection e5 with e51 _ e52
  subst e51 e52
  have C9 := ZH.out.put (.slice T nt ct) (.int .i64 r.size) (.slice R nr cr) (.slice (some ⟨g, 0, none⟩) ns cap) (.int .u64 (r.on : Nat))
  have B9 := (((((BH.out.setCell (p := ⟨w.heap.size + 1, 0, none⟩) (by simp) (.slice T nt ct)).setCell (p := ⟨w.heap.size + 1, 1, none⟩) (by simp) (.int .i64 r.size)).setCell (p := ⟨w.heap.size + 1, 2, none⟩) (by simp) (.slice R nr cr)).setCell (p := ⟨w.heap.size + 1, 3, none⟩) (by simp) (.slice (some ⟨g, 0, none⟩) ns cap)).setCell (p := ⟨w.heap.size + 1, 4, none⟩) (by simp) (.int .u64 (r.on : Nat)))
  have HB := (H.out.below B9).mono (G := More F w) More.in
  have HL9 : LieE (More F w) (some ⟨g, 0, none⟩) (ls.set n ⟨0, l, A, m, c⟩) := by
    refine ⟨fun _ ad e => ?_, fun e he hne ad hA => ?_⟩
    · injection e with e
      subst e
      exact .inr (by simp only; omega)
    · rcases List.mem_or_eq_of_mem_set he with h' | rfl
      · exact .inl (HLI.out.2 e h' hne ad hA)
      · exact .inl (HAF.out hne ad hA)
  have HF := TellJ.is (F := F) (w0 := w) (d := ⟨T, nt, ct, R, nr, cr, some ⟨g, 0, none⟩, ns, cap⟩) (r := Jp.rowed r n l) ⟨HB.tlen, HB.tmax, HB.fit, HB.tree, HB.lie, HB.rings, ⟨ls.set n ⟨0, l, A, m, c⟩, hx5, by
    unfold Jp.rowed
    simp only
    rw [HLS.out, List.map_set]
    rfl, HL9⟩, HB.on, HB.size⟩ B9
  have k0 := C9.b5.c0
  have k1 := C9.b5.c1
  have k2 := C9.b5.c2
  have k3 := C9.b5.c3
  have k4 := C9.b5.c4
  unfold put5 at k0 k1 k2 k3 k4
  refine bodyPost_ret ?_ rfl HF
  simp [results, Tryz.results35, go_sem, k0, k1, k2, k3, k4, jv, Jp.rowed]
end Go.Proofs.YtdohnhdjlhaaaaaGreatDoor


/- The document's Ringed, by its contract. -/
namespace Go.Proofs.YtdohnhdjlhaaaaaGreatDoor
open Go.RowKit
set_option linter.unusedVariables false

/-- Two boxes, a result's place, a variable that holds what is in the first box, and an empty slice. -/
theorem boxes5 (w : World) (p0 p1 p2 p3 p4 x0 x1 z0 z1 z2 z3 z4 : Value) (T T' U : TypeId) : ∃ V, V = ((((w.alloc (.cells #[p0, p1, p2, p3, p4] T)).alloc (.cells #[x0, x1] T')).alloc (.cells #[z0, z1, z2, z3, z4] T)).alloc (.cells #[p0, p1, p2, p3, p4] T)).alloc (.cells #[] U) ∧
    B5 V w.heap.size p0 p1 p2 p3 p4 ∧ (V.cell? ⟨w.heap.size + 1, 0, none⟩ = some x0 ∧ V.cell? ⟨w.heap.size + 1, 1, none⟩ = some x1) ∧ C5 V (w.heap.size + 1 + 1) z0 z1 z2 z3 z4 ∧ C5 V (w.heap.size + 1 + 1 + 1) p0 p1 p2 p3 p4 ∧ Below w.heap.size w V ∧ w.heap.size + 1 + 1 + 1 + 1 < V.heap.size ∧
    ∀ sz, V.ownsRow (w.heap.size + 1 + 1 + 1 + 1) U sz (.slice (some ⟨w.heap.size + 1 + 1 + 1 + 1, 0, none⟩) 0 0) 0 [] := by
  obtain ⟨w1, hw1⟩ : ∃ w1, w1 = w.alloc (.cells #[p0, p1, p2, p3, p4] T) := ⟨_, rfl⟩
  obtain ⟨w2, hw2⟩ : ∃ w2, w2 = w1.alloc (.cells #[x0, x1] T') := ⟨_, rfl⟩
  obtain ⟨w3, hw3⟩ : ∃ w3, w3 = w2.alloc (.cells #[z0, z1, z2, z3, z4] T) := ⟨_, rfl⟩
  obtain ⟨w4, hw4⟩ : ∃ w4, w4 = w3.alloc (.cells #[p0, p1, p2, p3, p4] T) := ⟨_, rfl⟩
  have s1 : w1.heap.size = w.heap.size + 1 := by rw [hw1]; simp
  have s2 : w2.heap.size = w.heap.size + 1 + 1 := by rw [hw2]; simp [s1]
  have s3 : w3.heap.size = w.heap.size + 1 + 1 + 1 := by rw [hw3]; simp [s2]
  have s4 : w4.heap.size = w.heap.size + 1 + 1 + 1 + 1 := by rw [hw4]; simp [s3]
  have a1 := B5.new w p0 p1 p2 p3 p4 T
  rw [← hw1] at a1
  have b0 : w2.cell? ⟨w.heap.size + 1, 0, none⟩ = some x0 := by rw [hw2, ← s1, World.cell?_alloc_at _ _ _ _ rfl]; rfl
  have b1 : w2.cell? ⟨w.heap.size + 1, 1, none⟩ = some x1 := by rw [hw2, ← s1, World.cell?_alloc_at _ _ _ _ rfl]; rfl
  have a2 := C5.new w2 z0 z1 z2 z3 z4 T
  rw [← hw3, s2] at a2
  have a3 := C5.new w3 p0 p1 p2 p3 p4 T
  rw [← hw4, s3] at a3
  have a4 := fun sz => own_no w4 (w.heap.size + 1 + 1 + 1 + 1) U sz (by omega)
  rw [s4] at a4
  have h1 : Below w.heap.size w w1 := by rw [hw1]; exact below_new _ _
  have h2 : Below w1.heap.size w1 w2 := by rw [hw2]; exact below_new _ _
  have h3 : Below w2.heap.size w2 w3 := by rw [hw3]; exact below_new _ _
  have h4 : Below w3.heap.size w3 w4 := by rw [hw4]; exact below_new _ _
  have h5 : Below w4.heap.size w4 (w4.alloc (.cells #[] U)) := below_new _ _
  have h24 := h3.trans (h4.mono h3.size)
  refine ⟨w4.alloc (.cells #[] U), by rw [hw4, hw3, hw2, hw1], ((((a1.step h2).step h3).step h4).step h5), ⟨keepcell (h24.trans (h5.mono h24.size)) b0, keepcell (h24.trans (h5.mono h24.size)) b1⟩, ((a2.step h4).step h5), a3.step h5, ?_, by simp [s4], a4⟩
  exact (((h1.trans (h2.mono h1.size)).trans (h3.mono (by omega))).trans (h4.mono (by omega))).trans (h5.mono (by omega))
set_option maxRecDepth 100000 in
set_option maxHeartbeats 1000000 in
theorem jringed_any {F : Nat → Prop} (d : Ad) (r : Jp.Rn) (n : Nat) (x : Int) (l : List Int) (A : Option Addr) (m c : Nat) (w : World) (h : RM F w d r) (hn : n < d.nr) (hs : d.nr ≤ 1000) (hr : Row w A m c l) (hA : l ≠ [] → ∀ ad, A = some ad → F ad.block) :
    Calls Tryz.prog 34 #[jv d r, .int .i64 n, .agg #[.int .i64 x, .slice A m c]] w (TellJ F w (Jp.ringed r n (x, l))) := by
  obtain ⟨T, nt, ct, R, nr, cr, S, ns, cs⟩ := d
  simp only at hn hs
  obtain ⟨ls, hx, hls, hlie⟩ := h.rings
  simp only at hx
  obtain ⟨b0, o0, rfl, _, _⟩ := hx.cells (by omega)
  have H := Lib.hid h
  have HX := Lib.hid hx
  have HR := Lib.hid hr
  have HLS := Lib.hid hls
  have HLI := Lib.hid hlie
  have HAF := Lib.hid hA
  clear h hx hr hls hlie hA
  obtain ⟨V, hV, b1, ⟨bx0, bx1⟩, b2, b3, hB, hsz, hown⟩ := boxes5 w (.slice T nt ct) (.int .i64 r.size) (.slice (some ⟨b0, o0, none⟩) nr cr) (.slice S ns cs) (.int .u64 (r.on : Nat)) (.int .i64 x) (.slice A m c) (.slice none 0 0) (.int .i64 0) (.slice none 0 0) (.slice none 0 0) (.int .u64 0) 27 58 58
  have E := Lib.hid hV
  have Z1 := Lib.hid b2
  have O1 := Lib.hid b3
  have B1 := Lib.hid hB
  have W1 := Lib.hid (show XO csG 2 58 (w.heap.size + 1 + 1 + 1 + 1) V (.slice (some ⟨w.heap.size + 1 + 1 + 1 + 1, 0, none⟩) 0 0) 0 [] from ⟨hown 2, fun e he => by simp at he, fun e he => by simp at he⟩)
  have HSZ := Lib.hid hsz
  clear hV b1 b2 b3 hB hown hsz
  unfold jv
  go_enter Tryz.func34, Tryz.ntmps34
  go_wp2_with (at_builtin; rw [← E.out]; refine wpList_append_rring rfl _ _ rfl (w.heap.size + 1 + 1 + 1 + 1) _ 0 [] W1.out rfl ⟨b0, o0, none⟩ nr cr ls rfl HX.out.len ((HX.out.below B1.out).flat csG_len (by decide)) (HX.out.below B1.out).rows (fun e he hne ad hA e2 => ?ap) (by omega) (by omega) (by have := HSZ.out; omega) ?_)
  case ap =>
    have := row_block (HX.out.rows e he) hne hA
    simp only [Value.ownBlock, Option.some.injEq] at e2
    omega
  intro g cap w' hx hg
  have hgs := hx.own.lt g rfl
  have Z2 := Z1.out.grown hg (by simp [Value.ownBlock])
  have O2 := O1.out.grown hg (by simp [Value.ownBlock])
  have B2 := B1.out.grown hg B1.out.size (fun k hk => by simp [Value.ownBlock] at hk; omega)
  have v0 := hg.cell bx0 (by simp [Value.ownBlock])
  have v1 := hg.cell bx1 (by simp [Value.ownBlock])
  have hlen := HX.out.len
  have hrb : ∀ e ∈ ls, e.l ≠ [] → ∀ ad, e.A = some ad → ad.block ≠ w.heap.size + 1 + 1 + 1 := fun e he hne ad hA => by
    have := row_block (HX.out.rows e he) hne hA
    omega
  have p3 := O2.b5.c2
  have q3 := O2.f2
  have O3 := O2.set2 (.slice (some ⟨g, 0, none⟩) nr cap)
  have Z3 := Z2.far (p := ⟨w.heap.size + 1 + 1 + 1, 2, none⟩) (u := .slice (some ⟨g, 0, none⟩) nr cap) (by simp only; omega)
  have K3 := hx.far (X := w.heap.size + 1 + 1 + 1) (j := 2) (u := .slice (some ⟨g, 0, none⟩) nr cap) (by omega) hrb
  have B3 := B2.setCell (p := ⟨w.heap.size + 1 + 1 + 1, 2, none⟩) (by simp only; omega) (.slice (some ⟨g, 0, none⟩) nr cap)
  have HR3 := HR.out.below B3
  have vv0 : (w'.setCell ⟨w.heap.size + 1 + 1 + 1, 2, none⟩ (.slice (some ⟨g, 0, none⟩) nr cap)).cell? ⟨w.heap.size + 1, 0, none⟩ = some (.int .i64 x) := (World.cell?_setCell_other _ _ _ _ (fun e => by injection e with e; omega)).trans v0
  have vv1 : (w'.setCell ⟨w.heap.size + 1 + 1 + 1, 2, none⟩ (.slice (some ⟨g, 0, none⟩) nr cap)).cell? ⟨w.heap.size + 1, 1, none⟩ = some (.slice A m c) := (World.cell?_setCell_other _ _ _ _ (fun e => by injection e with e; omega)).trans v1
  have hra : Apart (.slice (some ⟨g, 0, none⟩) nr cap) ⟨x, l, A, m, c⟩ := fun hne ad hA e2 => by
    have := row_block HR.out hne hA
    simp only [Value.ownBlock, Option.some.injEq] at e2
    omega
  have K4 := K3.set2 n ⟨x, l, A, m, c⟩ hn HR3 hra
  obtain ⟨e0, he0⟩ : ∃ e, ls[n]? = some e := ⟨_, List.getElem?_eq_getElem (by omega)⟩
  have p4 := K3.own.cellAt (n * 2) (by omega)
  have p5 := flat_at csG_len ls n e0 0 he0 (by decide)
  rw [Nat.add_zero] at p5
  rw [p5] at p4
  have q4 := K3.own.frozenAt (n * 2)
  have p6 := K3.own.cellAt (n * 2 + 1) (by omega)
  have p7 := flat_at csG_len ls n e0 1 he0 (by decide)
  rw [p7] at p6
  have q6 := K3.own.frozenAt (n * 2 + 1)
  have O4 := (O3.far (p := ⟨g, n * 2, none⟩) (u := .int .i64 x) (by simp only; omega)).far (p := ⟨g, n * 2 + 1, none⟩) (u := .slice A m c) (by simp only; omega)
  have Z4 := (Z3.far (p := ⟨g, n * 2, none⟩) (u := .int .i64 x) (by simp only; omega)).far (p := ⟨g, n * 2 + 1, none⟩) (u := .slice A m c) (by simp only; omega)
  have B4 := (B3.setCell (p := ⟨g, n * 2, none⟩) (by simp only; omega) (.int .i64 x)).setCell (p := ⟨g, n * 2 + 1, none⟩) (by simp only; omega) (.slice A m c)
  have p40 : ((w'.setCell ⟨w.heap.size + 1 + 1 + 1, 2, none⟩ (.slice (some ⟨g, 0, none⟩) nr cap)).cell? ⟨g, n * 2, none⟩) = some (.int .i64 e0.x) := p4
  have p41 : ((w'.setCell ⟨w.heap.size + 1 + 1 + 1, 2, none⟩ (.slice (some ⟨g, 0, none⟩) nr cap)).cell? ⟨g, n * 2 + 1, none⟩) = some (.slice e0.A e0.n e0.c) := p6
  have P := O3.b5.c2
  clear p4 p5 p6 p7
  obtain ⟨W4, hW4⟩ : ∃ W4, W4 = ((w'.setCell ⟨w.heap.size + 1 + 1 + 1, 2, none⟩ (.slice (some ⟨g, 0, none⟩) nr cap)).setCell ⟨g, n * 2, none⟩ (.int .i64 x)).setCell ⟨g, n * 2 + 1, none⟩ (.slice A m c) := ⟨_, rfl⟩
  simp only at K4
  rw [← hW4] at K4 O4 Z4 B4
  have E4 := Lib.hid hW4
  have i0 : (0 : Int) ≤ (n : Int) := by omega
  have i1 : (n : Int) < (nr : Int) := by omega
  have KH := Lib.hid K4
  have ZH := Lib.hid Z4
  have BH := Lib.hid B4
  have GH := Lib.hid hgs
  have t0 := O4.b5.c0
  have t1 := O4.b5.c1
  have t2 := O4.b5.c2
  have t3 := O4.b5.c3
  have t4 := O4.b5.c4
  have y0 := Z4.b5.c0
  have y1 := Z4.b5.c1
  have y2 := Z4.b5.c2
  have y3 := Z4.b5.c3
  have y4 := Z4.b5.c4
  have g0 := Z4.f0
  have g1 := Z4.f1
  have g2 := Z4.f2
  have g3 := Z4.f3
  have g4 := Z4.f4
  clear hW4 hx hg Z2 O2 B2 O3 Z3 K3 B3 HR3 hra O4 Z4 B4 K4 Z1 O1 W1 HSZ hrb hgs bx0 bx1 v0 v1
  go_wp2_with (rw [← E4.out])
  have hgs := GH.out
  have hrb2 : ∀ e ∈ ls.set n ⟨x, l, A, m, c⟩, e.l ≠ [] → ∀ ad, e.A = some ad → ad.block ≠ w.heap.size + 1 + 1 := fun e he hne ad hA => by
    have : ad.block < w.heap.size := by
      rcases List.mem_or_eq_of_mem_set he with h' | rfl
      · exact row_block (HX.out.rows e h') hne hA
      · exact row_block HR.out hne hA
    omega
  have hg1 : g ≠ w.heap.size + 1 + 1 := by omega
  have K5 := ((((KH.out.far (j := 0) (u := .slice T nt ct) hg1 hrb2).far (j := 1) (u := .int .i64 r.size) hg1 hrb2).far (j := 2) (u := .slice (some ⟨g, 0, none⟩) nr cap) hg1 hrb2).far (j := 3) (u := .slice S ns cs) hg1 hrb2).far (j := 4) (u := .int .u64 (r.on : Nat)) hg1 hrb2
  obtain ⟨A5, c5, e5, hx5, _⟩ := K5.xr csG_len (by decide)
  injection e5 with e51 _ e52
  subst e51 e52
  have C9 := ZH.out.put (.slice T nt ct) (.int .i64 r.size) (.slice (some ⟨g, 0, none⟩) nr cap) (.slice S ns cs) (.int .u64 (r.on : Nat))
  have hq : w.heap.size ≤ w.heap.size + 1 + 1 := by omega
  have B9 := (((((BH.out.setCell (p := ⟨w.heap.size + 1 + 1, 0, none⟩) hq (.slice T nt ct)).setCell (p := ⟨w.heap.size + 1 + 1, 1, none⟩) hq (.int .i64 r.size)).setCell (p := ⟨w.heap.size + 1 + 1, 2, none⟩) hq (.slice (some ⟨g, 0, none⟩) nr cap)).setCell (p := ⟨w.heap.size + 1 + 1, 3, none⟩) hq (.slice S ns cs)).setCell (p := ⟨w.heap.size + 1 + 1, 4, none⟩) hq (.int .u64 (r.on : Nat)))
  have HB := (H.out.below B9).mono (G := More F w) More.in
  have HL9 : LieE (More F w) (some ⟨g, 0, none⟩) (ls.set n ⟨x, l, A, m, c⟩) := by
    refine ⟨fun _ ad e => ?_, fun e he hne ad hA => ?_⟩
    · injection e with e
      subst e
      exact .inr (by simp only; omega)
    · rcases List.mem_or_eq_of_mem_set he with h' | rfl
      · exact .inl (HLI.out.2 e h' hne ad hA)
      · exact .inl (HAF.out hne ad hA)
  have HF := TellJ.is (F := F) (w0 := w) (d := ⟨T, nt, ct, some ⟨g, 0, none⟩, nr, cap, S, ns, cs⟩) (r := Jp.ringed r n (x, l)) ⟨HB.tlen, HB.tmax, HB.fit, HB.tree, HB.lie, ⟨ls.set n ⟨x, l, A, m, c⟩, hx5, by
    unfold Jp.ringed
    simp only
    rw [HLS.out, List.map_set]
    rfl, HL9⟩, HB.rows, HB.on, HB.size⟩ B9
  have k0 := C9.b5.c0
  have k1 := C9.b5.c1
  have k2 := C9.b5.c2
  have k3 := C9.b5.c3
  have k4 := C9.b5.c4
  unfold put5 at k0 k1 k2 k3 k4
  refine bodyPost_ret ?_ rfl HF
  simp [results, Tryz.results34, go_sem, k0, k1, k2, k3, k4, jv, Jp.ringed]
end Go.Proofs.YtdohnhdjlhaaaaaGreatDoor

