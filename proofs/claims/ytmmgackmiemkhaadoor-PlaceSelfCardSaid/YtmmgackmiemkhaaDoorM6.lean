/- Contracts and plain mathematics, put together by program (wip/merge.py) out of: WPlain APlain ZOf ZOnes ZSet ZTz ZCnt. -/
import Derived.Test.YtmmgackmiemkhaaDoorM5
import Derived.Test.YtmmgackmiemkhaaDoorM3
import Derived.Test.YtmmgackmiemkhaaDoorM4
import Derived.Test.YtmmgackmiemkhaaDoorM0
import Derived.Laws.Bits128
/- Who is taken from others: in plain mathematics. -/
namespace Go.Proofs.YtmmgackmiemkhaaDoor.Jp
set_option linter.unusedVariables false

/-- Whether somebody can be taken from there, as far as that. -/
def vict (r : Rn) (p far q : Int) : Bool := !(Rp.all (ringAt r q.toNat)).isEmpty && decide (Dp.far r.tree p q ≤ far)
open Classical in
noncomputable def victims (r : Rn) (p far : Int) : List Int := if May r then (Dp.near r.tree p).filter (vict r p far) else []
structure Thief (r : Rn) (p : Int) : Prop where
  may : May r
  on : onP r p = true
  ring : Rp.all (ringAt r p.toNat) = []
  row : rowAt r (nodeOf r p.toNat) = []
/-- The nodes behind one, going round. -/
def round (r : Rn) (n : Nat) : List Nat := (List.range (r.rows.length - 1)).map (fun j => (n + (j + 1)) % r.rows.length)
def firsts (r : Rn) (n : Nat) : Option Nat := (round r n).find? (fun m => !(rowAt r m).isEmpty)
noncomputable def stealOn (r : Rn) (k : Nat) (far : Int) : Rn × Int × Int :=
  match victims r k far with
  | q :: _ => (ringed (ringed r q.toNat (Rp.half (ringAt r q.toNat)).1) k (0, (Rp.half (ringAt r q.toNat)).2.tail), (Rp.half (ringAt r q.toNat)).2.headD 0, Dp.far r.tree k q)
  | [] => if far < 3 then (r, 0, -1) else
    match firsts r (nodeOf r k) with
    | some m => (rowed r m (rowAt r m).tail, (rowAt r m).headD 0, 3)
    | none => (r, 0, -1)
open Classical in
noncomputable def steal (r : Rn) (p far : Int) : Rn × Int × Int := if Thief r p then stealOn r p.toNat far else (r, 0, -1)
theorem steal_no {r : Rn} {p far : Int} (h : ¬ Thief r p) : steal r p far = (r, 0, -1) := by unfold steal; rw [if_neg h]
theorem steal_on {r : Rn} {k : Nat} {far : Int} (h : Thief r k) : steal r k far = stealOn r k far := by unfold steal; rw [if_pos h]; rfl
theorem thief_lt {r : Rn} {p : Int} (h : Thief r p) : ∃ k : Nat, p = k ∧ k < r.rings.length := onP_lt h.may h.on
theorem procs_of {r : Rn} (h : May r) : Dp.procsN r.tree = r.rings.length := by rw [Dp.procsN_tree ((Tp.tree_iff r.tree).1 h.tree), h.rings]
theorem victims_no {r : Rn} {p far : Int} (h : ¬ May r) : victims r p far = [] := by unfold victims; rw [if_neg h]
theorem victims_may {r : Rn} {p far : Int} (h : May r) : victims r p far = (Dp.near r.tree p).filter (vict r p far) := by unfold victims; rw [if_pos h]
theorem victims_out {r : Rn} {p far : Int} (h : p < 0 ∨ (r.rings.length : Int) ≤ p) : victims r p far = [] := by
  by_cases hm : May r
  · rw [victims_may hm, Dp.near_out (by rw [procs_of hm]; exact h)]
    rfl
  · exact victims_no hm
theorem mem_victims {r : Rn} {p far q : Int} (h : May r) (h0 : 0 ≤ p) (h1 : p < r.rings.length) : q ∈ victims r p far ↔ 0 ≤ q ∧ q < r.rings.length ∧ q ≠ p ∧ Rp.all (ringAt r q.toNat) ≠ [] ∧ Dp.far r.tree p q ≤ far := by
  have hp := procs_of h
  rw [victims_may h, List.mem_filter, Dp.mem_near h0 (by rw [hp]; exact h1), hp]
  unfold vict
  simp only [Bool.and_eq_true, Bool.not_eq_true', List.isEmpty_eq_false_iff, decide_eq_true_eq, and_assoc, ne_eq]
theorem victim_at {r : Rn} {p far q : Int} (hq : q ∈ victims r p far) : May r ∧ (∃ k : Nat, p = k ∧ k < r.rings.length) ∧ (∃ j : Nat, q = j ∧ j < r.rings.length) ∧ q ≠ p ∧ Rp.all (ringAt r q.toNat) ≠ [] ∧ Dp.far r.tree p q ≤ far ∧ 1 ≤ Dp.far r.tree p q := by
  have hm : May r := Classical.byContradiction (fun h => by rw [victims_no h] at hq; cases hq)
  have hr : ¬ (p < 0 ∨ (r.rings.length : Int) ≤ p) := fun h => by rw [victims_out h] at hq; cases hq
  have h0 : 0 ≤ p := by omega
  have h1 : p < r.rings.length := by omega
  obtain ⟨a, b, c, d, e⟩ := (mem_victims hm h0 h1).1 hq
  have hp := procs_of hm
  exact ⟨hm, ⟨p.toNat, by omega, by omega⟩, ⟨q.toNat, by omega, by omega⟩, c, d, e, Dp.far_ne_zero h0 (by rw [hp]; exact h1) a (by rw [hp]; exact b) c⟩
theorem filter_prefix {l : List Int} {f : Int → Int} {c : Int → Bool} {d e : Int} (hl : l.Pairwise (fun a b => f a ≤ f b)) (hd : d ≤ e) : (l.filter (fun q => c q && decide (f q ≤ d))) <+: (l.filter (fun q => c q && decide (f q ≤ e))) := by
  induction l with
  | nil => exact List.prefix_refl _
  | cons x l ih =>
    obtain ⟨h1, h2⟩ := List.pairwise_cons.1 hl
    cases hc : c x
    · rw [List.filter_cons_of_neg (by simp [hc]), List.filter_cons_of_neg (by simp [hc])]
      exact ih h2
    · by_cases hx : f x ≤ d
      · rw [List.filter_cons_of_pos (by simp [hc, hx]), List.filter_cons_of_pos (by simp [hc]; omega)]
        exact List.cons_prefix_cons.2 ⟨rfl, ih h2⟩
      · have : (x :: l).filter (fun q => c q && decide (f q ≤ d)) = [] := by
          rw [List.filter_eq_nil_iff]
          intro z hz
          rcases List.mem_cons.1 hz with rfl | hz
          · simp [hx]
          · have := h1 z hz
            simp only [Bool.and_eq_true, decide_eq_true_eq, not_and]
            intro _
            omega
        rw [this]
        exact List.nil_prefix
theorem victims_prefix {r : Rn} {p d e : Int} (hd : d ≤ e) : victims r p d <+: victims r p e := by
  by_cases hm : May r
  · by_cases hr : p < 0 ∨ (r.rings.length : Int) ≤ p
    · rw [victims_out hr, victims_out hr]
      exact List.prefix_refl _
    · have hp := procs_of hm
      have hpw := (Dp.nearTo_pair (vs := r.tree) (p := p) (by omega) (by rw [hp]; omega) 3).1
      rw [← Dp.near_in (by rw [hp]; omega)] at hpw
      rw [victims_may hm, victims_may hm]
      exact filter_prefix (c := fun q => !(Rp.all (ringAt r q.toNat)).isEmpty) (f := Dp.far r.tree p) (hpw.imp (fun h => h.2)) hd
  · rw [victims_no hm, victims_no hm]
    exact List.prefix_refl _
theorem victims_zero {r : Rn} {p : Int} : victims r p 0 = [] := by
  cases h : victims r p 0 with
  | nil => rfl
  | cons q l =>
    obtain ⟨_, _, _, _, _, h5, h6⟩ := victim_at (r := r) (p := p) (far := 0) (q := q) (by rw [h]; exact List.mem_cons_self ..)
    omega
theorem victims_le {r : Rn} {p far : Int} : (victims r p far).length ≤ 3 * r.rings.length := by
  by_cases hm : May r
  · rw [victims_may hm]
    refine Nat.le_trans (List.length_filter_le _ _) ?_
    by_cases hr : p < 0 ∨ (Dp.procsN r.tree : Int) ≤ p
    · rw [Dp.near_out hr]; simp
    · rw [Dp.near_in hr, ← procs_of hm]; exact Dp.nearTo_le _ _ 3
  · rw [victims_no hm]; simp
/-- What a steal ends with. -/
inductive Sto (r : Rn) (k : Nat) (far : Int) : Rn → Int → Int → Prop
  | ring (q : Nat) (x : Int × List Int) (g : Int) (t : List Int) (hx : r.rings[q]? = some x) (hq : q ≠ k) (hb : (Rp.half x).2 = g :: t) (h1 : 1 ≤ Dp.far r.tree k q) (hf : Dp.far r.tree k q ≤ far) (hv : ∃ l, victims r k far = (q : Int) :: l) : Sto r k far (ringed (ringed r q (Rp.half x).1) k (0, t)) g (Dp.far r.tree k q)
  | row (m : Nat) (g : Int) (t : List Int) (hl : r.rows[m]? = some (g :: t)) (hm : m ≠ nodeOf r k) (hf : 3 ≤ far) (hv : victims r k far = []) (hfi : firsts r (nodeOf r k) = some m) : Sto r k far (rowed r m t) g 3
  | none (hv : victims r k far = []) (hn : far < 3 ∨ firsts r (nodeOf r k) = Option.none) : Sto r k far r 0 (-1)
theorem half_told {x : Int × List Int} (h : Rp.all x ≠ []) : ∃ g t, (Rp.half x).2 = g :: t := by
  obtain ⟨a, l⟩ := x
  unfold Rp.half
  cases l with
  | nil =>
    rw [if_pos (show (a, ([] : List Int)).2.length = 0 from rfl)]
    simp only
    cases e : Rp.all (a, []) with
    | nil => exact absurd e h
    | cons g t => exact ⟨g, t, rfl⟩
  | cons y l =>
    rw [if_neg (show ¬ (a, y :: l).2.length = 0 by simp)]
    refine ⟨y, l.take (Rp.hf (y :: l) - 1), ?_⟩
    have : Rp.hf (y :: l) = Rp.hf (y :: l) - 1 + 1 := by unfold Rp.hf; simp only [List.length_cons]; omega
    simp only
    rw [this, List.take_succ_cons]
    rfl
theorem mem_round {r : Rn} {n m : Nat} (hn : n < r.rows.length) : m ∈ round r n ↔ m < r.rows.length ∧ m ≠ n := by
  unfold round
  simp only [List.mem_map, List.mem_range]
  constructor
  · rintro ⟨j, hj, rfl⟩
    refine ⟨Nat.mod_lt _ (by omega), ?_⟩
    by_cases h : n + (j + 1) < r.rows.length
    · rw [Nat.mod_eq_of_lt h]; omega
    · rw [Nat.mod_eq_sub_mod (by omega), Nat.mod_eq_of_lt (by omega)]; omega
  · rintro ⟨h1, h2⟩
    by_cases h : n < m
    · exact ⟨m - n - 1, by omega, by rw [show n + (m - n - 1 + 1) = m by omega]; exact Nat.mod_eq_of_lt h1⟩
    · exact ⟨r.rows.length + m - n - 1, by omega, by rw [show n + (r.rows.length + m - n - 1 + 1) = m + r.rows.length by omega, Nat.add_mod_right]; exact Nat.mod_eq_of_lt h1⟩
theorem firsts_some {r : Rn} {n m : Nat} (hn : n < r.rows.length) (h : firsts r n = some m) : ∃ g t, r.rows[m]? = some (g :: t) ∧ m ≠ n := by
  unfold firsts at h
  obtain ⟨h1, h2⟩ := (mem_round hn).1 (List.mem_of_find?_eq_some h)
  have h3 := List.find?_some h
  cases e : rowAt r m with
  | nil => rw [e] at h3; cases h3
  | cons g t =>
    refine ⟨g, t, ?_, h2⟩
    have h4 : r.rows[m]? = some r.rows[m] := List.getElem?_eq_getElem h1
    rw [rowAt_some h4] at e
    rw [h4, e]
theorem firsts_none {r : Rn} {n : Nat} (hn : n < r.rows.length) (h : firsts r n = none) {m : Nat} {l : List Int} (hl : r.rows[m]? = some l) (hm : m ≠ n) : l = [] := by
  unfold firsts at h
  rw [List.find?_eq_none] at h
  have h1 := h m ((mem_round hn).2 ⟨(List.getElem?_eq_some_iff.1 hl).1, hm⟩)
  rw [rowAt_some hl] at h1
  simpa using h1
theorem sto {r : Rn} {k : Nat} (h : Thief r k) (hk : k < r.rings.length) (far : Int) : Sto r k far (stealOn r k far).1 (stealOn r k far).2.1 (stealOn r k far).2.2 := by
  have hn := node_lt h.may hk
  cases e : victims r k far with
  | cons q l =>
    obtain ⟨hm, _, ⟨j, rfl, hj⟩, hne, ha, hf, h1⟩ := victim_at (r := r) (p := k) (far := far) (q := q) (by rw [e]; exact List.mem_cons_self ..)
    have hx : r.rings[j]? = some (ringAt r j) := by rw [ringAt_some (List.getElem?_eq_getElem hj)]; exact List.getElem?_eq_getElem hj
    obtain ⟨g, t, hb⟩ := half_told (x := ringAt r j) ha
    have he : stealOn r k far = (ringed (ringed r j (Rp.half (ringAt r j)).1) k (0, t), g, Dp.far r.tree k j) := by
      unfold stealOn
      rw [e]
      simp only
      rw [show ((j : Int).toNat) = j from rfl, hb]
      rfl
    rw [he]
    exact .ring j _ g t hx (by omega) hb h1 hf ⟨l, e⟩
  | nil =>
    unfold stealOn
    rw [e]
    simp only
    by_cases hf : far < 3
    · rw [if_pos hf]
      exact .none e (.inl hf)
    · rw [if_neg hf]
      cases e2 : firsts r (nodeOf r k) with
      | none => exact .none e (.inr e2)
      | some m =>
        obtain ⟨g, t, hl, hm⟩ := firsts_some hn e2
        simp only
        rw [rowAt_some hl]
        exact .row m g t hl hm (by omega) e e2
end Go.Proofs.YtmmgackmiemkhaaDoor.Jp


/- Who is woken, in plain mathematics. -/
namespace Go.Proofs.YtmmgackmiemkhaaDoor.Jp
set_option linter.unusedVariables false

/-- Who is idle, and plugged. -/
def both (r : Rn) (idle : Nat) (q : Int) : Bool := Zp.has idle q && onP r q
open Classical in
noncomputable def wake (r : Rn) (idle : Nat) (p : Int) : Int :=
  if May r ∧ 0 ≤ p ∧ p < r.rings.length then if both r idle p = true then p else ((Dp.near r.tree p).find? (both r idle)).getD (-1) else -1
theorem wake_no {r : Rn} {idle : Nat} {p : Int} (h : ¬ (May r ∧ 0 ≤ p ∧ p < r.rings.length)) : wake r idle p = -1 := by unfold wake; rw [if_neg h]
theorem wake_self {r : Rn} {idle : Nat} {p : Int} (h : May r ∧ 0 ≤ p ∧ p < r.rings.length) (hb : both r idle p = true) : wake r idle p = p := by unfold wake; rw [if_pos h, if_pos hb]
theorem wake_near {r : Rn} {idle : Nat} {p : Int} (h : May r ∧ 0 ≤ p ∧ p < r.rings.length) (hb : both r idle p = false) : wake r idle p = ((Dp.near r.tree p).find? (both r idle)).getD (-1) := by unfold wake; rw [if_pos h, if_neg (by rw [hb]; decide)]
/-- The first one of a list that is both, in steps. -/
theorem find_at {r : Rn} {idle : Nat} {l : List Int} {j : Nat} {q : Int} (hq : l[j]? = some q) (h : both r idle q = true) (hb : ∀ (i : Nat) y, i < j → l[i]? = some y → both r idle y = false) : l.find? (both r idle) = some q := by
  rw [List.find?_eq_some_iff_getElem]
  obtain ⟨h1, h2⟩ := List.getElem?_eq_some_iff.1 hq
  exact ⟨h, j, h1, h2, fun i hi => by rw [hb i _ hi (List.getElem?_eq_getElem (by omega))]; rfl⟩
theorem find_no {r : Rn} {idle : Nat} {l : List Int} (hb : ∀ (i : Nat) y, l[i]? = some y → both r idle y = false) : l.find? (both r idle) = none := by
  rw [List.find?_eq_none]
  intro y hy
  obtain ⟨i, hi⟩ := List.mem_iff_getElem?.1 hy
  rw [hb i y hi]
  decide
theorem near_in {r : Rn} {p q : Int} {j : Nat} (h : May r) (hq : (Dp.near r.tree p)[j]? = some q) : ∃ k : Nat, q = k ∧ k < r.rings.length := by
  have hp := procs_of h
  by_cases hr : p < 0 ∨ (Dp.procsN r.tree : Int) ≤ p
  · rw [Dp.near_out hr] at hq; cases hq
  · obtain ⟨a, b, _⟩ := (Dp.mem_near (by omega) (by omega)).1 (List.mem_of_getElem? hq)
    exact ⟨q.toNat, by omega, by omega⟩
theorem near_few {r : Rn} {p : Int} (h : May r) : (Dp.near r.tree p).length ≤ 3 * r.rings.length := by
  by_cases hr : p < 0 ∨ (Dp.procsN r.tree : Int) ≤ p
  · rw [Dp.near_out hr]; simp
  · rw [Dp.near_in hr, ← procs_of h]; exact Dp.nearTo_le _ _ 3
/-- Where a wake ends. -/
inductive Woken (r : Rn) (idle : Nat) (k : Nat) : Int → Prop
  | self (hb : both r idle k = true) : Woken r idle k k
  | near (q j : Nat) (hk : both r idle k = false) (hq : (Dp.near r.tree k)[j]? = some (q : Int)) (hl : q < r.rings.length) (hne : q ≠ k) (hb : both r idle q = true) (h0 : ∀ (i : Nat) y, i < j → (Dp.near r.tree k)[i]? = some y → both r idle y = false) : Woken r idle k q
  | none (hk : both r idle k = false) (h0 : ∀ y ∈ Dp.near r.tree k, both r idle y = false) : Woken r idle k (-1)
theorem woken {r : Rn} (h : May r) {k : Nat} (hk : k < r.rings.length) (idle : Nat) : Woken r idle k (wake r idle k) := by
  have hp := procs_of h
  have hin : May r ∧ (0 : Int) ≤ (k : Int) ∧ (k : Int) < r.rings.length := ⟨h, by omega, by omega⟩
  cases hb : both r idle k with
  | true => rw [wake_self hin hb]; exact .self hb
  | false =>
    rw [wake_near hin hb]
    cases hf : (Dp.near r.tree k).find? (both r idle) with
    | none =>
      rw [List.find?_eq_none] at hf
      exact .none hb (fun y hy => by have := hf y hy; simpa using this)
    | some q =>
      obtain ⟨h1, j, h2, h3, h4⟩ := List.find?_eq_some_iff_getElem.1 hf
      have hq : (Dp.near r.tree k)[j]? = some q := by rw [List.getElem?_eq_getElem h2, h3]
      obtain ⟨a, b, c⟩ := (Dp.mem_near (by omega) (by rw [hp]; omega)).1 (List.mem_of_getElem? hq)
      obtain ⟨q', rfl⟩ : ∃ q' : Nat, q = q' := ⟨q.toNat, by omega⟩
      refine .near q' j hb hq (by omega) (by omega) h1 (fun i y hi hy => ?_)
      obtain ⟨h5, h6⟩ := List.getElem?_eq_some_iff.1 hy
      have := h4 i hi
      rw [h6] at this
      simpa using this
theorem onP_has (r : Rn) (q : Int) : onP r q = Zp.has r.on q := by
  rw [Zp.has_mem]
  unfold onP
  rw [Bool.eq_iff_iff, decide_eq_true_iff, has_iff]
theorem both_lt {r : Rn} (h : May r) {idle : Nat} {q : Int} (hb : both r idle q = true) : ∃ k : Nat, q = k ∧ k < r.rings.length := by
  unfold both at hb
  rw [Bool.and_eq_true] at hb
  have hm := has_iff.1 hb.2
  have h1 := Zp.mem_in hm
  have h2 := h.few q hm
  exact ⟨q.toNat, by omega, by omega⟩
theorem both_and (r : Rn) (idle : Nat) (q : Int) : both r idle q = Zp.has (idle &&& r.on) q := by
  unfold both
  rw [onP_has]
  by_cases h : q < 0 ∨ 64 ≤ q
  · rw [Zp.has_out _ _ h, Zp.has_out _ _ h, Zp.has_out _ _ h]; rfl
  · obtain ⟨k, rfl⟩ : ∃ k : Nat, q = k := ⟨q.toNat, by omega⟩
    rw [Zp.has_bit, Zp.has_bit, Zp.has_bit, Nat.testBit_and]
    have : k < 64 := by omega
    simp [this]
/-- Somebody is both, just if the numbers of both have a bit. -/
theorem some_both {r : Rn} {idle : Nat} (hi : idle < 18446744073709551616) : idle &&& r.on ≠ 0 ↔ ∃ q : Int, both r idle q = true := by
  constructor
  · intro h
    have hl : idle &&& r.on < 18446744073709551616 := Zp.and_lt hi
    obtain ⟨h1, h2, _⟩ := Zp.ctz_bits h hl
    exact ⟨(Lib.ctz 64 (idle &&& r.on) : Nat), by rw [both_and, Zp.has_bit, h2]; simp [h1]⟩
  · rintro ⟨q, hq⟩ h0
    rw [both_and, h0] at hq
    unfold Zp.has at hq
    simp at hq
/-- Nobody who is both is nearer than who is woken. -/
theorem Woken.nearest {r : Rn} {idle k : Nat} {q : Int} (h : Woken r idle k q) (hm : May r) (hk : k < r.rings.length) {o : Nat} (ho : both r idle o = true) : Dp.far r.tree k q ≤ Dp.far r.tree k o ∧ q ≠ -1 := by
  have hp := procs_of hm
  obtain ⟨o', ho', hol⟩ := both_lt hm ho
  have hoo : o < r.rings.length := by omega
  cases h with
  | self hb =>
    refine ⟨?_, by omega⟩
    by_cases e : o = k
    · subst e; exact Int.le_refl _
    · have h1 := Dp.far_ne_zero (vs := r.tree) (p := k) (z := o) (by omega) (by rw [hp]; omega) (by omega) (by rw [hp]; omega) (by omega)
      have h2 : Dp.far r.tree k k = 0 := by rw [Dp.far_in (by rw [hp]; omega), Dp.farV_self]
      omega
  | near q j hk' hq hl hne hb h0 =>
    refine ⟨?_, by omega⟩
    have hok : (o : Int) ≠ k := fun e => by rw [e, hk'] at ho; cases ho
    have hmem := (Dp.mem_near (vs := r.tree) (p := k) (z := o) (by omega) (by rw [hp]; omega)).2 ⟨by omega, by rw [hp]; omega, hok⟩
    obtain ⟨i, hi⟩ := List.mem_iff_getElem?.1 hmem
    have hji : j ≤ i := by
      apply Nat.le_of_not_lt
      intro hlt
      rw [h0 i _ hlt hi] at ho
      cases ho
    by_cases e : j = i
    · subst e
      rw [hq] at hi
      injection hi with hi
      rw [hi]
      exact Int.le_refl _
    · have hpw := (Dp.nearTo_pair (vs := r.tree) (p := k) (by omega) (by rw [hp]; omega) 3).1
      rw [← Dp.near_in (by rw [hp]; omega)] at hpw
      obtain ⟨h5, h6⟩ := List.getElem?_eq_some_iff.1 hq
      obtain ⟨h7, h8⟩ := List.getElem?_eq_some_iff.1 hi
      have := List.pairwise_iff_getElem.1 hpw j i h5 h7 (by omega)
      rw [h6, h8] at this
      exact this.2
  | none hk' h0 =>
    have hok : (o : Int) ≠ k := fun e => by rw [e, hk'] at ho; cases ho
    have hmem := (Dp.mem_near (vs := r.tree) (p := k) (z := o) (by omega) (by rw [hp]; omega)).2 ⟨by omega, by rw [hp]; omega, hok⟩
    rw [h0 _ hmem] at ho
    cases ho
theorem Woken.both {r : Rn} {idle k : Nat} {q : Int} (h : Woken r idle k q) : q = -1 ∨ ∃ j : Nat, q = j ∧ Jp.both r idle j = true := by
  cases h with
  | self hb => exact .inr ⟨k, rfl, hb⟩
  | near q j hk' hq hl hne hb h0 => exact .inr ⟨q, rfl, hb⟩
  | none => exact .inl rfl
theorem has_wth {x : Nat} (hx : x < 18446744073709551616) (n z : Int) : Zp.has (Zp.wth x n) z = (Zp.has x z || decide (z = n ∧ 0 ≤ z ∧ z < 64)) := by
  by_cases h : z < 0 ∨ 64 ≤ z
  · rw [Zp.has_out _ _ h, Zp.has_out _ _ h, decide_eq_false (by omega)]; rfl
  · obtain ⟨k, rfl⟩ : ∃ k : Nat, z = k := ⟨z.toNat, by omega⟩
    rw [Zp.has_bit, Zp.has_bit, Zp.wth_bit]
    have h1 : k < 64 := by omega
    rw [decide_eq_true h1, Bool.true_and, Bool.true_and]
    congr 1
    rw [decide_eq_decide]
    omega
theorem has_wout {x : Nat} (hx : x < 18446744073709551616) (n z : Int) : Zp.has (Zp.wout x n) z = (Zp.has x z && !decide (z = n)) := by
  by_cases h : z < 0 ∨ 64 ≤ z
  · rw [Zp.has_out _ _ h, Zp.has_out _ _ h]; rfl
  · obtain ⟨k, rfl⟩ : ∃ k : Nat, z = k := ⟨z.toNat, by omega⟩
    rw [Zp.has_bit, Zp.has_bit, Zp.wout_bit hx, Bool.and_assoc]
theorem both_wth {r : Rn} {idle : Nat} (hi : idle < 18446744073709551616) {n z : Int} (hne : z ≠ n) : both r (Zp.wth idle n) z = both r idle z := by
  unfold both
  rw [has_wth hi, decide_eq_false (fun h => hne h.1), Bool.or_false]
theorem both_wout {r : Rn} {idle : Nat} (hi : idle < 18446744073709551616) {n z : Int} (hne : z ≠ n) : both r (Zp.wout idle n) z = both r idle z := by
  unfold both
  rw [has_wout hi, decide_eq_false hne, Bool.not_false, Bool.and_true]
/-- With one no more idle, or idle for certain. -/
theorem wake_with {r : Rn} (h : May r) {k : Nat} (hk : k < r.rings.length) (h64 : r.rings.length ≤ 64) {idle : Nat} (hi : idle < 18446744073709551616) :
    (wake r (Zp.wth idle k) k = k ↔ onP r k = true) ∧ wake r (Zp.wout idle k) k ≠ k ∧ (wake r (Zp.wth idle k) k = k ∨ wake r (Zp.wth idle k) k = wake r (Zp.wout idle k) k) := by
  have hp := procs_of h
  have hin : May r ∧ (0 : Int) ≤ (k : Int) ∧ (k : Int) < r.rings.length := ⟨h, by omega, by omega⟩
  have e1 : both r (Zp.wth idle k) k = onP r k := by unfold both; rw [has_wth hi, decide_eq_true ⟨rfl, by omega, by omega⟩, Bool.or_true, Bool.true_and]
  have e2 : both r (Zp.wout idle k) k = false := by unfold both; rw [has_wout hi, decide_eq_true rfl, Bool.not_true, Bool.and_false, Bool.false_and]
  have near : ∀ y ∈ Dp.near r.tree k, y ≠ (k : Int) := fun y hy => ((Dp.mem_near (by omega) (by rw [hp]; omega)).1 hy).2.2
  have far : ∀ x : Nat, ((Dp.near r.tree k).find? (both r x)).getD (-1) ≠ (k : Int) := fun x e => by
    cases hf : (Dp.near r.tree k).find? (both r x) with
    | none => rw [hf] at e; simp only [Option.getD_none] at e; omega
    | some q => rw [hf] at e; exact near q (List.mem_of_find?_eq_some hf) e
  have same : (Dp.near r.tree k).find? (both r (Zp.wth idle k)) = (Dp.near r.tree k).find? (both r (Zp.wout idle k)) := by
    have : ∀ l : List Int, (∀ y ∈ l, y ≠ (k : Int)) → l.find? (both r (Zp.wth idle k)) = l.find? (both r (Zp.wout idle k)) := fun l hl => by
      induction l with
      | nil => rfl
      | cons y l ih =>
        have hy := hl y (List.mem_cons_self ..)
        rw [List.find?_cons, List.find?_cons, both_wth hi hy, both_wout hi hy, ih (fun z hz => hl z (List.mem_cons_of_mem _ hz))]
    exact this _ near
  refine ⟨⟨fun h1 => ?_, fun h1 => wake_self hin (by rw [e1]; exact h1)⟩, ?_, ?_⟩
  · cases ho : onP r k with
    | true => rfl
    | false =>
      rw [wake_near hin (by rw [e1]; exact ho)] at h1
      exact absurd h1 (far _)
  · rw [wake_near hin e2]
    exact far _
  · cases ho : onP r k with
    | true => exact .inl (wake_self hin (by rw [e1]; exact ho))
    | false => exact .inr (by rw [wake_near hin (by rw [e1]; exact ho), wake_near hin e2, same])
/-- Of Runs that may be: the first one of p and of those near it that is both, whatever p is. -/
theorem wake_row {r : Rn} (h : May r) (idle : Nat) (p : Int) : wake r idle p = ((p :: Dp.near r.tree p).find? (both r idle)).getD (-1) := by
  by_cases hin : 0 ≤ p ∧ p < r.rings.length
  · rw [List.find?_cons]
    cases hb : both r idle p with
    | true => rw [wake_self ⟨h, hin⟩ hb]; rfl
    | false => rw [wake_near ⟨h, hin⟩ hb]
  · have hp := procs_of h
    rw [wake_no (fun h' => hin h'.2), Dp.near_out (by rw [hp]; omega), List.find?_cons]
    cases hb : both r idle p with
    | true =>
      obtain ⟨k, hk, hl⟩ := both_lt h hb
      exact absurd ⟨by omega, by omega⟩ hin
    | false => rfl
/-- Who is idle, and who is plugged, as the two numbers of a row. -/
def two (a b k : Nat) : Nat := if k = 0 then a else b
theorem two_both {r : Rn} {idle : Nat} {q : Int} (h : ∀ k, k < 2 → Zp.has (two idle r.on k) q = true) : both r idle q = true := by
  have h0 := h 0 (by decide)
  have h1 := h 1 (by decide)
  unfold two at h0 h1
  rw [if_pos rfl] at h0
  rw [if_neg (by decide)] at h1
  unfold both
  rw [onP_has, h0, h1]
  rfl
theorem two_not {r : Rn} {idle k : Nat} {q : Int} (hk : k < 2) (h : Zp.has (two idle r.on k) q = false) : both r idle q = false := by
  unfold both
  rw [onP_has]
  unfold two at h
  by_cases e : k = 0
  · rw [if_pos e] at h
    rw [h]
    rfl
  · rw [if_neg e] at h
    rw [h, Bool.and_false]
end Go.Proofs.YtmmgackmiemkhaaDoor.Jp


/- bits.Of by its contract: the bits of all numbers that can be members. -/
namespace Go.Proofs.YtmmgackmiemkhaaDoor
open Go.RowKit
set_option linter.unusedVariables false

theorem wrap_pow (m : Nat) (h : m < 64) : IntKind.u64.wrap ((2 : Int) ^ m) = ((2 ^ m : Nat) : Int) := by
  have h1 : 2 ^ m < 18446744073709551616 := by have := Nat.pow_lt_pow_right (a := 2) (by decide) h; omega
  rw [IntKind.wrap_u64, show (2 : Int) ^ m = ((2 ^ m : Nat) : Int) by rw [Int.natCast_pow]; rfl, Int.emod_eq_of_lt (Int.natCast_nonneg _) (by generalize 2 ^ m = q at h1; omega)]
theorem or_one (s m : Nat) (hs : s < 18446744073709551616) (h : m < 64) : bits .or .u64 (s : Int) (IntKind.u64.wrap ((2 : Int) ^ m)) = ((s ||| Zp.one (m : Int) : Nat) : Int) := by
  have h1 : 2 ^ m < 18446744073709551616 := by have := Nat.pow_lt_pow_right (a := 2) (by decide) h; omega
  rw [wrap_pow m h, bits_or_u64_nat _ _ hs h1, show Zp.one (m : Int) = 2 ^ m by unfold Zp.one; rw [if_pos (by omega), Int.toNat_natCast]]
theorem of_any (A : Option Addr) (n c : Nat) (zs : List Int) (w : World) (h : Row w A n c zs) :
    Calls Tryd.prog 16 #[.slice A n c] w fun e w' => e = .returned (.int .u64 (Zp.ofL zs : Nat)) ∧ w' = w := by
  have h1 := h.cap
  have h2 := h.most
  have H := Lib.hid h
  clear h
  go_enter Tryd.func16, Tryd.ntmps16
  go_wp2
  go_loop [3, 8] (fun s i => ∃ k : Nat, k ≤ n ∧ i = .int .i64 k ∧ s = .int .u64 (Zp.ofL (zs.take k) : Nat))
    (fun _ i => n - (intOf i).toNat)
  case atStart => exact ⟨0, Nat.zero_le _, rfl, rfl⟩
  case round =>
    obtain ⟨k, hk, rfl, rfl⟩ := hrel
    by_cases hlt : k < n
    · obtain ⟨x, hx⟩ : ∃ x, zs[k]? = some x := ⟨_, List.getElem?_eq_getElem (by have := H.out.len; omega)⟩
      obtain ⟨b, off, hA, hbk, hc⟩ := H.out.row k x hx
      subst hA
      have hs : zs.take (k + 1) = zs.take k ++ [x] := by rw [List.take_add_one, hx]; rfl
      have HS := Lib.hid (show Zp.ofL (zs.take (k + 1)) = Zp.ofL (zs.take k) ||| Zp.one x by rw [hs, Zp.ofL_snoc])
      have hlt64 := Zp.ofL_lt (zs.take k)
      generalize Zp.ofL (zs.take k) = s at HS hlt64
      clear hx hs
      by_cases hx0 : 0 ≤ x
      · by_cases hx1 : x < 64
        · obtain ⟨m, rfl⟩ := Int.eq_ofNat_of_zero_le hx0
          have hm : m < 64 := by omega
          go_wp2
          go_round
          case rel =>
            refine ⟨k + 1, by omega, by go_num, ?_⟩
            rw [HS.out, or_one s m hlt64 hm]
          case measure => simp [intOf]; omega
        · go_wp2
          go_round
          case rel => exact ⟨k + 1, by omega, by go_num, by rw [HS.out, show Zp.one x = 0 from if_neg (by omega), Nat.or_zero]⟩
          case measure => simp [intOf]; omega
      · go_wp2
        go_round
        case rel => exact ⟨k + 1, by omega, by go_num, by rw [HS.out, show Zp.one x = 0 from if_neg (by omega), Nat.or_zero]⟩
        case measure => simp [intOf]; omega
    · go_wp2
      go_ret
      have e := H.out.len
      rw [List.take_of_length_le (by omega)]
      exact ⟨rfl, rfl⟩
end Go.Proofs.YtmmgackmiemkhaaDoor


/- How many members a set has, in plain mathematics: the bits of a number of 64, added up in pairs, in fours, in bytes. -/
namespace Go.Proofs.YtmmgackmiemkhaaDoor.Zp

def cnt (k x : Nat) : Nat := (memTo k x).length
theorem cnt_zero (x : Nat) : cnt 0 x = 0 := rfl
theorem cnt_succ (k x : Nat) : cnt (k + 1) x = cnt k x + x / 2 ^ k % 2 := by
  unfold cnt
  rw [memTo_succ, List.length_append]
  congr 1
  rw [Nat.testBit_eq_decide_div_mod_eq]
  by_cases h : x / 2 ^ k % 2 = 1
  · rw [decide_eq_true h, if_pos rfl, h]; rfl
  · rw [decide_eq_false h, if_neg (by simp), List.length_nil]; omega
theorem cnt_le (k x : Nat) : cnt k x ≤ k := memTo_len k x
theorem cnt_split (j x : Nat) : cnt (8 + j) x = cnt 8 (x % 256) + cnt j (x / 256) := by
  induction j with
  | zero =>
    rw [cnt_zero, Nat.add_zero, Nat.add_zero]
    unfold cnt memTo bitsTo
    rw [show (List.range 8).filter (fun i => x.testBit i) = (List.range 8).filter (fun i => (x % 256).testBit i) from List.filter_congr fun i hi => by
      have := List.mem_range.1 hi
      rw [show (256 : Nat) = 2 ^ 8 from rfl, Nat.testBit_mod_two_pow, decide_eq_true this, Bool.true_and]]
  | succ j ih =>
    rw [← Nat.add_assoc, cnt_succ (8 + j), ih, cnt_succ j, Nat.add_assoc]
    have e : x / 2 ^ (8 + j) = x / 256 / 2 ^ j := by rw [Nat.pow_add, ← Nat.div_div_eq_div_mul]
    rw [e]
def g1 (b : Nat) : Nat := (b / 2 &&& 85) + (b &&& 85)
def g2 (c : Nat) : Nat := (c / 4 &&& 51) + (c &&& 51)
def g3 (c : Nat) : Nat := (c / 16 + c) &&& 15
theorem byte_ok : ∀ b, b < 256 → g1 b < 256 ∧ g2 (g1 b) < 256 ∧ g2 (g1 b) % 16 ≤ 4 ∧ g2 (g1 b) / 16 ≤ 4 ∧ g3 (g2 (g1 b)) = cnt 8 b := by decide +kernel
theorem lo85 : ∀ e, e < 2 → ∀ c, c < 128 → (128 * e + c) &&& 85 = c &&& 85 := by decide +kernel
theorem lo51 : ∀ e, e < 4 → ∀ c, c < 64 → (64 * e + c) &&& 51 = c &&& 51 := by decide +kernel
theorem lo15 (e c : Nat) : (16 * e + c) &&& 15 = c &&& 15 := by
  rw [show (15 : Nat) = 2 ^ 4 - 1 from rfl, Nat.and_two_pow_sub_one_eq_mod, Nat.and_two_pow_sub_one_eq_mod]; omega
def mk (d : Nat) : Nat → Nat
  | 0 => 0
  | k + 1 => 256 * mk d k + d
theorem mk_succ (d k : Nat) : mk d (k + 1) = 256 * mk d k + d := rfl
theorem mk85 : mk 85 8 = 6148914691236517205 := by decide +kernel
theorem mk51 : mk 51 8 = 3689348814741910323 := by decide +kernel
theorem mk15 : mk 15 8 = 1085102592571150095 := by decide +kernel
theorem and256 (a b c d : Nat) (hb : b < 256) (hd : d < 256) : (256 * a + b) &&& (256 * c + d) = 256 * (a &&& c) + (b &&& d) := by
  have h1 := Nat.and_div_two_pow (a := 256 * a + b) (b := 256 * c + d) (n := 8)
  have h2 := Nat.and_mod_two_pow (a := 256 * a + b) (b := 256 * c + d) (n := 8)
  have h3 := Nat.div_add_mod ((256 * a + b) &&& (256 * c + d)) 256
  rw [show (2 : Nat) ^ 8 = 256 from rfl] at h1 h2
  rw [show (256 * a + b) / 256 = a by omega, show (256 * c + d) / 256 = c by omega] at h1
  rw [show (256 * a + b) % 256 = b by omega, show (256 * c + d) % 256 = d by omega] at h2
  rw [← h3, h1, h2]
def Y1 (k x : Nat) : Nat := (x / 2 &&& mk 85 k) + (x &&& mk 85 k)
def Y2 (k x : Nat) : Nat := (x / 4 &&& mk 51 k) + (x &&& mk 51 k)
def Y3 (k x : Nat) : Nat := (x / 16 + x) &&& mk 15 k
theorem Y1_succ (k x b : Nat) (hb : b < 256) : Y1 (k + 1) (256 * x + b) = 256 * Y1 k x + g1 b := by
  unfold Y1 g1
  rw [mk_succ, show (256 * x + b) / 2 = 256 * (x / 2) + (128 * (x % 2) + b / 2) by omega, and256 _ _ _ _ (by omega) (by omega), and256 _ _ _ _ hb (by omega), lo85 _ (by omega) _ (by omega)]
  omega
theorem Y2_succ (k x b : Nat) (hb : b < 256) : Y2 (k + 1) (256 * x + b) = 256 * Y2 k x + g2 b := by
  unfold Y2 g2
  rw [mk_succ, show (256 * x + b) / 4 = 256 * (x / 4) + (64 * (x % 4) + b / 4) by omega, and256 _ _ _ _ (by omega) (by omega), and256 _ _ _ _ hb (by omega), lo51 _ (by omega) _ (by omega)]
  omega
theorem Y3_succ (k x b : Nat) (hx : x % 16 ≤ 4) (h1 : b % 16 ≤ 4) (h2 : b / 16 ≤ 4) : Y3 (k + 1) (256 * x + b) = 256 * Y3 k x + g3 b := by
  unfold Y3 g3
  rw [mk_succ, show (256 * x + b) / 16 + (256 * x + b) = 256 * (x / 16 + x) + (16 * (x % 16) + (b / 16 + b)) by omega, and256 _ _ _ _ (by omega) (by omega), lo15]
theorem Y2_low (k x : Nat) : Y2 k (Y1 k x) % 16 ≤ 4 := by
  cases k with
  | zero => simp [Y2, mk]
  | succ k =>
    obtain ⟨h1, h2, h3, _⟩ := byte_ok (x % 256) (by omega)
    rw [show Y1 (k + 1) x = 256 * Y1 k (x / 256) + g1 (x % 256) by rw [← Y1_succ _ _ _ (by omega)]; congr 1; omega, Y2_succ _ _ _ h1]
    omega
def S (k x : Nat) : Nat := Y3 k (Y2 k (Y1 k x))
theorem S_succ (k x : Nat) : S (k + 1) x = 256 * S k (x / 256) + cnt 8 (x % 256) := by
  obtain ⟨h1, h2, h3, h4, h5⟩ := byte_ok (x % 256) (by omega)
  unfold S
  rw [show Y1 (k + 1) x = 256 * Y1 k (x / 256) + g1 (x % 256) by rw [← Y1_succ _ _ _ (by omega)]; congr 1; omega, Y2_succ _ _ _ h1, Y3_succ _ _ _ (Y2_low _ _) h3 h4, h5]
theorem S_zero (x : Nat) : S 0 x = 0 := by simp [S, Y3, mk]
theorem fold_up (c0 c1 c2 c3 c4 c5 c6 c7 y3 y4 y5 y6 : Nat) (h0 : c0 ≤ 8) (h1 : c1 ≤ 8) (h2 : c2 ≤ 8) (h3 : c3 ≤ 8) (h4 : c4 ≤ 8) (h5 : c5 ≤ 8) (h6 : c6 ≤ 8) (h7 : c7 ≤ 8)
    (e3 : y3 = 256 * (256 * (256 * (256 * (256 * (256 * (256 * c7 + c6) + c5) + c4) + c3) + c2) + c1) + c0) (e4 : y4 = y3 + y3 / 256) (e5 : y5 = y4 + y4 / 65536) (e6 : y6 = y5 + y5 / 4294967296) :
    y6 % 128 = c0 + c1 + c2 + c3 + c4 + c5 + c6 + c7 ∧ y6 < 9223372036854775808 := by
  have d4 : y4 = 256 * (256 * (256 * (256 * (256 * (256 * (256 * c7 + (c6 + c7)) + (c5 + c6)) + (c4 + c5)) + (c3 + c4)) + (c2 + c3)) + (c1 + c2)) + (c0 + c1) := by omega
  have d5 : y5 = 256 * (256 * (256 * (256 * (256 * (256 * (256 * c7 + (c6 + c7)) + (c5 + c6 + c7)) + (c4 + c5 + c6 + c7)) + (c3 + c4 + c5 + c6)) + (c2 + c3 + c4 + c5)) + (c1 + c2 + c3 + c4)) + (c0 + c1 + c2 + c3) := by clear e3; omega
  clear e3 e4 d4 e5
  have q : y5 / 4294967296 = 256 * (256 * (256 * c7 + (c6 + c7)) + (c5 + c6 + c7)) + (c4 + c5 + c6 + c7) := by omega
  rw [q] at e6
  clear q
  have d6 : y6 = 256 * (256 * (256 * (256 * (256 * (256 * (256 * c7 + (c6 + c7)) + (c5 + c6 + c7)) + (c4 + c5 + c6 + c7)) + (c3 + c4 + c5 + c6 + c7)) + (c2 + c3 + c4 + c5 + c6 + c7)) + (c1 + c2 + c3 + c4 + c5 + c6 + c7)) + (c0 + c1 + c2 + c3 + c4 + c5 + c6 + c7) := by omega
  clear e6 d5
  omega
/-- The bits of a number of 64, by the steps of the library's text. -/
theorem ones_up (x y1 y2 y3 y4 y5 y6 : Nat) (e1 : y1 = (x / 2 &&& 6148914691236517205) + (x &&& 6148914691236517205)) (e2 : y2 = (y1 / 4 &&& 3689348814741910323) + (y1 &&& 3689348814741910323))
    (e3 : y3 = (y2 / 16 + y2) &&& 1085102592571150095) (e4 : y4 = y3 + y3 / 256) (e5 : y5 = y4 + y4 / 65536) (e6 : y6 = y5 + y5 / 4294967296) :
    y6 % 128 = (mem x).length ∧ y6 < 9223372036854775808 := by
  have hS : y3 = S 8 x := by
    unfold S Y3 Y2 Y1
    rw [mk85, mk51, mk15, e3, e2, e1]
  have hc : (mem x).length = cnt 64 x := rfl
  rw [hc, show cnt 64 x = cnt 8 (x % 256) + cnt 56 (x / 256) from cnt_split 56 x, show ∀ x, cnt 56 x = cnt 8 (x % 256) + cnt 48 (x / 256) from cnt_split 48, show ∀ x, cnt 48 x = cnt 8 (x % 256) + cnt 40 (x / 256) from cnt_split 40,
    show ∀ x, cnt 40 x = cnt 8 (x % 256) + cnt 32 (x / 256) from cnt_split 32, show ∀ x, cnt 32 x = cnt 8 (x % 256) + cnt 24 (x / 256) from cnt_split 24, show ∀ x, cnt 24 x = cnt 8 (x % 256) + cnt 16 (x / 256) from cnt_split 16,
    show ∀ x, cnt 16 x = cnt 8 (x % 256) + cnt 8 (x / 256) from cnt_split 8, show ∀ x, cnt 8 (x / 256) = cnt 8 (x / 256 % 256) + cnt 0 (x / 256 / 256) from fun x => cnt_split 0 _, cnt_zero]
  rw [S_succ 7, S_succ 6, S_succ 5, S_succ 4, S_succ 3, S_succ 2, S_succ 1, S_succ 0, S_zero, Nat.mul_zero, Nat.zero_add] at hS
  have r := fold_up _ _ _ _ _ _ _ _ y3 y4 y5 y6 (cnt_le 8 _) (cnt_le 8 _) (cnt_le 8 _) (cnt_le 8 _) (cnt_le 8 _) (cnt_le 8 _) (cnt_le 8 _) (cnt_le 8 _) hS e4 e5 e6
  clear hS e1 e2 e3 e4 e5 e6 hc
  omega
theorem y_bounds (x y1 y2 y3 : Nat) (e1 : y1 = (x / 2 &&& 6148914691236517205) + (x &&& 6148914691236517205)) (e2 : y2 = (y1 / 4 &&& 3689348814741910323) + (y1 &&& 3689348814741910323)) (e3 : y3 = (y2 / 16 + y2) &&& 1085102592571150095) :
    y1 ≤ 12297829382473034410 ∧ y2 ≤ 7378697629483820646 ∧ y3 ≤ 1085102592571150095 := by
  have a1 := Nat.and_le_right (n := x / 2) (m := 6148914691236517205)
  have a2 := Nat.and_le_right (n := x) (m := 6148914691236517205)
  have a3 := Nat.and_le_right (n := y1 / 4) (m := 3689348814741910323)
  have a4 := Nat.and_le_right (n := y1) (m := 3689348814741910323)
  have a5 := Nat.and_le_right (n := y2 / 16 + y2) (m := 1085102592571150095)
  refine ⟨?_, ?_, ?_⟩
  · rw [e1]; exact Nat.le_trans (Nat.add_le_add a1 a2) (by decide)
  · rw [e2]; exact Nat.le_trans (Nat.add_le_add a3 a4) (by decide)
  · rw [e3]; exact a5
/-! Joined, and one more. -/
theorem cnt_joins (a b : Nat) : ∀ k, cnt k (a ||| b) + cnt k (a &&& b) = cnt k a + cnt k b := by
  intro k
  unfold cnt
  induction k with
  | zero => rfl
  | succ k ih =>
    simp only [memTo_succ, List.length_append, Nat.testBit_or, Nat.testBit_and]
    cases a.testBit k <;> cases b.testBit k <;> simp <;> omega
theorem cnt_wth (x : Nat) (n : Int) : ∀ k, cnt k (wth x n) = cnt k x + if 0 ≤ n ∧ n < k ∧ n < 64 ∧ x.testBit n.toNat = false then 1 else 0 := by
  intro k
  unfold cnt
  induction k with
  | zero => rw [if_neg (by omega)]; rfl
  | succ k ih =>
    simp only [memTo_succ, List.length_append, wth_bit, ih]
    by_cases hk : (k : Int) = n
    · subst hk
      rw [if_neg (by omega)]
      by_cases h64 : k < 64
      · cases h : x.testBit k
        · simp [h64, h]; omega
        · simp [h64, h]
      · rw [if_neg (c := 0 ≤ (k : Int) ∧ _) (by omega)]
        simp [h64]
    · have e : (0 ≤ n ∧ n < ((k + 1 : Nat) : Int) ∧ n < 64 ∧ x.testBit n.toNat = false) ↔ (0 ≤ n ∧ n < (k : Int) ∧ n < 64 ∧ x.testBit n.toNat = false) := by
        constructor
        · rintro ⟨h1, h2, h3⟩; exact ⟨h1, by omega, h3⟩
        · rintro ⟨h1, h2, h3⟩; exact ⟨h1, by omega, h3⟩
      simp only [e, hk, false_and, decide_false, Bool.or_false]
      omega
theorem len_wth (x : Nat) (n : Int) : (mem (wth x n)).length = (mem x).length + if 0 ≤ n ∧ n < 64 ∧ has x n = false then 1 else 0 := by
  have h := cnt_wth x n 64
  unfold cnt at h
  unfold mem
  rw [h]
  congr 1
  have e : (0 ≤ n ∧ n < ((64 : Nat) : Int) ∧ n < 64 ∧ x.testBit n.toNat = false) ↔ (0 ≤ n ∧ n < 64 ∧ has x n = false) := by
    constructor
    · rintro ⟨h1, h2, h3, h4⟩
      obtain ⟨k, rfl⟩ := Int.eq_ofNat_of_zero_le h1
      refine ⟨h1, h3, ?_⟩
      rw [has_bit]; rw [Int.toNat_natCast] at h4; rw [h4]; simp
    · rintro ⟨h1, h2, h3⟩
      obtain ⟨k, rfl⟩ := Int.eq_ofNat_of_zero_le h1
      rw [has_bit] at h3
      refine ⟨h1, h2, h2, ?_⟩
      rw [Int.toNat_natCast]
      have : k < 64 := by omega
      simpa [this] using h3
  simp only [e]
theorem len_joins (a b : Nat) : (mem (a ||| b)).length + (mem (a &&& b)).length = (mem a).length + (mem b).length := cnt_joins a b 64
end Go.Proofs.YtmmgackmiemkhaaDoor.Zp


/- Has, With, Without, from by their contracts. -/
namespace Go.Proofs.YtmmgackmiemkhaaDoor
open Go.RowKit
set_option linter.unusedVariables false

theorem andnot_one (s : Nat) (n : Int) (hs : s < 18446744073709551616) : bits .andNot .u64 (s : Int) (Zp.one n : Nat) = ((Zp.wout s n : Nat) : Int) := by
  rw [u64_andNot_nat _ _ hs (Zp.one_lt n)]; rfl
theorem has_and (s : Nat) (n : Int) (hs : s < 18446744073709551616) : (bits .and .u64 (s : Int) (Zp.one n : Nat) != 0) = Zp.has s n := by
  rw [bits_and_u64_nat _ _ hs (Zp.one_lt n)]
  unfold Zp.has
  rw [Bool.eq_iff_iff, bne_iff_ne, decide_eq_true_eq]
  omega
theorem shifted (s m : Nat) (hs : s < 18446744073709551616) : IntKind.u64.wrap ((s : Int) / 2 ^ m * 2 ^ m) = ((s / 2 ^ m * 2 ^ m : Nat) : Int) := by
  have h1 : s / 2 ^ m * 2 ^ m < 18446744073709551616 := Nat.lt_of_le_of_lt (Nat.div_mul_le_self _ _) hs
  rw [IntKind.wrap_u64, show (s : Int) / 2 ^ m * 2 ^ m = ((s / 2 ^ m * 2 ^ m : Nat) : Int) by rw [Int.natCast_mul, Int.natCast_ediv, Int.natCast_pow]; rfl, Int.emod_eq_of_lt (Int.natCast_nonneg _) (by generalize s / 2 ^ m * 2 ^ m = q at h1; omega)]
theorem has_any (s : Nat) (n : Int) (w : World) (hs : s < 18446744073709551616) :
    Calls Tryd.prog 10 #[.int .u64 s, .int .i64 n] w fun e w' => e = .returned (.bool (Zp.has s n)) ∧ Below w.heap.size w w' := by
  have HR := Lib.hid (row_lit w [n] (by simp))
  have HB := Lib.hid (below_new w (.cells #[.int .i64 n] 3))
  go_enter Tryd.func10, Tryd.ntmps10
  go_wp2_with fail
  refine (of_any _ 1 1 [n] _ HR.out).mono ?_
  rintro e w1 ⟨rfl, rfl⟩
  rw [Zp.ofL_one]
  go_wp2_with fail
  go_ret
  refine ⟨?_, HB.out⟩
  rw [has_and _ _ hs]; rfl
theorem with_any (s : Nat) (n : Int) (w : World) (hs : s < 18446744073709551616) :
    Calls Tryd.prog 12 #[.int .u64 s, .int .i64 n] w fun e w' => e = .returned (.int .u64 (Zp.wth s n : Nat)) ∧ Below w.heap.size w w' := by
  have HR := Lib.hid (row_lit w [n] (by simp))
  have HB := Lib.hid (below_new w (.cells #[.int .i64 n] 3))
  go_enter Tryd.func12, Tryd.ntmps12
  go_wp2_with fail
  refine (of_any _ 1 1 [n] _ HR.out).mono ?_
  rintro e w1 ⟨rfl, rfl⟩
  rw [Zp.ofL_one]
  go_wp2_with fail
  go_ret
  refine ⟨?_, HB.out⟩
  rw [bits_or_u64_nat _ _ hs (Zp.one_lt n)]; rfl
theorem without_any (s : Nat) (n : Int) (w : World) (hs : s < 18446744073709551616) :
    Calls Tryd.prog 13 #[.int .u64 s, .int .i64 n] w fun e w' => e = .returned (.int .u64 (Zp.wout s n : Nat)) ∧ Below w.heap.size w w' := by
  have HR := Lib.hid (row_lit w [n] (by simp))
  have HB := Lib.hid (below_new w (.cells #[.int .i64 n] 3))
  go_enter Tryd.func13, Tryd.ntmps13
  go_wp2_with fail
  refine (of_any _ 1 1 [n] _ HR.out).mono ?_
  rintro e w1 ⟨rfl, rfl⟩
  rw [Zp.ofL_one]
  go_wp2_with fail
  go_ret
  refine ⟨?_, HB.out⟩
  rw [andnot_one _ _ hs]; rfl
end Go.Proofs.YtmmgackmiemkhaaDoor


/- The library's TrailingZeros64 and OnesCount64 by their contracts; least, Count, Next. -/
namespace Go.Proofs.YtmmgackmiemkhaaDoor
open Go.RowKit
set_option linter.unusedVariables false

/-- The library's table, as its initialiser lays it. -/
def Tab (w : World) : Prop := ∀ j, j < 64 → w.cell? ⟨0, j, none⟩ = some (.int .u8 (Lib.deBruijn64tab.getD j 0 : Nat))
theorem Tab.lt {w : World} (h : Tab w) : 0 < w.heap.size := World.block_lt_of_cell? _ _ (h 0 (by decide))
theorem Tab.step {w w' : World} (h : Tab w) (hb : Below w.heap.size w w') : Tab w' := fun j hj => keepcell hb (h j hj)
set_option maxHeartbeats 1000000 in
theorem tz_core (x k idx : Nat) (w : World) (hx0 : ((x : Int) == 0) = false)
    (key : IntKind.u64.wrap (bits BinOp.and IntKind.u64 (x : Int) (IntKind.u64.wrap (-(x : Int))) * 285870213051353865) / 288230376151711744 = (idx : Int))
    (hi : idx < 64) (hk : k < 64) (hcell : w.cell? ⟨0, idx, none⟩ = some (.int .u8 k)) :
    Calls Tryd.prog 76 #[.int .u64 x] w fun e w' => e = .returned (.int .i64 k) ∧ w' = w := by
  go_enter Tryd.func76, Tryd.ntmps76
  go_wp2_with (simp only [key])
  go_ret
  exact ⟨rfl, rfl⟩
theorem tz_key (x a : Nat) (hx : x < 18446744073709551616) (hx0 : x ≠ 0) (hlow : x &&& (18446744073709551616 - x) = a) :
    IntKind.u64.wrap (bits BinOp.and IntKind.u64 (x : Int) (IntKind.u64.wrap (-(x : Int))) * 285870213051353865) / 288230376151711744 = ((a * 285870213051353865 % 18446744073709551616 / 288230376151711744 : Nat) : Int) := by
  have e1 : IntKind.u64.wrap (-(x : Int)) = ((18446744073709551616 - x : Nat) : Int) := by rw [IntKind.wrap_u64]; omega
  rw [e1, bits_and_u64_nat x _ hx (by omega), hlow, IntKind.wrap_u64]
  omega
/-- The least member of a set that has one. -/
theorem tz_any (x : Nat) (w : World) (hx : x < 18446744073709551616) (hx0 : x ≠ 0) (hT : Tab w) :
    Calls Tryd.prog 76 #[.int .u64 x] w fun e w' => e = .returned (.int .i64 (Lib.ctz 64 x : Nat)) ∧ w' = w := by
  obtain ⟨hlow, hk⟩ := Lib.lowest_bit 64 x hx0 hx
  obtain ⟨hi, htab⟩ := Lib.deBruijn64_at _ hk
  have hcell := hT _ hi
  rw [htab] at hcell
  exact tz_core x _ _ w (by simp; omega) (tz_key x _ hx hx0 hlow) hi hk hcell
theorem least_any (x : Nat) (w : World) (hx : x < 18446744073709551616) (hx0 : x ≠ 0) (hT : Tab w) :
    Calls Tryd.prog 60 #[.int .u64 x] w fun e w' => e = .returned (.int .i64 (Lib.ctz 64 x : Nat)) ∧ w' = w := by
  go_enter Tryd.func60, Tryd.ntmps60
  go_wp2_with fail
  refine (tz_any x _ hx hx0 hT).mono ?_
  rintro e w1 ⟨rfl, rfl⟩
  go_wp2_with fail
  go_ret
  exact ⟨rfl, rfl⟩
end Go.Proofs.YtmmgackmiemkhaaDoor


/- The library's OnesCount64 by its contract; Count. -/
namespace Go.Proofs.YtmmgackmiemkhaaDoor
open Go.RowKit
set_option linter.unusedVariables false

theorem and_lit (a m : Nat) (ha : a < 18446744073709551616) (hm : m < 18446744073709551616) (z t : Int) (hz : z = (a : Int)) (ht : t = (m : Int)) : bits .and .u64 z t = ((a &&& m : Nat) : Int) := by
  subst hz ht; exact bits_and_u64_nat a m ha hm
theorem wrap_nat (a : Nat) (ha : a < 18446744073709551616) (z : Int) (hz : z = (a : Int)) : IntKind.u64.wrap z = (a : Int) := by
  subst hz; rw [IntKind.wrap_u64]; omega
theorem wrap_small (y : Nat) (h : y < 9223372036854775808) : wrap64 (y : Int) = (y : Int) := by
  have h1 : (0 : Int) ≤ (y : Int) + 9223372036854775808 := by omega
  have h2 : (y : Int) + 9223372036854775808 < 18446744073709551616 := by omega
  unfold wrap64
  rw [Int.emod_eq_of_lt h1 h2, Int.add_sub_cancel]
end Go.Proofs.YtmmgackmiemkhaaDoor

