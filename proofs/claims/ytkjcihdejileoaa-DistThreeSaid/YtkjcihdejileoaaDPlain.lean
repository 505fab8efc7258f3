/- Layer 2 in plain mathematics: how far processors are from each other, their nodes, who is near. -/
import Derived.Test.YtkjcihdejileoaaTree
namespace Go.Proofs.Ytkjcihdejileoaa.Dp
open Go.Proofs.Ytkjcihdejileoaa

/-- The processors, and the nodes, by their vertices. -/
def procs (vs : List (Int × Int)) : List Int := Tp.those (fun x => x.2 == 3) vs
def nodes (vs : List (Int × Int)) : List Int := Tp.those (fun x => x.2 == 1) vs
/-- How many processors; 0, if the tree may not be. -/
def procsN (vs : List (Int × Int)) : Nat := if Tp.may vs then (procs vs).length else 0
/-- What lies above a processor, d levels up. -/
def above (vs : List (Int × Int)) (d : Int) (v : Int) : Int := Tp.up vs (3 - d) vs.length v
def farV (vs : List (Int × Int)) (v w : Int) : Int :=
  if above vs 0 v = above vs 0 w then 0 else if above vs 1 v = above vs 1 w then 1 else if above vs 2 v = above vs 2 w then 2 else 3
def proc (vs : List (Int × Int)) (a : Int) : Int := (procs vs)[a.toNat]?.getD 0
def far (vs : List (Int × Int)) (a b : Int) : Int :=
  if a < 0 ∨ (procsN vs : Int) ≤ a ∨ b < 0 ∨ (procsN vs : Int) ≤ b then -1 else farV vs (proc vs a) (proc vs b)
/-- The place of a vertex among the nodes; -1, if it is none. -/
def place (l : List Int) (v : Int) : Int := if v ∈ l then (l.idxOf v : Int) else -1
def node (vs : List (Int × Int)) (p : Int) : Int :=
  if p < 0 ∨ (procsN vs : Int) ≤ p then -1 else place (nodes vs) (above vs 2 (proc vs p))
/-- All others, of one distance, in turn from p on. -/
def ringF (vs : List (Int × Int)) (p d : Int) (n : Nat) : Nat → List Int
  | 0 => []
  | k + 1 => ringF vs p d n k ++ if far vs p ((p + (k + 1 : Nat)) % n) = d then [(p + (k + 1 : Nat)) % n] else []
def ring (vs : List (Int × Int)) (p d : Int) : List Int := ringF vs p d (procsN vs) (procsN vs - 1)
def near (vs : List (Int × Int)) (p : Int) : List Int :=
  if p < 0 ∨ (procsN vs : Int) ≤ p then [] else ring vs p 1 ++ ring vs p 2 ++ ring vs p 3

section
variable {vs : List (Int × Int)} (T : Tp.Tree vs)
include T

theorem procsN_tree : procsN vs = (procs vs).length := by unfold procsN; rw [if_pos ((Tp.tree_iff vs).2 T)]
omit T in
theorem is_proc {v : Int} (h : v ∈ procs vs) : ∃ (k : Nat) (x : Int × Int), v = k ∧ vs[k]? = some x ∧ x.2 = 3 := by
  obtain ⟨j, x, e, hx, hp⟩ := Tp.mem_those.1 h
  exact ⟨j, x, e, hx, by simpa using hp⟩
theorem proc_mem {a : Int} (h0 : 0 ≤ a) (h1 : a < procsN vs) : (procs vs)[a.toNat]? = some (proc vs a) ∧ proc vs a ∈ procs vs := by
  rw [procsN_tree T] at h1
  have hl : a.toNat < (procs vs).length := by omega
  have e : (procs vs)[a.toNat]? = some (proc vs a) := by
    unfold proc
    rw [List.getElem?_eq_getElem hl]; rfl
  exact ⟨e, List.mem_of_getElem? e⟩
/-- The chain above a processor: a vertex, its core, its node, the machine. -/
theorem chain {v : Int} (h : v ∈ procs vs) : ∃ (k c m : Nat) (x y z : Int × Int), v = k ∧ vs[k]? = some x ∧ x.1 = c ∧ vs[c]? = some y ∧ y.1 = m ∧ vs[m]? = some z ∧ z.1 = 0 ∧ x.2 = 3 ∧ y.2 = 2 ∧ z.2 = 1 ∧
    above vs 0 v = k ∧ above vs 1 v = c ∧ above vs 2 v = m ∧ above vs 3 v = 0 := by
  obtain ⟨k, x, rfl, hx, h3⟩ := is_proc h
  have hkl := (List.getElem?_eq_some_iff.1 hx).1
  have pos : ∀ {j : Nat} {u : Int × Int}, vs[j]? = some u → 0 < u.2 → 0 < j := by
    intro j u hu hu2
    rcases Nat.eq_zero_or_pos j with e | e
    · subst e
      rw [T.first] at hu
      injection hu with hu
      subst hu
      simp at hu2
    · exact e
  obtain ⟨c, y, hxc, hck, hy, exy, _, _⟩ := T.next k x hx (pos hx (by omega))
  obtain ⟨m, z, hym, hmc, hz, eyz, _, _⟩ := T.next c y hy (pos hy (by omega))
  obtain ⟨r, u, hzr, hrm, hu, ezu, _, _⟩ := T.next m z hz (pos hz (by omega))
  have hr0 : r = 0 := by
    rcases Nat.eq_zero_or_pos r with e | e
    · exact e
    · obtain ⟨_, _, _, _, _, q1, q2, _⟩ := T.next r u hu e
      omega
  subst hr0
  rw [T.first] at hu
  injection hu with hu
  subst hu
  simp only at ezu
  refine ⟨k, c, m, x, y, z, rfl, hx, hxc, hy, hym, hz, by rw [hzr]; rfl, h3, by omega, by omega, ?_, ?_, ?_, ?_⟩
  · unfold above; exact Tp.up_hit hkl hx (by omega)
  · unfold above
    rw [Tp.up_step hkl hx (by omega), hxc, Tp.up_hit hck hy (by omega)]
  · unfold above
    rw [Tp.up_step hkl hx (by omega), hxc, Tp.up_step hck hy (by omega), hym, Tp.up_hit hmc hz (by omega)]
  · unfold above
    rw [Tp.up_step hkl hx (by omega), hxc, Tp.up_step hck hy (by omega), hym, Tp.up_step hmc hz (by omega), hzr]
    exact Tp.up_hit hrm T.first rfl
/-- Whoever is one of one level is one of all levels above. -/
theorem above_up {v w : Int} (hv : v ∈ procs vs) (hw : w ∈ procs vs) : (above vs 0 v = above vs 0 w → above vs 1 v = above vs 1 w) ∧ (above vs 1 v = above vs 1 w → above vs 2 v = above vs 2 w) ∧ above vs 3 v = above vs 3 w := by
  obtain ⟨k, c, m, x, y, z, e, hx, hxc, hy, hym, hz, hz0, _, _, _, a0, a1, a2, a3⟩ := chain T hv
  obtain ⟨k', c', m', x', y', z', e', hx', hxc', hy', hym', hz', hz0', _, _, _, b0, b1, b2, b3⟩ := chain T hw
  refine ⟨fun h => ?_, fun h => ?_, by rw [a3, b3]⟩
  · have : k = k' := by omega
    subst this
    rw [hx] at hx'
    injection hx' with hx'
    subst hx'
    rw [a1, b1]
    omega
  · have : c = c' := by omega
    subst this
    rw [hy] at hy'
    injection hy' with hy'
    subst hy'
    rw [a2, b2]
    omega
theorem above0 {v : Int} (hv : v ∈ procs vs) : above vs 0 v = v := by
  obtain ⟨k, c, m, x, y, z, e, hx, hxc, hy, hym, hz, hz0, _, _, _, a0, a1, a2, a3⟩ := chain T hv
  rw [a0, e]
end
theorem farV_bounds (vs : List (Int × Int)) (v w : Int) : 0 ≤ farV vs v w ∧ farV vs v w ≤ 3 := by unfold farV; split <;> (try split) <;> (try split) <;> omega
theorem farV_comm (vs : List (Int × Int)) (v w : Int) : farV vs v w = farV vs w v := by
  unfold farV
  simp only [eq_comm (a := above vs 0 v), eq_comm (a := above vs 1 v), eq_comm (a := above vs 2 v)]
theorem farV_self (vs : List (Int × Int)) (v : Int) : farV vs v v = 0 := by unfold farV; rw [if_pos rfl]
theorem farV_zero {vs : List (Int × Int)} (T : Tp.Tree vs) {v w : Int} (hv : v ∈ procs vs) (hw : w ∈ procs vs) : farV vs v w = 0 ↔ v = w := by
  constructor
  · intro h
    unfold farV at h
    split at h
    · rename_i e
      rw [above0 T hv, above0 T hw] at e
      exact e
    · split at h
      · omega
      · split at h <;> omega
  · rintro rfl; exact farV_self _ _
/-- Far is below d + 1, just if the two are one d levels up. -/
theorem farV_le {vs : List (Int × Int)} (T : Tp.Tree vs) {v w : Int} (hv : v ∈ procs vs) (hw : w ∈ procs vs) :
    (farV vs v w ≤ 0 ↔ above vs 0 v = above vs 0 w) ∧ (farV vs v w ≤ 1 ↔ above vs 1 v = above vs 1 w) ∧ (farV vs v w ≤ 2 ↔ above vs 2 v = above vs 2 w) := by
  obtain ⟨u0, u1, _⟩ := above_up T hv hw
  by_cases e0 : above vs 0 v = above vs 0 w
  · have e1 := u0 e0
    have e2 := u1 e1
    have : farV vs v w = 0 := by unfold farV; rw [if_pos e0]
    simp only [this, e0, e1, e2]; simp
  · by_cases e1 : above vs 1 v = above vs 1 w
    · have e2 := u1 e1
      have : farV vs v w = 1 := by unfold farV; rw [if_neg e0, if_pos e1]
      simp only [this, e0, e1, e2]; simp
    · by_cases e2 : above vs 2 v = above vs 2 w
      · have : farV vs v w = 2 := by unfold farV; rw [if_neg e0, if_neg e1, if_pos e2]
        simp only [this, e0, e1, e2]; simp
      · have : farV vs v w = 3 := by unfold farV; rw [if_neg e0, if_neg e1, if_neg e2]
        simp only [this, e0, e1, e2]; simp
theorem farV_three {vs : List (Int × Int)} (T : Tp.Tree vs) {u v w : Int} (hu : u ∈ procs vs) (hv : v ∈ procs vs) (hw : w ∈ procs vs) : farV vs u w ≤ farV vs u v ∨ farV vs u w ≤ farV vs v w := by
  obtain ⟨a0, a1, a2⟩ := farV_le T hu hv
  obtain ⟨b0, b1, b2⟩ := farV_le T hv hw
  obtain ⟨c0, c1, c2⟩ := farV_le T hu hw
  have x := farV_bounds vs u w
  have y := farV_bounds vs u v
  have z := farV_bounds vs v w
  by_cases h : farV vs u w ≤ farV vs u v
  · exact .inl h
  · by_cases h' : farV vs u w ≤ farV vs v w
    · exact .inr h'
    · exfalso
      rcases (show farV vs u w = 1 ∨ farV vs u w = 2 ∨ farV vs u w = 3 by omega) with e | e | e
      · have := c0.2 ((a0.1 (by omega)).trans (b0.1 (by omega))); omega
      · have := c1.2 ((a1.1 (by omega)).trans (b1.1 (by omega))); omega
      · have := c2.2 ((a2.1 (by omega)).trans (b2.1 (by omega))); omega
theorem above_step {vs : List (Int × Int)} (T : Tp.Tree vs) {v : Int} (hv : v ∈ procs vs) {d : Nat} (hd : d ≤ 2) : ∃ (k : Nat) (x : Int × Int), above vs d v = k ∧ vs[k]? = some x ∧ x.1 = above vs ((d + 1 : Nat) : Int) v := by
  obtain ⟨k, c, m, x, y, z, e, hx, hxc, hy, hym, hz, hz0, _, _, _, a0, a1, a2, a3⟩ := chain T hv
  match d, hd with
  | 0, _ => exact ⟨k, x, a0, hx, hxc.trans a1.symm⟩
  | 1, _ => exact ⟨c, y, a1, hy, hym.trans a2.symm⟩
  | 2, _ => exact ⟨m, z, a2, hz, hz0.trans a3.symm⟩
theorem farV_is {vs : List (Int × Int)} {v w : Int} {d : Nat} (hd : d ≤ 3) (he : d ≤ 2 → above vs d v = above vs d w) (hne : ∀ e : Nat, e < d → above vs e v ≠ above vs e w) : farV vs v w = d := by
  unfold farV
  match d, hd with
  | 0, _ =>
    have e0 : above vs 0 v = above vs 0 w := he (by omega)
    rw [if_pos e0]; rfl
  | 1, _ =>
    have n0 : ¬ above vs 0 v = above vs 0 w := hne 0 (by omega)
    have e1 : above vs 1 v = above vs 1 w := he (by omega)
    rw [if_neg n0, if_pos e1]; rfl
  | 2, _ =>
    have n0 : ¬ above vs 0 v = above vs 0 w := hne 0 (by omega)
    have n1 : ¬ above vs 1 v = above vs 1 w := hne 1 (by omega)
    have e2 : above vs 2 v = above vs 2 w := he (by omega)
    rw [if_neg n0, if_neg n1, if_pos e2]; rfl
  | 3, _ =>
    have n0 : ¬ above vs 0 v = above vs 0 w := hne 0 (by omega)
    have n1 : ¬ above vs 1 v = above vs 1 w := hne 1 (by omega)
    have n2 : ¬ above vs 2 v = above vs 2 w := hne 2 (by omega)
    rw [if_neg n0, if_neg n1, if_neg n2]; rfl
theorem far_out {vs : List (Int × Int)} {a b : Int} (h : a < 0 ∨ (procsN vs : Int) ≤ a ∨ b < 0 ∨ (procsN vs : Int) ≤ b) : far vs a b = -1 := by unfold far; rw [if_pos h]
theorem far_in {vs : List (Int × Int)} {a b : Int} (h : ¬ (a < 0 ∨ (procsN vs : Int) ≤ a ∨ b < 0 ∨ (procsN vs : Int) ≤ b)) : far vs a b = farV vs (proc vs a) (proc vs b) := by unfold far; rw [if_neg h]
theorem tree_of_in {vs : List (Int × Int)} {a : Int} (h0 : 0 ≤ a) (h1 : a < procsN vs) : Tp.Tree vs := by
  rw [← Tp.tree_iff]
  unfold procsN at h1
  split at h1
  · assumption
  · simp at h1; omega
theorem place_out {l : List Int} {v : Int} (h : v ∉ l) : place l v = -1 := by unfold place; rw [if_neg h]
theorem place_hit {l : List Int} {v : Int} {k : Nat} (hk : l[k]? = some v) (h : v ∉ l.take k) : place l v = k := by
  unfold place
  rw [if_pos (List.mem_of_getElem? hk)]
  obtain ⟨hl, e⟩ := List.getElem?_eq_some_iff.1 hk
  have hs : l = l.take k ++ (v :: l.drop (k + 1)) := by
    rw [← e, ← List.drop_eq_getElem_cons hl, List.take_append_drop]
  have : l.idxOf v = k := by
    rw [hs, List.idxOf_append, if_neg h, List.idxOf_cons]
    simp [List.length_take]
    omega
  rw [this]
theorem node_out {vs : List (Int × Int)} {p : Int} (h : p < 0 ∨ (procsN vs : Int) ≤ p) : node vs p = -1 := by unfold node; rw [if_pos h]
theorem node_in {vs : List (Int × Int)} {p : Int} (h : ¬ (p < 0 ∨ (procsN vs : Int) ≤ p)) : node vs p = place (nodes vs) (Tp.up vs 1 vs.length (proc vs p)) := by
  unfold node; rw [if_neg h]; rfl
def nearTo (vs : List (Int × Int)) (p : Int) : Nat → List Int
  | 0 => []
  | d + 1 => nearTo vs p d ++ ring vs p ((d + 1 : Nat) : Int)
theorem near_out {vs : List (Int × Int)} {p : Int} (h : p < 0 ∨ (procsN vs : Int) ≤ p) : near vs p = [] := by unfold near; rw [if_pos h]
theorem near_in {vs : List (Int × Int)} {p : Int} (h : ¬ (p < 0 ∨ (procsN vs : Int) ≤ p)) : near vs p = nearTo vs p 3 := by
  unfold near; rw [if_neg h]; rfl
theorem ringF_le (vs : List (Int × Int)) (p d : Int) (n : Nat) : ∀ k, (ringF vs p d n k).length ≤ k := by
  intro k
  induction k with
  | zero => exact Nat.le_refl _
  | succ k ih => rw [ringF, List.length_append]; split <;> simp <;> omega
theorem nearTo_le (vs : List (Int × Int)) (p : Int) : ∀ d, (nearTo vs p d).length ≤ d * procsN vs := by
  intro d
  induction d with
  | zero => simp [nearTo]
  | succ d ih =>
    rw [nearTo, List.length_append]
    have := ringF_le vs p ((d + 1 : Nat) : Int) (procsN vs) (procsN vs - 1)
    unfold ring
    rw [Nat.succ_mul]; omega
theorem above2_node {vs : List (Int × Int)} (T : Tp.Tree vs) {v : Int} (hv : v ∈ procs vs) : above vs 2 v ∈ nodes vs := by
  obtain ⟨k, c, m, x, y, z, e, hx, hxc, hy, hym, hz, hz0, _, _, z1, a0, a1, a2, a3⟩ := chain T hv
  rw [a2]
  exact Tp.mem_those.2 ⟨m, z, rfl, hz, by simpa using z1⟩
theorem place_mem {l : List Int} {v : Int} (h : v ∈ l) : ∃ k : Nat, place l v = k ∧ k < l.length ∧ l[k]? = some v := by
  unfold place
  rw [if_pos h]
  have hl : l.idxOf v < l.length := List.idxOf_lt_length_iff.2 h
  exact ⟨_, rfl, hl, by rw [List.getElem?_eq_getElem hl, List.getElem_idxOf hl]⟩
theorem place_inj {l : List Int} {v w : Int} (hv : v ∈ l) (hw : w ∈ l) : place l v = place l w ↔ v = w := by
  constructor
  · intro h
    obtain ⟨k, e1, _, e2⟩ := place_mem hv
    obtain ⟨k', e1', _, e2'⟩ := place_mem hw
    have : k = k' := by omega
    subst this
    rw [e2] at e2'
    injection e2'
  · rintro rfl; rfl
/-- What far says of a and b where it is no -1. -/
theorem far_pos {vs : List (Int × Int)} {a b : Int} (h : 0 ≤ far vs a b) : Tp.Tree vs ∧ 0 ≤ a ∧ a < procsN vs ∧ 0 ≤ b ∧ b < procsN vs ∧ proc vs a ∈ procs vs ∧ proc vs b ∈ procs vs ∧ far vs a b = farV vs (proc vs a) (proc vs b) := by
  by_cases ho : a < 0 ∨ (procsN vs : Int) ≤ a ∨ b < 0 ∨ (procsN vs : Int) ≤ b
  · rw [far_out ho] at h; omega
  · have T := tree_of_in (vs := vs) (a := a) (by omega) (by omega)
    exact ⟨T, by omega, by omega, by omega, by omega, (proc_mem T (by omega) (by omega)).2, (proc_mem T (by omega) (by omega)).2, far_in ho⟩
theorem node_eq {vs : List (Int × Int)} {a b : Int} (h : 0 ≤ far vs a b) : node vs a = node vs b ↔ far vs a b < 3 := by
  obtain ⟨T, a0, a1, b0, b1, ma, mb, e⟩ := far_pos h
  have na : node vs a = place (nodes vs) (above vs 2 (proc vs a)) := by unfold node; rw [if_neg (by omega)]
  have nb : node vs b = place (nodes vs) (above vs 2 (proc vs b)) := by unfold node; rw [if_neg (by omega)]
  rw [na, nb, place_inj (above2_node T ma) (above2_node T mb), e, ← (farV_le T ma mb).2.2]
  omega
theorem far_three {vs : List (Int × Int)} {a b c : Int} (h1 : 0 ≤ far vs a b) (h2 : 0 ≤ far vs b c) (h3 : 0 ≤ far vs a c) : far vs a c ≤ far vs a b ∨ far vs a c ≤ far vs b c := by
  obtain ⟨T, _, _, _, _, ma, mb, e1⟩ := far_pos h1
  obtain ⟨_, _, _, _, _, _, mc, e2⟩ := far_pos h2
  obtain ⟨_, _, _, _, _, _, _, e3⟩ := far_pos h3
  rw [e1, e2, e3]
  exact farV_three T ma mb mc
theorem far_bounds (vs : List (Int × Int)) (a b : Int) : -1 ≤ far vs a b ∧ far vs a b ≤ 3 := by
  unfold far
  have := farV_bounds vs (proc vs a) (proc vs b)
  split <;> omega
/-- Far is how many levels up the two are one for the first time. -/
theorem farV_above {vs : List (Int × Int)} (T : Tp.Tree vs) {v w : Int} (hv : v ∈ procs vs) (hw : w ∈ procs vs) :
    above vs (farV vs v w) v = above vs (farV vs v w) w ∧ (0 < farV vs v w → above vs (farV vs v w - 1) v ≠ above vs (farV vs v w - 1) w) := by
  obtain ⟨c0, c1, c2⟩ := farV_le T hv hw
  have c3 := (above_up T hv hw).2.2
  have bd := farV_bounds vs v w
  generalize farV vs v w = d at *
  rcases (show d = 0 ∨ d = 1 ∨ d = 2 ∨ d = 3 by omega) with rfl | rfl | rfl | rfl
  · exact ⟨c0.1 (by omega), fun h => by omega⟩
  · exact ⟨c1.1 (by omega), fun _ h => absurd (c0.2 h) (by omega)⟩
  · exact ⟨c2.1 (by omega), fun _ h => absurd (c1.2 h) (by omega)⟩
  · exact ⟨c3, fun _ h => absurd (c2.2 h) (by omega)⟩
end Go.Proofs.Ytkjcihdejileoaa.Dp

