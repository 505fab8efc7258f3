/- Contracts and plain mathematics, put together by program (wip/merge.py) out of: DPlain DNear DWords TPlain TShape. -/
import Derived.Test.YtcoccegmkcdeiaaDoorM2
import Derived.Test.YtcoccegmkcdeiaaDoorM0
/- Layer 2 in plain mathematics: how far processors are from each other, their nodes, who is near. -/
namespace Go.Proofs.YtcoccegmkcdeiaaDoor.Dp
open Go.Proofs.YtcoccegmkcdeiaaDoor

/-- The processors, and the nodes, by their vertices. -/
def procs (vs : List (Int × Int)) : List Int := Tp.those (fun x => x.2 == 3) vs
def nodes (vs : List (Int × Int)) : List Int := Tp.those (fun x => x.2 == 1) vs
/-- How many processors; 0, if the tree may not be. -/
def procsN (vs : List (Int × Int)) : Nat := if Tp.may vs then (procs vs).length else 0
/-- What lies above a processor, d levels up. -/
def above (vs : List (Int × Int)) (d : Int) (v : Int) : Int := Tp.up vs (3 - d) vs.length v
def farV (vs : List (Int × Int)) (v w : Int) : Int :=
  if above vs 0 v = above vs 0 w then 0 else if above vs 1 v = above vs 1 w then 1 else if above vs 2 v = above vs 2 w then 2 else 3
def proc (vs : List (Int × Int)) (a : Int) : Int := (procs vs)[a.toNat]?.getD 0
def far (vs : List (Int × Int)) (a b : Int) : Int :=
  if a < 0 ∨ (procsN vs : Int) ≤ a ∨ b < 0 ∨ (procsN vs : Int) ≤ b then -1 else farV vs (proc vs a) (proc vs b)
/-- The place of a vertex among the nodes; -1, if it is none. -/
def place (l : List Int) (v : Int) : Int := if v ∈ l then (l.idxOf v : Int) else -1
def node (vs : List (Int × Int)) (p : Int) : Int :=
  if p < 0 ∨ (procsN vs : Int) ≤ p then -1 else place (nodes vs) (above vs 2 (proc vs p))
/-- All others, of one distance, in turn from p on. -/
def ringF (vs : List (Int × Int)) (p d : Int) (n : Nat) : Nat → List Int
  | 0 => []
  | k + 1 => ringF vs p d n k ++ if far vs p ((p + (k + 1 : Nat)) % n) = d then [(p + (k + 1 : Nat)) % n] else []
def ring (vs : List (Int × Int)) (p d : Int) : List Int := ringF vs p d (procsN vs) (procsN vs - 1)
def near (vs : List (Int × Int)) (p : Int) : List Int :=
  if p < 0 ∨ (procsN vs : Int) ≤ p then [] else ring vs p 1 ++ ring vs p 2 ++ ring vs p 3

section
variable {vs : List (Int × Int)} (T : Tp.Tree vs)
include T

theorem procsN_tree : procsN vs = (procs vs).length := by unfold procsN; rw [if_pos ((Tp.tree_iff vs).2 T)]
omit T in
theorem is_proc {v : Int} (h : v ∈ procs vs) : ∃ (k : Nat) (x : Int × Int), v = k ∧ vs[k]? = some x ∧ x.2 = 3 := by
  obtain ⟨j, x, e, hx, hp⟩ := Tp.mem_those.1 h
  exact ⟨j, x, e, hx, by simpa using hp⟩
theorem proc_mem {a : Int} (h0 : 0 ≤ a) (h1 : a < procsN vs) : (procs vs)[a.toNat]? = some (proc vs a) ∧ proc vs a ∈ procs vs := by
  rw [procsN_tree T] at h1
  have hl : a.toNat < (procs vs).length := by omega
  have e : (procs vs)[a.toNat]? = some (proc vs a) := by
    unfold proc
    rw [List.getElem?_eq_getElem hl]; rfl
  exact ⟨e, List.mem_of_getElem? e⟩
/-- The chain above a processor: a vertex, its core, its node, the machine. -/
theorem chain {v : Int} (h : v ∈ procs vs) : ∃ (k c m : Nat) (x y z : Int × Int), v = k ∧ vs[k]? = some x ∧ x.1 = c ∧ vs[c]? = some y ∧ y.1 = m ∧ vs[m]? = some z ∧ z.1 = 0 ∧ x.2 = 3 ∧ y.2 = 2 ∧ z.2 = 1 ∧
    above vs 0 v = k ∧ above vs 1 v = c ∧ above vs 2 v = m ∧ above vs 3 v = 0 := by
  obtain ⟨k, x, rfl, hx, h3⟩ := is_proc h
  have hkl := (List.getElem?_eq_some_iff.1 hx).1
  have pos : ∀ {j : Nat} {u : Int × Int}, vs[j]? = some u → 0 < u.2 → 0 < j := by
    intro j u hu hu2
    rcases Nat.eq_zero_or_pos j with e | e
    · subst e
      rw [T.first] at hu
      injection hu with hu
      subst hu
      simp at hu2
    · exact e
  obtain ⟨c, y, hxc, hck, hy, exy, _, _⟩ := T.next k x hx (pos hx (by omega))
  obtain ⟨m, z, hym, hmc, hz, eyz, _, _⟩ := T.next c y hy (pos hy (by omega))
  obtain ⟨r, u, hzr, hrm, hu, ezu, _, _⟩ := T.next m z hz (pos hz (by omega))
  have hr0 : r = 0 := by
    rcases Nat.eq_zero_or_pos r with e | e
    · exact e
    · obtain ⟨_, _, _, _, _, q1, q2, _⟩ := T.next r u hu e
      omega
  subst hr0
  rw [T.first] at hu
  injection hu with hu
  subst hu
  simp only at ezu
  refine ⟨k, c, m, x, y, z, rfl, hx, hxc, hy, hym, hz, by rw [hzr]; rfl, h3, by omega, by omega, ?_, ?_, ?_, ?_⟩
  · unfold above; exact Tp.up_hit hkl hx (by omega)
  · unfold above
    rw [Tp.up_step hkl hx (by omega), hxc, Tp.up_hit hck hy (by omega)]
  · unfold above
    rw [Tp.up_step hkl hx (by omega), hxc, Tp.up_step hck hy (by omega), hym, Tp.up_hit hmc hz (by omega)]
  · unfold above
    rw [Tp.up_step hkl hx (by omega), hxc, Tp.up_step hck hy (by omega), hym, Tp.up_step hmc hz (by omega), hzr]
    exact Tp.up_hit hrm T.first rfl
/-- Whoever is one of one level is one of all levels above. -/
theorem above_up {v w : Int} (hv : v ∈ procs vs) (hw : w ∈ procs vs) : (above vs 0 v = above vs 0 w → above vs 1 v = above vs 1 w) ∧ (above vs 1 v = above vs 1 w → above vs 2 v = above vs 2 w) ∧ above vs 3 v = above vs 3 w := by
  obtain ⟨k, c, m, x, y, z, e, hx, hxc, hy, hym, hz, hz0, _, _, _, a0, a1, a2, a3⟩ := chain T hv
  obtain ⟨k', c', m', x', y', z', e', hx', hxc', hy', hym', hz', hz0', _, _, _, b0, b1, b2, b3⟩ := chain T hw
  refine ⟨fun h => ?_, fun h => ?_, by rw [a3, b3]⟩
  · have : k = k' := by omega
    subst this
    rw [hx] at hx'
    injection hx' with hx'
    subst hx'
    rw [a1, b1]
    omega
  · have : c = c' := by omega
    subst this
    rw [hy] at hy'
    injection hy' with hy'
    subst hy'
    rw [a2, b2]
    omega
theorem above0 {v : Int} (hv : v ∈ procs vs) : above vs 0 v = v := by
  obtain ⟨k, c, m, x, y, z, e, hx, hxc, hy, hym, hz, hz0, _, _, _, a0, a1, a2, a3⟩ := chain T hv
  rw [a0, e]
end
theorem farV_bounds (vs : List (Int × Int)) (v w : Int) : 0 ≤ farV vs v w ∧ farV vs v w ≤ 3 := by unfold farV; split <;> (try split) <;> (try split) <;> omega
theorem farV_comm (vs : List (Int × Int)) (v w : Int) : farV vs v w = farV vs w v := by
  unfold farV
  simp only [eq_comm (a := above vs 0 v), eq_comm (a := above vs 1 v), eq_comm (a := above vs 2 v)]
theorem farV_self (vs : List (Int × Int)) (v : Int) : farV vs v v = 0 := by unfold farV; rw [if_pos rfl]
theorem farV_zero {vs : List (Int × Int)} (T : Tp.Tree vs) {v w : Int} (hv : v ∈ procs vs) (hw : w ∈ procs vs) : farV vs v w = 0 ↔ v = w := by
  constructor
  · intro h
    unfold farV at h
    split at h
    · rename_i e
      rw [above0 T hv, above0 T hw] at e
      exact e
    · split at h
      · omega
      · split at h <;> omega
  · rintro rfl; exact farV_self _ _
/-- Far is below d + 1, just if the two are one d levels up. -/
theorem farV_le {vs : List (Int × Int)} (T : Tp.Tree vs) {v w : Int} (hv : v ∈ procs vs) (hw : w ∈ procs vs) :
    (farV vs v w ≤ 0 ↔ above vs 0 v = above vs 0 w) ∧ (farV vs v w ≤ 1 ↔ above vs 1 v = above vs 1 w) ∧ (farV vs v w ≤ 2 ↔ above vs 2 v = above vs 2 w) := by
  obtain ⟨u0, u1, _⟩ := above_up T hv hw
  by_cases e0 : above vs 0 v = above vs 0 w
  · have e1 := u0 e0
    have e2 := u1 e1
    have : farV vs v w = 0 := by unfold farV; rw [if_pos e0]
    simp only [this, e0, e1, e2]; simp
  · by_cases e1 : above vs 1 v = above vs 1 w
    · have e2 := u1 e1
      have : farV vs v w = 1 := by unfold farV; rw [if_neg e0, if_pos e1]
      simp only [this, e0, e1, e2]; simp
    · by_cases e2 : above vs 2 v = above vs 2 w
      · have : farV vs v w = 2 := by unfold farV; rw [if_neg e0, if_neg e1, if_pos e2]
        simp only [this, e0, e1, e2]; simp
      · have : farV vs v w = 3 := by unfold farV; rw [if_neg e0, if_neg e1, if_neg e2]
        simp only [this, e0, e1, e2]; simp
theorem farV_three {vs : List (Int × Int)} (T : Tp.Tree vs) {u v w : Int} (hu : u ∈ procs vs) (hv : v ∈ procs vs) (hw : w ∈ procs vs) : farV vs u w ≤ farV vs u v ∨ farV vs u w ≤ farV vs v w := by
  obtain ⟨a0, a1, a2⟩ := farV_le T hu hv
  obtain ⟨b0, b1, b2⟩ := farV_le T hv hw
  obtain ⟨c0, c1, c2⟩ := farV_le T hu hw
  have x := farV_bounds vs u w
  have y := farV_bounds vs u v
  have z := farV_bounds vs v w
  by_cases h : farV vs u w ≤ farV vs u v
  · exact .inl h
  · by_cases h' : farV vs u w ≤ farV vs v w
    · exact .inr h'
    · exfalso
      rcases (show farV vs u w = 1 ∨ farV vs u w = 2 ∨ farV vs u w = 3 by omega) with e | e | e
      · have := c0.2 ((a0.1 (by omega)).trans (b0.1 (by omega))); omega
      · have := c1.2 ((a1.1 (by omega)).trans (b1.1 (by omega))); omega
      · have := c2.2 ((a2.1 (by omega)).trans (b2.1 (by omega))); omega
theorem above_step {vs : List (Int × Int)} (T : Tp.Tree vs) {v : Int} (hv : v ∈ procs vs) {d : Nat} (hd : d ≤ 2) : ∃ (k : Nat) (x : Int × Int), above vs d v = k ∧ vs[k]? = some x ∧ x.1 = above vs ((d + 1 : Nat) : Int) v := by
  obtain ⟨k, c, m, x, y, z, e, hx, hxc, hy, hym, hz, hz0, _, _, _, a0, a1, a2, a3⟩ := chain T hv
  match d, hd with
  | 0, _ => exact ⟨k, x, a0, hx, hxc.trans a1.symm⟩
  | 1, _ => exact ⟨c, y, a1, hy, hym.trans a2.symm⟩
  | 2, _ => exact ⟨m, z, a2, hz, hz0.trans a3.symm⟩
theorem farV_is {vs : List (Int × Int)} {v w : Int} {d : Nat} (hd : d ≤ 3) (he : d ≤ 2 → above vs d v = above vs d w) (hne : ∀ e : Nat, e < d → above vs e v ≠ above vs e w) : farV vs v w = d := by
  unfold farV
  match d, hd with
  | 0, _ =>
    have e0 : above vs 0 v = above vs 0 w := he (by omega)
    rw [if_pos e0]; rfl
  | 1, _ =>
    have n0 : ¬ above vs 0 v = above vs 0 w := hne 0 (by omega)
    have e1 : above vs 1 v = above vs 1 w := he (by omega)
    rw [if_neg n0, if_pos e1]; rfl
  | 2, _ =>
    have n0 : ¬ above vs 0 v = above vs 0 w := hne 0 (by omega)
    have n1 : ¬ above vs 1 v = above vs 1 w := hne 1 (by omega)
    have e2 : above vs 2 v = above vs 2 w := he (by omega)
    rw [if_neg n0, if_neg n1, if_pos e2]; rfl
  | 3, _ =>
    have n0 : ¬ above vs 0 v = above vs 0 w := hne 0 (by omega)
    have n1 : ¬ above vs 1 v = above vs 1 w := hne 1 (by omega)
    have n2 : ¬ above vs 2 v = above vs 2 w := hne 2 (by omega)
    rw [if_neg n0, if_neg n1, if_neg n2]; rfl
theorem far_out {vs : List (Int × Int)} {a b : Int} (h : a < 0 ∨ (procsN vs : Int) ≤ a ∨ b < 0 ∨ (procsN vs : Int) ≤ b) : far vs a b = -1 := by unfold far; rw [if_pos h]
theorem far_in {vs : List (Int × Int)} {a b : Int} (h : ¬ (a < 0 ∨ (procsN vs : Int) ≤ a ∨ b < 0 ∨ (procsN vs : Int) ≤ b)) : far vs a b = farV vs (proc vs a) (proc vs b) := by unfold far; rw [if_neg h]
theorem tree_of_in {vs : List (Int × Int)} {a : Int} (h0 : 0 ≤ a) (h1 : a < procsN vs) : Tp.Tree vs := by
  rw [← Tp.tree_iff]
  unfold procsN at h1
  split at h1
  · assumption
  · simp at h1; omega
theorem place_out {l : List Int} {v : Int} (h : v ∉ l) : place l v = -1 := by unfold place; rw [if_neg h]
theorem place_hit {l : List Int} {v : Int} {k : Nat} (hk : l[k]? = some v) (h : v ∉ l.take k) : place l v = k := by
  unfold place
  rw [if_pos (List.mem_of_getElem? hk)]
  obtain ⟨hl, e⟩ := List.getElem?_eq_some_iff.1 hk
  have hs : l = l.take k ++ (v :: l.drop (k + 1)) := by
    rw [← e, ← List.drop_eq_getElem_cons hl, List.take_append_drop]
  have : l.idxOf v = k := by
    rw [hs, List.idxOf_append, if_neg h, List.idxOf_cons]
    simp [List.length_take]
    omega
  rw [this]
theorem node_out {vs : List (Int × Int)} {p : Int} (h : p < 0 ∨ (procsN vs : Int) ≤ p) : node vs p = -1 := by unfold node; rw [if_pos h]
theorem node_in {vs : List (Int × Int)} {p : Int} (h : ¬ (p < 0 ∨ (procsN vs : Int) ≤ p)) : node vs p = place (nodes vs) (Tp.up vs 1 vs.length (proc vs p)) := by
  unfold node; rw [if_neg h]; rfl
def nearTo (vs : List (Int × Int)) (p : Int) : Nat → List Int
  | 0 => []
  | d + 1 => nearTo vs p d ++ ring vs p ((d + 1 : Nat) : Int)
theorem near_out {vs : List (Int × Int)} {p : Int} (h : p < 0 ∨ (procsN vs : Int) ≤ p) : near vs p = [] := by unfold near; rw [if_pos h]
theorem near_in {vs : List (Int × Int)} {p : Int} (h : ¬ (p < 0 ∨ (procsN vs : Int) ≤ p)) : near vs p = nearTo vs p 3 := by
  unfold near; rw [if_neg h]; rfl
theorem ringF_le (vs : List (Int × Int)) (p d : Int) (n : Nat) : ∀ k, (ringF vs p d n k).length ≤ k := by
  intro k
  induction k with
  | zero => exact Nat.le_refl _
  | succ k ih => rw [ringF, List.length_append]; split <;> simp <;> omega
theorem nearTo_le (vs : List (Int × Int)) (p : Int) : ∀ d, (nearTo vs p d).length ≤ d * procsN vs := by
  intro d
  induction d with
  | zero => simp [nearTo]
  | succ d ih =>
    rw [nearTo, List.length_append]
    have := ringF_le vs p ((d + 1 : Nat) : Int) (procsN vs) (procsN vs - 1)
    unfold ring
    rw [Nat.succ_mul]; omega
theorem above2_node {vs : List (Int × Int)} (T : Tp.Tree vs) {v : Int} (hv : v ∈ procs vs) : above vs 2 v ∈ nodes vs := by
  obtain ⟨k, c, m, x, y, z, e, hx, hxc, hy, hym, hz, hz0, _, _, z1, a0, a1, a2, a3⟩ := chain T hv
  rw [a2]
  exact Tp.mem_those.2 ⟨m, z, rfl, hz, by simpa using z1⟩
theorem place_mem {l : List Int} {v : Int} (h : v ∈ l) : ∃ k : Nat, place l v = k ∧ k < l.length ∧ l[k]? = some v := by
  unfold place
  rw [if_pos h]
  have hl : l.idxOf v < l.length := List.idxOf_lt_length_iff.2 h
  exact ⟨_, rfl, hl, by rw [List.getElem?_eq_getElem hl, List.getElem_idxOf hl]⟩
theorem place_inj {l : List Int} {v w : Int} (hv : v ∈ l) (hw : w ∈ l) : place l v = place l w ↔ v = w := by
  constructor
  · intro h
    obtain ⟨k, e1, _, e2⟩ := place_mem hv
    obtain ⟨k', e1', _, e2'⟩ := place_mem hw
    have : k = k' := by omega
    subst this
    rw [e2] at e2'
    injection e2'
  · rintro rfl; rfl
/-- What far says of a and b where it is no -1. -/
theorem far_pos {vs : List (Int × Int)} {a b : Int} (h : 0 ≤ far vs a b) : Tp.Tree vs ∧ 0 ≤ a ∧ a < procsN vs ∧ 0 ≤ b ∧ b < procsN vs ∧ proc vs a ∈ procs vs ∧ proc vs b ∈ procs vs ∧ far vs a b = farV vs (proc vs a) (proc vs b) := by
  by_cases ho : a < 0 ∨ (procsN vs : Int) ≤ a ∨ b < 0 ∨ (procsN vs : Int) ≤ b
  · rw [far_out ho] at h; omega
  · have T := tree_of_in (vs := vs) (a := a) (by omega) (by omega)
    exact ⟨T, by omega, by omega, by omega, by omega, (proc_mem T (by omega) (by omega)).2, (proc_mem T (by omega) (by omega)).2, far_in ho⟩
theorem node_eq {vs : List (Int × Int)} {a b : Int} (h : 0 ≤ far vs a b) : node vs a = node vs b ↔ far vs a b < 3 := by
  obtain ⟨T, a0, a1, b0, b1, ma, mb, e⟩ := far_pos h
  have na : node vs a = place (nodes vs) (above vs 2 (proc vs a)) := by unfold node; rw [if_neg (by omega)]
  have nb : node vs b = place (nodes vs) (above vs 2 (proc vs b)) := by unfold node; rw [if_neg (by omega)]
  rw [na, nb, place_inj (above2_node T ma) (above2_node T mb), e, ← (farV_le T ma mb).2.2]
  omega
theorem far_three {vs : List (Int × Int)} {a b c : Int} (h1 : 0 ≤ far vs a b) (h2 : 0 ≤ far vs b c) (h3 : 0 ≤ far vs a c) : far vs a c ≤ far vs a b ∨ far vs a c ≤ far vs b c := by
  obtain ⟨T, _, _, _, _, ma, mb, e1⟩ := far_pos h1
  obtain ⟨_, _, _, _, _, _, mc, e2⟩ := far_pos h2
  obtain ⟨_, _, _, _, _, _, _, e3⟩ := far_pos h3
  rw [e1, e2, e3]
  exact farV_three T ma mb mc
theorem far_bounds (vs : List (Int × Int)) (a b : Int) : -1 ≤ far vs a b ∧ far vs a b ≤ 3 := by
  unfold far
  have := farV_bounds vs (proc vs a) (proc vs b)
  split <;> omega
/-- Far is how many levels up the two are one for the first time. -/
theorem farV_above {vs : List (Int × Int)} (T : Tp.Tree vs) {v w : Int} (hv : v ∈ procs vs) (hw : w ∈ procs vs) :
    above vs (farV vs v w) v = above vs (farV vs v w) w ∧ (0 < farV vs v w → above vs (farV vs v w - 1) v ≠ above vs (farV vs v w - 1) w) := by
  obtain ⟨c0, c1, c2⟩ := farV_le T hv hw
  have c3 := (above_up T hv hw).2.2
  have bd := farV_bounds vs v w
  generalize farV vs v w = d at *
  rcases (show d = 0 ∨ d = 1 ∨ d = 2 ∨ d = 3 by omega) with rfl | rfl | rfl | rfl
  · exact ⟨c0.1 (by omega), fun h => by omega⟩
  · exact ⟨c1.1 (by omega), fun _ h => absurd (c0.2 h) (by omega)⟩
  · exact ⟨c2.1 (by omega), fun _ h => absurd (c1.2 h) (by omega)⟩
  · exact ⟨c3, fun _ h => absurd (c2.2 h) (by omega)⟩
end Go.Proofs.YtcoccegmkcdeiaaDoor.Dp


/- Who is near, in plain mathematics: all others, each once, never one nearer behind one that is farther. -/
namespace Go.Proofs.YtcoccegmkcdeiaaDoor.Dp
open Go.Proofs.YtcoccegmkcdeiaaDoor

/-- The k-th one from p on, round and round. -/
def nth (p : Int) (n k : Nat) : Int := (p + (k : Nat)) % n
theorem nth_range {p : Int} {n k : Nat} (h0 : 0 ≤ p) (h1 : p < n) (hk : 1 ≤ k) (hkn : k < n) : 0 ≤ nth p n k ∧ nth p n k < n ∧ nth p n k ≠ p := by
  unfold nth
  obtain ⟨i, rfl⟩ := Int.eq_ofNat_of_zero_le h0
  rw [show ((i : Int) + (k : Int)) % (n : Int) = (((i + k) % n : Nat) : Int) from by rw [Int.natCast_emod]; rfl]
  have hm := Nat.mod_lt (i + k) (show n > 0 by omega)
  refine ⟨by omega, by omega, ?_⟩
  rcases Nat.lt_or_ge (i + k) n with h | h
  · rw [Nat.mod_eq_of_lt h]; omega
  · rw [Nat.mod_eq_sub_mod h, Nat.mod_eq_of_lt (by omega)]; omega
theorem nth_inj {p : Int} {n j k : Nat} (h0 : 0 ≤ p) (h1 : p < n) (hj : j < k) (hk : k < n) : nth p n j ≠ nth p n k := by
  unfold nth
  obtain ⟨i, rfl⟩ := Int.eq_ofNat_of_zero_le h0
  rw [show ((i : Int) + (k : Int)) % (n : Int) = (((i + k) % n : Nat) : Int) from by rw [Int.natCast_emod]; rfl,
    show ((i : Int) + (j : Int)) % (n : Int) = (((i + j) % n : Nat) : Int) from by rw [Int.natCast_emod]; rfl]
  intro h
  have h' : (i + j) % n = (i + k) % n := by omega
  rcases Nat.lt_or_ge (i + j) n with a | a <;> rcases Nat.lt_or_ge (i + k) n with b | b
  · rw [Nat.mod_eq_of_lt a, Nat.mod_eq_of_lt b] at h'; omega
  · rw [Nat.mod_eq_of_lt a, Nat.mod_eq_sub_mod b, Nat.mod_eq_of_lt (by omega)] at h'; omega
  · omega
  · rw [Nat.mod_eq_sub_mod a, Nat.mod_eq_of_lt (by omega), Nat.mod_eq_sub_mod b, Nat.mod_eq_of_lt (by omega)] at h'; omega
theorem nth_all {p q : Int} {n : Nat} (h0 : 0 ≤ p) (h1 : p < n) (q0 : 0 ≤ q) (q1 : q < n) (hne : q ≠ p) : ∃ k : Nat, 1 ≤ k ∧ k < n ∧ nth p n k = q := by
  unfold nth
  by_cases h : p < q
  · refine ⟨(q - p).toNat, by omega, by omega, ?_⟩
    rw [show p + ((q - p).toNat : Int) = q by omega]
    exact Int.emod_eq_of_lt q0 q1
  · refine ⟨(q - p + n).toNat, by omega, by omega, ?_⟩
    rw [show p + ((q - p + n).toNat : Int) = q + n by omega, Int.add_emod_right]
    exact Int.emod_eq_of_lt q0 q1
theorem mem_ringF {vs : List (Int × Int)} {p d z : Int} {n : Nat} : ∀ k, z ∈ ringF vs p d n k ↔ ∃ t : Nat, 1 ≤ t ∧ t ≤ k ∧ z = nth p n t ∧ far vs p z = d := by
  intro k
  induction k with
  | zero =>
    constructor
    · intro h; cases h
    · rintro ⟨t, h1, h2, _⟩; omega
  | succ k ih =>
    rw [ringF, List.mem_append, ih]
    constructor
    · rintro (⟨t, a, b, c, e⟩ | h)
      · exact ⟨t, a, by omega, c, e⟩
      · split at h
        · rename_i hf
          rw [List.mem_singleton] at h
          subst h
          exact ⟨k + 1, by omega, by omega, rfl, hf⟩
        · cases h
    · rintro ⟨t, a, b, c, e⟩
      by_cases ht : t ≤ k
      · exact .inl ⟨t, a, ht, c, e⟩
      · right
        have : t = k + 1 := by omega
        subst this
        subst c
        have e' : far vs p ((p + ((k + 1 : Nat) : Int)) % (n : Int)) = d := e
        rw [if_pos e']
        exact List.mem_singleton.2 rfl
/-- One behind another: another one, and no nearer. -/
def Behind (vs : List (Int × Int)) (p a b : Int) : Prop := a ≠ b ∧ far vs p a ≤ far vs p b
theorem ringF_pair {vs : List (Int × Int)} {p d : Int} {n : Nat} (h0 : 0 ≤ p) (h1 : p < n) : ∀ k, k < n → (ringF vs p d n k).Pairwise (Behind vs p) := by
  intro k
  induction k with
  | zero => intro _; exact List.Pairwise.nil
  | succ k ih =>
    intro hk
    rw [ringF, List.pairwise_append]
    refine ⟨ih (by omega), ?_, ?_⟩
    · split
      · exact List.pairwise_singleton _ _
      · exact List.Pairwise.nil
    · intro a ha b hb
      split at hb
      · rename_i hf
        rw [List.mem_singleton] at hb
        subst hb
        obtain ⟨t, t1, t2, e, ef⟩ := (mem_ringF k).1 ha
        subst e
        exact ⟨nth_inj h0 h1 (by omega) hk, by rw [ef]; exact Int.le_of_eq hf.symm⟩
      · cases hb
theorem nearTo_pair {vs : List (Int × Int)} {p : Int} (h0 : 0 ≤ p) (h1 : p < procsN vs) : ∀ d, (nearTo vs p d).Pairwise (Behind vs p) ∧ ∀ z ∈ nearTo vs p d, far vs p z ≤ d := by
  intro d
  induction d with
  | zero => exact ⟨List.Pairwise.nil, fun z hz => by cases hz⟩
  | succ d ih =>
    obtain ⟨i1, i2⟩ := ih
    rw [nearTo]
    have hr : ∀ z ∈ ring vs p ((d + 1 : Nat) : Int), far vs p z = ((d + 1 : Nat) : Int) := fun z hz => by
      obtain ⟨_, _, _, _, e⟩ := (mem_ringF _).1 hz
      exact e
    refine ⟨List.pairwise_append.2 ⟨i1, ringF_pair h0 h1 _ (by omega), fun a ha b hb => ?_⟩, fun z hz => ?_⟩
    · have := i2 a ha
      have := hr b hb
      exact ⟨fun e => by subst e; omega, by omega⟩
    · rcases List.mem_append.1 hz with h | h
      · have := i2 z h; omega
      · have := hr z h; omega
theorem mem_near {vs : List (Int × Int)} {p z : Int} (h0 : 0 ≤ p) (h1 : p < procsN vs) : z ∈ near vs p ↔ 0 ≤ z ∧ z < procsN vs ∧ z ≠ p := by
  have T := tree_of_in h0 h1
  rw [near_in (by omega)]
  simp only [nearTo, ring, List.nil_append, List.mem_append, mem_ringF]
  constructor
  · rintro ((⟨t, a, b, e, _⟩ | ⟨t, a, b, e, _⟩) | ⟨t, a, b, e, _⟩) <;> (subst e; exact nth_range h0 h1 a (by omega))
  · rintro ⟨z0, z1, hne⟩
    obtain ⟨k, k1, k2, e⟩ := nth_all h0 h1 z0 z1 hne
    have hin : ¬ (p < 0 ∨ (procsN vs : Int) ≤ p ∨ z < 0 ∨ (procsN vs : Int) ≤ z) := by omega
    have hf := far_in hin
    obtain ⟨ep, mp⟩ := proc_mem T h0 h1
    obtain ⟨ez, mz⟩ := proc_mem T z0 z1
    have bd := farV_bounds vs (proc vs p) (proc vs z)
    have hz : farV vs (proc vs p) (proc vs z) ≠ 0 := fun h => by
      have e := (farV_zero T mp mz).1 h
      rw [e] at ep
      have hlp := (List.getElem?_eq_some_iff.1 ep).1
      have hlz := (List.getElem?_eq_some_iff.1 ez).1
      rcases Nat.lt_trichotomy p.toNat z.toNat with hlt | heq | hgt
      · have := Tp.those_rise ep ez hlt; omega
      · omega
      · have := Tp.those_rise ez ep hgt; omega
    rw [← hf] at bd hz
    rcases (show far vs p z = 1 ∨ far vs p z = 2 ∨ far vs p z = 3 by omega) with h | h | h
    · exact .inl (.inl ⟨k, k1, by omega, e.symm, h⟩)
    · exact .inl (.inr ⟨k, k1, by omega, e.symm, h⟩)
    · exact .inr ⟨k, k1, by omega, e.symm, h⟩
theorem far_ne_zero {vs : List (Int × Int)} {p z : Int} (h0 : 0 ≤ p) (h1 : p < procsN vs) (z0 : 0 ≤ z) (z1 : z < procsN vs) (hne : z ≠ p) : 1 ≤ far vs p z := by
  have hm := (mem_near (z := z) h0 h1).2 ⟨z0, z1, hne⟩
  rw [near_in (by omega)] at hm
  simp only [nearTo, ring, List.nil_append, List.mem_append, mem_ringF] at hm
  rcases hm with (⟨_, _, _, _, e⟩ | ⟨_, _, _, _, e⟩) | ⟨_, _, _, _, e⟩ <;> rw [e] <;> decide
/-- The parts of one that is near, at its place. -/
theorem near_at {vs : List (Int × Int)} {p z : Int} {i : Nat} (h0 : 0 ≤ p) (h1 : p < procsN vs) (hz : (near vs p)[i]? = some z) :
    0 ≤ z ∧ z < procsN vs ∧ z ≠ p ∧ Tp.has ((near vs p).take i) z = false ∧ ∀ (j : Nat) (u : Int), j < i → (near vs p)[j]? = some u → far vs p u ≤ far vs p z := by
  obtain ⟨a, b, c⟩ := (mem_near h0 h1).1 (List.mem_of_getElem? hz)
  have hp := (nearTo_pair h0 h1 3).1
  rw [← near_in (by omega)] at hp
  have hpw := List.pairwise_iff_getElem.1 hp
  have hR : ∀ (j : Nat) (u : Int), j < i → (near vs p)[j]? = some u → Behind vs p u z := by
    intro j u hj hu
    obtain ⟨jl, ej⟩ := List.getElem?_eq_some_iff.1 hu
    obtain ⟨il, ei⟩ := List.getElem?_eq_some_iff.1 hz
    have := hpw j i jl il hj
    rw [ej, ei] at this
    exact this
  refine ⟨a, b, c, ?_, fun j u hj hu => (hR j u hj hu).2⟩
  unfold Tp.has
  rw [Bool.eq_false_iff]
  intro hh
  rw [List.contains_iff_mem] at hh
  obtain ⟨j, hj⟩ := List.mem_iff_getElem?.1 hh
  have hji : j < i := by have := (List.getElem?_eq_some_iff.1 hj).1; rw [List.length_take] at this; omega
  rw [List.getElem?_take, if_pos hji] at hj
  exact (hR j z hji hj).1 rfl
theorem ring_count {vs : List (Int × Int)} {p : Int} (h0 : 0 ≤ p) (h1 : p < procsN vs) : ∀ k, k < procsN vs → (ringF vs p 1 (procsN vs) k).length + (ringF vs p 2 (procsN vs) k).length + (ringF vs p 3 (procsN vs) k).length = k := by
  intro k
  induction k with
  | zero => intro _; rfl
  | succ k ih =>
    intro hk
    have := ih (by omega)
    obtain ⟨z0, z1, hne⟩ := nth_range h0 h1 (show 1 ≤ k + 1 by omega) hk
    have f1 := far_ne_zero h0 h1 z0 z1 hne
    have f3 := (far_bounds vs p (nth p (procsN vs) (k + 1))).2
    rw [ringF, ringF, ringF, List.length_append, List.length_append, List.length_append]
    have e : (p + ((k + 1 : Nat) : Int)) % ((procsN vs : Nat) : Int) = nth p (procsN vs) (k + 1) := rfl
    rw [e]
    generalize far vs p (nth p (procsN vs) (k + 1)) = f at f1 f3 ⊢
    rcases (show f = 1 ∨ f = 2 ∨ f = 3 by omega) with rfl | rfl | rfl <;> simp <;> omega
theorem near_length {vs : List (Int × Int)} {p : Int} (h0 : 0 ≤ p) (h1 : p < procsN vs) : (near vs p).length = procsN vs - 1 := by
  have := ring_count h0 h1 (procsN vs - 1) (by omega)
  rw [near_in (by omega)]
  simp only [nearTo, ring, List.nil_append, List.length_append]
  exact this
/-- The node of a processor is one of the nodes. -/
theorem node_range {vs : List (Int × Int)} {p : Int} (h0 : 0 ≤ p) (h1 : p < procsN vs) : ∃ k : Nat, node vs p = k ∧ k < (nodes vs).length := by
  have T := tree_of_in h0 h1
  obtain ⟨_, mp⟩ := proc_mem T h0 h1
  obtain ⟨k, e, hk, _⟩ := place_mem (above2_node T mp)
  exact ⟨k, by unfold node; rw [if_neg (by omega)]; exact e, hk⟩
theorem node_core {vs : List (Int × Int)} {p q : Int} (h : far vs p q = 1) : node vs q = node vs p := ((node_eq (by omega)).2 (by omega)).symm
/-- Each node has a processor. -/
theorem node_all {vs : List (Int × Int)} (T : Tp.Tree vs) {k : Nat} (hk : k < (nodes vs).length) : ∃ p : Nat, p < procsN vs ∧ node vs p = k := by
  obtain ⟨v, hv⟩ : ∃ v, (nodes vs)[k]? = some v := ⟨_, List.getElem?_eq_getElem hk⟩
  obtain ⟨j, x, e, hx, h1⟩ := Tp.mem_those.1 (List.mem_of_getElem? hv)
  obtain ⟨i, u, hu, h3, hup⟩ := T.below hx (by simpa using h1)
  have hmem : (i : Int) ∈ procs vs := Tp.mem_those.2 ⟨i, u, rfl, hu, by simpa using h3⟩
  obtain ⟨p, hp⟩ := List.mem_iff_getElem?.1 hmem
  have hpl : p < procsN vs := by rw [procsN_tree T]; exact (List.getElem?_eq_some_iff.1 hp).1
  refine ⟨p, hpl, ?_⟩
  have hproc : proc vs p = i := by
    unfold proc
    rw [Int.toNat_natCast, hp]; rfl
  have hno : v ∉ (nodes vs).take k := by
    intro hm
    obtain ⟨t, ht⟩ := List.mem_iff_getElem?.1 hm
    have htk : t < k := by have := (List.getElem?_eq_some_iff.1 ht).1; rw [List.length_take] at this; omega
    rw [List.getElem?_take, if_pos htk] at ht
    have := Tp.those_rise ht hv htk
    omega
  have hab : Tp.up vs 1 vs.length (proc vs p) = v := by rw [hproc, hup, e]
  rw [node_in (by omega), hab]
  exact place_hit hv hno
end Go.Proofs.YtcoccegmkcdeiaaDoor.Dp


/- A list of lists that a call has made, and the table of layer 2. -/
namespace Go.Proofs.YtcoccegmkcdeiaaDoor
open Go.RowKit

/-- The rows of numbers behind a slice's address, each a slice of its own, all below block B. -/
def RRow (w : World) (B : Nat) (A : Option Addr) (rows : List (List Int)) : Prop :=
  ∀ i r, rows[i]? = some r → ∃ b off, A = some ⟨b, off, none⟩ ∧ b < B ∧ ∃ A' c', w.cell? ⟨b, off + i, none⟩ = some (.slice A' r.length c') ∧ IRow w B A' r
theorem RRow.keep {w w' : World} {B : Nat} {A : Option Addr} {rows : List (List Int)} (h : RRow w B A rows) (hk : ∀ p : Addr, p.block < B → w'.cell? p = w.cell? p) : RRow w' B A rows := by
  intro i r hi
  obtain ⟨b, off, e, hb, A', c', hc, hr⟩ := h i r hi
  exact ⟨b, off, e, hb, A', c', (hk _ hb).trans hc, hr.keep hk⟩
theorem RRow.more {w : World} {B B' : Nat} {A : Option Addr} {rows : List (List Int)} (h : RRow w B A rows) (hB : B ≤ B') : RRow w B' A rows := by
  intro i r hi
  obtain ⟨b, off, e, hb, A', c', hc, hr⟩ := h i r hi
  exact ⟨b, off, e, by omega, A', c', hc, hr.more hB⟩
theorem RRow.below {w w' : World} {B : Nat} {A : Option Addr} {rows : List (List Int)} (h : RRow w B A rows) (hb : Below B w w') : RRow w' B A rows := h.keep fun _ hp => hb.cell hp
def MadeRows (w0 : World) (rows : List (List Int)) (e : Ending) (w' : World) : Prop :=
  ∃ A c, e = .returned (.slice A rows.length c) ∧ RRow w' w'.heap.size A rows ∧ Below w0.heap.size w0 w'
/-- The table: of each processor, in turn, how far it is from each. -/
def table (vs : List (Int × Int)) : List (List Int) := (List.range (Dp.procsN vs)).map fun (a : Nat) => (List.range (Dp.procsN vs)).map fun (b : Nat) => Dp.far vs a b
theorem those_len (p : Int × Int → Bool) (vs : List (Int × Int)) : (Tp.those p vs).length ≤ vs.length := Tp.thoseF_le p vs 0
end Go.Proofs.YtcoccegmkcdeiaaDoor


/- Layer 3 in plain mathematics: a text read byte by byte, as far as it goes; and a text read vertex by vertex: they come to the same. -/
namespace Go.Proofs.YtcoccegmkcdeiaaDoor.Tx

/-- The letter of a level. -/
def lt : Nat → UInt8 | 0 => 109 | 1 => 110 | 2 => 99 | _ => 112
/-- How far a text has been read: the vertices so far; who is above those of each level; the level; the byte before. -/
structure St where
  vs : List (Int × Int)
  ab : Nat → Int
  lv : Nat
  q : UInt8
def st0 : St := ⟨[], fun j => if j = 0 then -1 else 0, 0, 0⟩
def goes (q c : UInt8) (l : Nat) : Bool :=
  if q = 0 ∨ q = 40 then c == lt l
  else if q = 109 ∨ q = 110 ∨ q = 99 then c == 40
  else decide (0 < l) && (c == lt l || c == 41)
def adv (σ : St) (c : UInt8) : St :=
  if c = 40 then ⟨σ.vs, fun j => if j = σ.lv + 1 then (σ.vs.length : Int) - 1 else σ.ab j, σ.lv + 1, 40⟩
  else if c = 41 then ⟨σ.vs, σ.ab, σ.lv - 1, 41⟩
  else ⟨σ.vs ++ [(σ.ab σ.lv, (σ.lv : Int))], σ.ab, σ.lv, c⟩
/-- As far as it goes: what it came to, and what is left. -/
def run (σ : St) : List UInt8 → St × List UInt8
  | [] => (σ, [])
  | c :: cs => if goes σ.q c σ.lv then run (adv σ c) cs else (σ, c :: cs)
theorem run_yes {σ : St} {c : UInt8} {cs : List UInt8} (h : goes σ.q c σ.lv = true) : run σ (c :: cs) = run (adv σ c) cs := by rw [run, if_pos h]
theorem run_no {σ : St} {c : UInt8} {cs : List UInt8} (h : goes σ.q c σ.lv = false) : run σ (c :: cs) = (σ, c :: cs) := by rw [run, if_neg (by rw [h]; exact Bool.false_ne_true)]
/-- What a text is parsed to: the vertices, the place, the error. -/
def parse (l : List UInt8) : List (Int × Int) × Nat × Int :=
  if (run st0 l).2 = [] ∧ (run st0 l).1.lv = 0 ∧ Tp.may (run st0 l).1.vs = true then ((run st0 l).1.vs, 0, 0)
  else ([], l.length - (run st0 l).2.length, 2)

def Opn (σ : St) : Prop := σ.q = 0 ∨ σ.q = 40
def Whl (σ : St) : Prop := σ.q = 112 ∨ σ.q = 41
theorem goes_opn {σ : St} (h : Opn σ) (c : UInt8) (l : Nat) : goes σ.q c l = (c == lt l) := by
  unfold goes; exact if_pos h
theorem goes_whl {σ : St} (h : Whl σ) (c : UInt8) (l : Nat) : goes σ.q c l = (decide (0 < l) && (c == lt l || c == 41)) := by
  unfold goes
  rcases h with h | h <;> rw [h] <;> rfl
theorem goes_letter (c : UInt8) (k l : Nat) (hk : k ≤ 2) : goes (lt k) c l = (c == 40) := by
  rcases (show k = 0 ∨ k = 1 ∨ k = 2 by omega) with rfl | rfl | rfl <;> rfl
theorem lt_no40 (k : Nat) : lt k ≠ 40 := by
  unfold lt; split <;> decide
theorem lt_no41 (k : Nat) : lt k ≠ 41 := by
  unfold lt; split <;> decide
theorem adv_letter (σ : St) (k : Nat) : adv σ (lt k) = ⟨σ.vs ++ [(σ.ab σ.lv, (σ.lv : Int))], σ.ab, σ.lv, lt k⟩ := by
  unfold adv; rw [if_neg (lt_no40 k), if_neg (lt_no41 k)]
theorem adv_open (σ : St) : adv σ 40 = ⟨σ.vs, fun j => if j = σ.lv + 1 then (σ.vs.length : Int) - 1 else σ.ab j, σ.lv + 1, 40⟩ := rfl
theorem adv_shut (σ : St) : adv σ 41 = ⟨σ.vs, σ.ab, σ.lv - 1, 41⟩ := rfl

/-- What a vertex was read to: the vertices, what is left, whether all of it was there. -/
structure Got where
  t : List (Int × Int)
  l : List UInt8
  is : Bool
def more (V : List (Int × Int) → List UInt8 → Got) (c0 : UInt8) : Nat → Got → Got
  | 0, g => g
  | f + 1, g => if g.is = true ∧ g.l.head? = some c0 then more V c0 f (V g.t g.l) else g
def shut (g : Got) : Got :=
  if g.is = true then if g.l.head? = some 41 then ⟨g.t, g.l.tail, true⟩ else ⟨g.t, g.l, false⟩ else g
/-- A vertex of level 3 - d below p, read from a text. -/
def vx : Nat → Int → List (Int × Int) → List UInt8 → Got
  | 0, p, t, l => if l.head? = some 112 then ⟨t ++ [(p, 3)], l.tail, true⟩ else ⟨t, l, false⟩
  | d + 1, p, t, l =>
    if l.head? = some (lt (2 - d)) then
      if l.tail.head? = some 40 then
        shut (more (vx d t.length) (lt (3 - d)) l.length (vx d t.length (t ++ [(p, ((2 - d : Nat) : Int))]) l.tail.tail))
      else ⟨t ++ [(p, ((2 - d : Nat) : Int))], l.tail, false⟩
    else ⟨t, l, false⟩

theorem more_len {V : List (Int × Int) → List UInt8 → Got} {c0 : UInt8} (hV : ∀ t l, (V t l).l.length ≤ l.length) : ∀ (f : Nat) (g : Got), (more V c0 f g).l.length ≤ g.l.length := by
  intro f
  induction f with
  | zero => intro g; exact Nat.le_refl _
  | succ f ih =>
    intro g
    rw [more]
    split
    · exact Nat.le_trans (ih _) (hV _ _)
    · exact Nat.le_refl _
theorem tail_le (l : List UInt8) : l.tail.length ≤ l.length := by rw [List.length_tail]; omega
theorem shut_len (g : Got) : (shut g).l.length ≤ g.l.length := by
  unfold shut
  split
  · split
    · exact tail_le _
    · exact Nat.le_refl _
  · exact Nat.le_refl _
theorem vx_len : ∀ (d : Nat) (p : Int) (t : List (Int × Int)) (l : List UInt8), (vx d p t l).l.length ≤ l.length := by
  intro d
  induction d with
  | zero => intro p t l; rw [vx]; split <;> simp
  | succ d ih =>
    intro p t l
    rw [vx]
    split
    · split
      · exact Nat.le_trans (shut_len _) (Nat.le_trans (more_len (fun t l => ih _ _ _) _ _) (Nat.le_trans (ih _ _ _) (Nat.le_trans (tail_le _) (tail_le _))))
      · exact tail_le _
    · exact Nat.le_refl _
theorem head_cons {l : List UInt8} {c : UInt8} (h : l.head? = some c) : l = c :: l.tail := by
  cases l with
  | nil => cases h
  | cons a al => injection h with h; subst h; rfl
theorem vx_less {d : Nat} (hd : d ≤ 3) (p : Int) (t : List (Int × Int)) {l : List UInt8} (h : l.head? = some (lt (3 - d))) : (vx d p t l).l.length < l.length := by
  have hl := head_cons h
  have hn : l.tail.length < l.length := by rw [hl]; simp
  cases d with
  | zero => rw [vx, if_pos (show l.head? = some 112 from h)]; exact hn
  | succ d =>
    rw [vx, if_pos (by rw [h]; congr 2; omega)]
    split
    · exact Nat.lt_of_le_of_lt (Nat.le_trans (shut_len _) (Nat.le_trans (more_len (fun t l => vx_len _ _ _ _) _ _) (Nat.le_trans (vx_len _ _ _ _) (tail_le _)))) hn
    · exact hn

/-- What the reading of a vertex that began at σ, l has come to. -/
def Came (σ : St) (l : List UInt8) (lv : Nat) (ab : Nat → Int) (g : Got) : Prop :=
  (g.is = true → ∃ σ', run σ l = run σ' g.l ∧ σ'.vs = g.t ∧ σ'.lv = lv ∧ Whl σ' ∧ ∀ j, j ≤ lv → σ'.ab j = ab j)
  ∧ (g.is = false → ∃ σ', run σ l = (σ', g.l) ∧ (g.l = [] → σ'.lv = 0 → σ'.vs.length ≤ 1))
theorem more_came {d : Nat} (hd : d ≤ 2) {own : Int} (hV : ∀ (σ : St) (l : List UInt8), σ.lv = 3 - d → Whl σ → l.head? = some (lt σ.lv) → σ.ab σ.lv = own → Came σ l σ.lv σ.ab (vx d own σ.vs l))
    {σ : St} {l : List UInt8} {ab : Nat → Int} (hown : ab (3 - d) = own) : ∀ (f : Nat) (g : Got), g.l.length ≤ f → Came σ l (3 - d) ab g →
      Came σ l (3 - d) ab (more (vx d own) (lt (3 - d)) f g) ∧ ¬ ((more (vx d own) (lt (3 - d)) f g).is = true ∧ (more (vx d own) (lt (3 - d)) f g).l.head? = some (lt (3 - d))) := by
  intro f
  induction f with
  | zero =>
    intro g hf hg
    refine ⟨hg, ?_⟩
    rintro ⟨_, h⟩
    have e : g.l = [] := List.length_eq_zero_iff.1 (by omega)
    rw [more, e] at h
    cases h
  | succ f ih =>
    intro g hf hg
    rw [more]
    split
    · rename_i h
      obtain ⟨hi, hh⟩ := h
      have hlt := vx_less (d := d) (by omega) own g.t hh
      refine ih _ (by omega) ?_
      obtain ⟨σ', e1, e2, e3, e4, e5⟩ := hg.1 hi
      have K := hV σ' g.l e3 e4 (by rw [e3]; exact hh) (by rw [e3, e5 _ (Nat.le_refl _), hown])
      rw [e2] at K
      refine ⟨fun hi' => ?_, fun hi' => ?_⟩
      · obtain ⟨σ2, f1, f2, f3, f4, f5⟩ := K.1 hi'
        exact ⟨σ2, e1.trans f1, f2, by rw [f3, e3], f4, fun j hj => by rw [f5 j (by omega), e5 j hj]⟩
      · obtain ⟨σ2, f1, f2⟩ := K.2 hi'
        exact ⟨σ2, e1.trans f1, f2⟩
    · rename_i h
      exact ⟨hg, h⟩
theorem vx_came : ∀ (d : Nat), d ≤ 3 → ∀ (σ : St) (l : List UInt8), σ.lv = 3 - d → (Opn σ ∨ (Whl σ ∧ 0 < σ.lv ∧ l.head? = some (lt σ.lv))) → (σ.lv = 0 → σ.vs = []) →
    Came σ l σ.lv σ.ab (vx d (σ.ab σ.lv) σ.vs l) := by
  intro d
  induction d with
  | zero =>
    intro _ σ l hlv ho _
    have hgo : ∀ c, l.head? = some c → goes σ.q c σ.lv = (c == 112) := by
      intro c hc
      rcases ho with ho | ⟨hw, h0, hh⟩
      · rw [goes_opn ho, hlv]; rfl
      · rw [hc] at hh
        injection hh with hh
        subst hh
        rw [goes_whl hw, hlv]; rfl
    rw [vx]
    split
    · rename_i h
      refine ⟨fun _ => ?_, fun h => by cases h⟩
      refine ⟨adv σ 112, ?_, ?_, ?_, ?_, ?_⟩
      · rw [head_cons h]
        exact run_yes (by rw [hgo _ h]; rfl)
      · rw [show (112 : UInt8) = lt 3 from rfl, adv_letter, hlv]; rfl
      · rw [show (112 : UInt8) = lt 3 from rfl, adv_letter]
      · rw [show (112 : UInt8) = lt 3 from rfl, adv_letter]; exact .inl rfl
      · intro j _; rw [show (112 : UInt8) = lt 3 from rfl, adv_letter]
    · rename_i h
      refine ⟨(fun h => by cases h), fun _ => ?_⟩
      cases l with
      | nil => exact ⟨σ, rfl, fun _ h0 => by omega⟩
      | cons c cs =>
        refine ⟨σ, run_no ?_, fun h => by cases h⟩
        rw [hgo c rfl]
        exact beq_eq_false_iff_ne.2 (fun e => h (by rw [e]; rfl))
  | succ d ih =>
    intro hd3 σ l hlv ho hz
    have hlv' : σ.lv = 2 - d := by omega
    have hgo : ∀ c, l.head? = some c → goes σ.q c σ.lv = (c == lt (2 - d)) := by
      intro c hc
      rcases ho with ho | ⟨hw, h0, hh⟩
      · rw [goes_opn ho, hlv']
      · rw [hc] at hh
        injection hh with hh
        subst hh
        rw [goes_whl hw, decide_eq_true h0, hlv']; simp
    rw [vx]
    split
    · rename_i h
      have e1 : run σ l = run ⟨σ.vs ++ [(σ.ab σ.lv, (σ.lv : Int))], σ.ab, σ.lv, lt (2 - d)⟩ l.tail := by
        conv => lhs; rw [head_cons h]
        rw [run_yes (by rw [hgo _ h]; simp), adv_letter]
      have hgo2 := fun c => goes_letter c (2 - d) σ.lv (by omega)
      split
      · rename_i h2
        have e2 : run σ l = run ⟨σ.vs ++ [(σ.ab σ.lv, (σ.lv : Int))], fun j => if j = σ.lv + 1 then (σ.vs.length : Int) else σ.ab j, σ.lv + 1, 40⟩ l.tail.tail := by
          rw [e1]
          conv => lhs; rw [head_cons h2]
          rw [run_yes (by rw [hgo2]; rfl), adv_open]
          congr 2
          funext j
          split
          · simp
          · rfl
        have K0 := ih (by omega) ⟨σ.vs ++ [(σ.ab σ.lv, (σ.lv : Int))], fun j => if j = σ.lv + 1 then (σ.vs.length : Int) else σ.ab j, σ.lv + 1, 40⟩ l.tail.tail (by simp only; omega) (.inl (.inr rfl)) (by simp)
        simp only [if_true] at K0
        have K : Came σ l (3 - d) (fun j => if j = σ.lv + 1 then (σ.vs.length : Int) else σ.ab j) (vx d σ.vs.length (σ.vs ++ [(σ.ab σ.lv, ((2 - d : Nat) : Int))]) l.tail.tail) := by
          rw [hlv'] at K0 e2 ⊢
          have e3 : 2 - d + 1 = 3 - d := by omega
          rw [e3] at K0 e2 ⊢
          refine ⟨fun hi => ?_, fun hi => ?_⟩
          · obtain ⟨σ', f1, f2⟩ := K0.1 hi
            exact ⟨σ', e2.trans f1, f2⟩
          · obtain ⟨σ', f1, f2⟩ := K0.2 hi
            exact ⟨σ', e2.trans f1, f2⟩
        have hl2 : (vx d σ.vs.length (σ.vs ++ [(σ.ab σ.lv, ((2 - d : Nat) : Int))]) l.tail.tail).l.length ≤ l.length := Nat.le_trans (vx_len _ _ _ _) (Nat.le_trans (tail_le _) (tail_le _))
        obtain ⟨M, hno⟩ := more_came (d := d) (by omega) (own := (σ.vs.length : Int)) (fun σ1 l1 a1 a2 a3 a4 => by
          have := ih (by omega) σ1 l1 a1 (.inr ⟨a2, by omega, a3⟩) (fun h => by omega)
          rw [a4] at this
          exact this) (σ := σ) (l := l) (ab := fun j => if j = σ.lv + 1 then (σ.vs.length : Int) else σ.ab j) (by rw [if_pos (by omega)]) l.length _ hl2 K
        generalize more (vx d σ.vs.length) (lt (3 - d)) l.length (vx d σ.vs.length (σ.vs ++ [(σ.ab σ.lv, ((2 - d : Nat) : Int))]) l.tail.tail) = g at M hno
        unfold shut
        split
        · rename_i hi
          obtain ⟨σ', f1, f2, f3, f4, f5⟩ := M.1 hi
          split
          · rename_i h41
            refine ⟨fun _ => ⟨adv σ' 41, ?_, ?_, ?_, ?_, ?_⟩, fun h => by cases h⟩
            · rw [f1]
              conv => lhs; rw [head_cons h41]
              exact run_yes (by rw [goes_whl f4, decide_eq_true (by omega)]; simp)
            · exact f2
            · rw [adv_shut]; simp only; omega
            · exact .inr rfl
            · intro j hj
              rw [adv_shut]
              simp only
              rw [f5 j (by omega)]
              exact if_neg (by omega)
          · rename_i h41
            refine ⟨(fun h => by cases h), fun _ => ⟨σ', ?_, fun _ h0 => by omega⟩⟩
            rw [f1]
            cases hgl : g.l with
            | nil => rfl
            | cons c cs =>
              refine run_no ?_
              rw [hgl] at h41 hno
              rw [goes_whl f4, f3]
              have k1 : (c == lt (3 - d)) = false := beq_eq_false_iff_ne.2 (fun e => hno ⟨hi, by rw [e]; rfl⟩)
              have k2 : (c == 41) = false := beq_eq_false_iff_ne.2 (fun e => h41 (by rw [e]; rfl))
              rw [k1, k2]; simp
        · rename_i hi
          refine ⟨fun h => absurd h hi, fun h => M.2 h⟩
      · rename_i h2
        refine ⟨(fun h => by cases h), fun _ => ⟨⟨σ.vs ++ [(σ.ab σ.lv, (σ.lv : Int))], σ.ab, σ.lv, lt (2 - d)⟩, ?_, fun _ h0 => by rw [hz h0]; simp⟩⟩
        rw [e1]
        simp only
        generalize l.tail = r at h2
        cases r with
        | nil => rfl
        | cons c cs =>
          refine run_no ?_
          rw [hgo2]
          exact beq_eq_false_iff_ne.2 (fun e => h2 (by rw [e]; rfl))
    · rename_i h
      refine ⟨(fun h => by cases h), fun _ => ?_⟩
      cases l with
      | nil => exact ⟨σ, rfl, fun _ h0 => by rw [hz h0]; simp⟩
      | cons c cs =>
        refine ⟨σ, run_no ?_, fun h => by cases h⟩
        rw [hgo c rfl]
        exact beq_eq_false_iff_ne.2 (fun e => h (by rw [e]; rfl))
/-- The document's own way to read a text. -/
def parseV (l : List UInt8) : List (Int × Int) × Nat × Int :=
  if (vx 3 (-1) [] l).is = true ∧ (vx 3 (-1) [] l).l = [] ∧ Tp.may (vx 3 (-1) [] l).t = true then ((vx 3 (-1) [] l).t, 0, 0)
  else ([], l.length - (vx 3 (-1) [] l).l.length, 2)
theorem parse_same (l : List UInt8) : parseV l = parse l := by
  obtain ⟨h1, h2⟩ := vx_came 3 (Nat.le_refl _) st0 l rfl (.inl (.inl rfl)) (fun _ => rfl)
  simp only [show st0.ab st0.lv = -1 from rfl, show st0.vs = [] from rfl] at h1 h2
  unfold parseV parse
  generalize vx 3 (-1) [] l = g at h1 h2
  cases hi : g.is
  · obtain ⟨σ', f1, f2⟩ := h2 hi
    rw [f1, if_neg (by simp), if_neg]
    rintro ⟨a, b, c⟩
    have := ((Tp.tree_iff _).1 c).two
    have := f2 a b
    simp only at *
    omega
  · obtain ⟨σ', f1, f2, f3, f4, f5⟩ := h1 hi
    have f6 : run σ' g.l = (σ', g.l) := by
      cases hgl : g.l with
      | nil => rfl
      | cons c cs => exact run_no (by rw [goes_whl f4, f3]; rfl)
    rw [f1, f6]
    simp only
    rw [f2, f3]
    simp [st0]
end Go.Proofs.YtcoccegmkcdeiaaDoor.Tx


/- Layer 3 in plain mathematics: the shape of a tree; its text; the tree that is parsed of that, numbered in the turn of the letters. -/
namespace Go.Proofs.YtcoccegmkcdeiaaDoor.Tx
open Tp

/-- The shape of a vertex of level 3 - d: those of the vertices below it, in turn. -/
def Sh : Nat → Type
  | 0 => Unit
  | d + 1 => List (Sh d)
def tS : (d : Nat) → Sh d → List UInt8
  | 0, _ => [112]
  | d + 1, s => lt (2 - d) :: 40 :: (List.flatMap (tS d) s ++ [41])
def bSs {α : Type} (F : α → Nat → Int → List (Int × Int)) : List α → Nat → Int → List (Int × Int)
  | [], _, _ => []
  | k :: ks, b, p => F k b p ++ bSs F ks (b + (F k b p).length) p
/-- The vertices, numbered from b on, below p. -/
def bS : (d : Nat) → Sh d → Nat → Int → List (Int × Int)
  | 0, _, _, p => [(p, 3)]
  | d + 1, s, b, p => (p, ((2 - d : Nat) : Int)) :: bSs (bS d) s (b + 1) b
/-- How many lie below each one that is no processor: as few, and as many, as may be. -/
def wf : (d : Nat) → Sh d → Prop
  | 0, _ => True
  | d + 1, s => s ≠ [] ∧ List.length s ≤ 8 ∧ ∀ k, k ∈ (show List (Sh d) from s) → wf d k
def ne : (d : Nat) → Sh d → Prop
  | 0, _ => True
  | d + 1, s => s ≠ [] ∧ ∀ k, k ∈ (show List (Sh d) from s) → ne d k
theorem bS_succ (d : Nat) (s : List (Sh d)) (b : Nat) (p : Int) : bS (d + 1) s b p = (p, ((2 - d : Nat) : Int)) :: bSs (bS d) s (b + 1) b := rfl
theorem tS_succ (d : Nat) (s : List (Sh d)) : tS (d + 1) s = lt (2 - d) :: 40 :: (s.flatMap (tS d) ++ [41]) := rfl
theorem wf_ne : ∀ (d : Nat) (s : Sh d), wf d s → ne d s := by
  intro d
  induction d with
  | zero => intro s _; trivial
  | succ d ih => intro s h; exact ⟨h.1, fun k hk => ih k (h.2.2 k hk)⟩
theorem bSs_snoc {α : Type} (F : α → Nat → Int → List (Int × Int)) (k : α) : ∀ (ks : List α) (b : Nat) (p : Int), bSs F (ks ++ [k]) b p = bSs F ks b p ++ F k (b + (bSs F ks b p).length) p := by
  intro ks
  induction ks with
  | nil => intro b p; simp [bSs]
  | cons a al ih => intro b p; rw [List.cons_append, bSs, ih, bSs, List.length_append, List.append_assoc, Nat.add_assoc]

/-- What is read as a vertex is the text of a shape, and the vertices are that shape's. -/
theorem vx_shape : ∀ (d : Nat), d ≤ 3 → ∀ (p : Int) (t : List (Int × Int)) (l : List UInt8), (vx d p t l).is = true →
    ∃ s : Sh d, ne d s ∧ l = tS d s ++ (vx d p t l).l ∧ (vx d p t l).t = t ++ bS d s t.length p := by
  intro d
  induction d with
  | zero =>
    intro _ p t l h
    rw [vx] at h ⊢
    split at h
    · rename_i hl
      rw [if_pos hl]
      exact ⟨(), trivial, head_cons hl, rfl⟩
    · cases h
  | succ d ih =>
    intro hd p t l h
    rw [vx] at h ⊢
    split at h
    · rename_i hl
      rw [if_pos hl]
      split at h
      · rename_i h2
        rw [if_pos h2]
        have K : ∀ (f : Nat) (g : Got) (t0 : List (Int × Int)) (l0 : List UInt8),
            (g.is = true → ∃ ks : List (Sh d), ks ≠ [] ∧ (∀ k ∈ ks, ne d k) ∧ l0 = ks.flatMap (tS d) ++ g.l ∧ g.t = t0 ++ bSs (bS d) ks t0.length t.length) →
            (more (vx d t.length) (lt (3 - d)) f g).is = true → ∃ ks : List (Sh d), ks ≠ [] ∧ (∀ k ∈ ks, ne d k) ∧ l0 = ks.flatMap (tS d) ++ (more (vx d t.length) (lt (3 - d)) f g).l ∧ (more (vx d t.length) (lt (3 - d)) f g).t = t0 ++ bSs (bS d) ks t0.length t.length := by
          intro f
          induction f with
          | zero => intro g t0 l0 hg; exact hg
          | succ f ihf =>
            intro g t0 l0 hg
            rw [more]
            split
            · rename_i hh
              refine ihf _ t0 l0 (fun hi => ?_)
              obtain ⟨ks, a1, a2, a3, a4⟩ := hg hh.1
              obtain ⟨s, b1, b2, b3⟩ := ih (by omega) _ _ _ hi
              refine ⟨ks ++ [s], by simp, ?_, ?_, ?_⟩
              · intro k hk
                rcases List.mem_append.1 hk with hk | hk
                · exact a2 k hk
                · rw [List.mem_singleton.1 hk]; exact b1
              · rw [List.flatMap_append, List.append_assoc]
                conv => lhs; rw [a3, b2]
                simp
              · rw [b3, a4, bSs_snoc, List.length_append, List.append_assoc]
            · exact hg
        unfold shut at h ⊢
        split at h
        · rename_i hi
          rw [if_pos hi]
          split at h
          · rename_i h41
            rw [if_pos h41]
            obtain ⟨ks, a1, a2, a3, a4⟩ := K l.length (vx d t.length (t ++ [(p, ((2 - d : Nat) : Int))]) l.tail.tail) (t ++ [(p, ((2 - d : Nat) : Int))]) l.tail.tail (fun hi0 => by
              obtain ⟨s, b1, b2, b3⟩ := ih (by omega) _ _ _ hi0
              refine ⟨[s], by simp, fun k hk => by rw [List.mem_singleton.1 hk]; exact b1, by simpa using b2, ?_⟩
              rw [b3]; simp [bSs]) hi
            refine ⟨ks, ⟨a1, a2⟩, ?_, ?_⟩
            · conv => lhs; rw [head_cons hl, head_cons h2, a3, head_cons h41]
              simp [tS]
            · simp only
              rw [a4, bS_succ d ks, List.append_assoc, List.length_append]
              simp
          · cases h
        · rename_i hi
          exact absurd h hi
      · cases h
    · cases h
/-- A text that goes on with that of a shape goes on behind it. -/
theorem run_shape : ∀ (d : Nat), d ≤ 3 → ∀ (s : Sh d) (σ : St) (r : List UInt8), ne d s → σ.lv = 3 - d → (Opn σ ∨ (Whl σ ∧ 0 < σ.lv)) →
    ∃ σ', run σ (tS d s ++ r) = run σ' r ∧ σ'.vs = σ.vs ++ bS d s σ.vs.length (σ.ab σ.lv) ∧ σ'.lv = σ.lv ∧ Whl σ' ∧ ∀ j, j ≤ σ.lv → σ'.ab j = σ.ab j := by
  intro d
  induction d with
  | zero =>
    intro _ s σ r _ hlv ho
    have hgo : goes σ.q 112 σ.lv = true := by
      rcases ho with ho | ⟨ho, h0⟩
      · rw [goes_opn ho, hlv]; rfl
      · rw [goes_whl ho, hlv]; rfl
    refine ⟨adv σ (lt 3), ?_, ?_, ?_, ?_, ?_⟩
    · exact run_yes hgo
    · rw [adv_letter, hlv]; rfl
    · rw [adv_letter]
    · rw [adv_letter]; exact .inl rfl
    · intro j _; rw [adv_letter]
  | succ d ih =>
    intro hd s σ r hne hlv ho
    have hlv' : σ.lv = 2 - d := by omega
    have hgo : goes σ.q (lt (2 - d)) σ.lv = true := by
      rcases ho with ho | ⟨ho, h0⟩
      · rw [goes_opn ho, hlv']; simp
      · rw [goes_whl ho, decide_eq_true h0, hlv']; simp
    have K : ∀ (ks : List (Sh d)), (∀ k ∈ ks, ne d k) → ∀ (σ1 : St) (r : List UInt8), σ1.lv = 3 - d → (Opn σ1 ∨ Whl σ1) → (ks ≠ [] ∨ Whl σ1) →
        ∃ σ', run σ1 (ks.flatMap (tS d) ++ r) = run σ' r ∧ σ'.vs = σ1.vs ++ bSs (bS d) ks σ1.vs.length (σ1.ab (3 - d)) ∧ σ'.lv = σ1.lv ∧ Whl σ' ∧ ∀ j, j ≤ 3 - d → σ'.ab j = σ1.ab j := by
      intro ks
      induction ks with
      | nil =>
        intro _ σ1 r _ _ hw
        refine ⟨σ1, rfl, by simp [bSs], rfl, ?_, fun _ _ => rfl⟩
        rcases hw with hw | hw
        · exact absurd rfl hw
        · exact hw
      | cons k ks ihk =>
        intro hk σ1 r h1 ho1 _
        obtain ⟨σ2, a1, a2, a3, a4, a5⟩ := ih (by omega) k σ1 (ks.flatMap (tS d) ++ r) (hk k List.mem_cons_self) h1 (by rcases ho1 with h | h; exact .inl h; exact .inr ⟨h, by omega⟩)
        obtain ⟨σ3, b1, b2, b3, b4, b5⟩ := ihk (fun k hk' => hk k (List.mem_cons_of_mem _ hk')) σ2 r (by rw [a3, h1]) (.inr a4) (.inr a4)
        refine ⟨σ3, ?_, ?_, by rw [b3, a3], b4, fun j hj => by rw [b5 j hj, a5 j (by omega)]⟩
        · rw [List.flatMap_cons, List.append_assoc, a1, b1]
        · rw [b2, a2, bSs, a5 _ (by omega), h1, List.append_assoc, List.length_append]
    obtain ⟨σ3, b1, b2, b3, b4, b5⟩ := K s hne.2 ⟨σ.vs ++ [(σ.ab σ.lv, (σ.lv : Int))], fun j => if j = σ.lv + 1 then (σ.vs.length : Int) else σ.ab j, σ.lv + 1, 40⟩ ([41] ++ r) (by simp only; omega) (.inl (.inr rfl)) (.inl hne.1)
    refine ⟨adv σ3 41, ?_, ?_, ?_, .inr rfl, ?_⟩
    · rw [tS, List.cons_append, run_yes hgo, adv_letter, List.cons_append, run_yes (by rw [goes_letter _ _ _ (by omega)]; rfl), adv_open, List.append_assoc]
      have e : (fun j => if j = σ.lv + 1 then (((σ.vs ++ [(σ.ab σ.lv, (σ.lv : Int))]).length : Nat) : Int) - 1 else σ.ab j) = fun j => if j = σ.lv + 1 then (σ.vs.length : Int) else σ.ab j := by
        funext j
        split
        · simp
        · rfl
      simp only
      rw [e, b1]
      exact run_yes (by rw [goes_whl b4, b3]; simp)
    · rw [adv_shut]
      simp only
      rw [b2, bS]
      simp only
      rw [if_pos (by omega), hlv', List.append_assoc, List.length_append]
      rfl
    · rw [adv_shut]; simp only; rw [b3]; simp
    · intro j hj
      rw [adv_shut]
      simp only
      rw [b5 j (by omega)]
      simp only
      rw [if_neg (by omega)]

/-- The shape of a tree's vertex. -/
def kidsL (vs : List (Int × Int)) (v : Int) : List Int := those (fun x => x.1 == v) vs
def shp (vs : List (Int × Int)) : (d : Nat) → Int → Sh d
  | 0, _ => ()
  | d + 1, v => (kidsL vs v).map (shp vs d)
/-- A tree's text. -/
def tx (vs : List (Int × Int)) (d : Nat) (v : Int) : List UInt8 := tS d (shp vs d v)
/-- The tree, numbered in the turn of the letters. -/
def sm (vs : List (Int × Int)) : List (Int × Int) := bS 3 (shp vs 3 0) 0 (-1)
theorem tx_zero (vs : List (Int × Int)) (v : Int) : tx vs 0 v = [112] := rfl
theorem tx_succ (vs : List (Int × Int)) (d : Nat) (v : Int) : tx vs (d + 1) v = lt (2 - d) :: 40 :: ((kidsL vs v).flatMap (tx vs d) ++ [41]) := by
  unfold tx
  refine Eq.trans (tS_succ d ((kidsL vs v).map (shp vs d))) ?_
  rw [List.flatMap_map]
theorem whole_run (s : Sh 3) (h : ne 3 s) (r : List UInt8) : ∃ σ', run st0 (tS 3 s ++ r) = run σ' r ∧ σ'.vs = bS 3 s 0 (-1) ∧ σ'.lv = 0 ∧ Whl σ' := by
  obtain ⟨σ', a1, a2, a3, a4, _⟩ := run_shape 3 (Nat.le_refl _) s st0 r h rfl (.inl (.inl rfl))
  exact ⟨σ', a1, a2, a3, a4⟩
theorem parse_shape (s : Sh 3) (h : ne 3 s) (hm : may (bS 3 s 0 (-1)) = true) : parse (tS 3 s) = (bS 3 s 0 (-1), 0, 0) := by
  obtain ⟨σ', a1, a2, a3, a4⟩ := whole_run s h []
  rw [List.append_nil] at a1
  have e : run σ' [] = (σ', []) := rfl
  unfold parse
  rw [a1, e, if_pos ⟨rfl, a3, by rw [← hm, ← a2]⟩]
  simp only
  rw [a2]
/-- What is parsed is a shape's text, and the shape's tree. -/
theorem parse_ok {l : List UInt8} (h : (parse l).2.2 = 0) : ∃ s : Sh 3, ne 3 s ∧ l = tS 3 s ∧ may (bS 3 s 0 (-1)) = true ∧ parse l = (bS 3 s 0 (-1), 0, 0) := by
  rw [← parse_same] at h ⊢
  unfold parseV at h ⊢
  split at h
  · rename_i hc
    obtain ⟨h1, h2, h3⟩ := hc
    rw [if_pos ⟨h1, h2, h3⟩]
    obtain ⟨s, a1, a2, a3⟩ := vx_shape 3 (Nat.le_refl _) (-1) [] l h1
    rw [h2, List.append_nil] at a2
    rw [List.nil_append] at a3
    exact ⟨s, a1, a2, by rw [← h3, a3]; rfl, by rw [a3]; rfl⟩
  · cases h
end Go.Proofs.YtcoccegmkcdeiaaDoor.Tx

