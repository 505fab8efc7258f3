/- Contracts and plain mathematics, put together by program (wip/merge.py) out of: DNear DSort DWords Up DApart DFar DCmp DTable. -/
import Derived.Test.YtmmgackmiemkhaaDoorM2
import Derived.Sort.LotA
import Derived.Shelf.SlSortCmp.Insertion
import Derived.Test.YtmmgackmiemkhaaDoorM0
import Derived.Deep.RegionHeld3
import Derived.Sort.Grow
import Derived.Laws.OwnMore
/- Who is near, in plain mathematics: all others, each once, never one nearer behind one that is farther. -/
namespace Go.Proofs.YtmmgackmiemkhaaDoor.Dp
open Go.Proofs.YtmmgackmiemkhaaDoor

/-- The k-th one from p on, round and round. -/
def nth (p : Int) (n k : Nat) : Int := (p + (k : Nat)) % n
theorem nth_range {p : Int} {n k : Nat} (h0 : 0 ≤ p) (h1 : p < n) (hk : 1 ≤ k) (hkn : k < n) : 0 ≤ nth p n k ∧ nth p n k < n ∧ nth p n k ≠ p := by
  unfold nth
  obtain ⟨i, rfl⟩ := Int.eq_ofNat_of_zero_le h0
  rw [show ((i : Int) + (k : Int)) % (n : Int) = (((i + k) % n : Nat) : Int) from by rw [Int.natCast_emod]; rfl]
  have hm := Nat.mod_lt (i + k) (show n > 0 by omega)
  refine ⟨by omega, by omega, ?_⟩
  rcases Nat.lt_or_ge (i + k) n with h | h
  · rw [Nat.mod_eq_of_lt h]; omega
  · rw [Nat.mod_eq_sub_mod h, Nat.mod_eq_of_lt (by omega)]; omega
theorem nth_inj {p : Int} {n j k : Nat} (h0 : 0 ≤ p) (h1 : p < n) (hj : j < k) (hk : k < n) : nth p n j ≠ nth p n k := by
  unfold nth
  obtain ⟨i, rfl⟩ := Int.eq_ofNat_of_zero_le h0
  rw [show ((i : Int) + (k : Int)) % (n : Int) = (((i + k) % n : Nat) : Int) from by rw [Int.natCast_emod]; rfl,
    show ((i : Int) + (j : Int)) % (n : Int) = (((i + j) % n : Nat) : Int) from by rw [Int.natCast_emod]; rfl]
  intro h
  have h' : (i + j) % n = (i + k) % n := by omega
  rcases Nat.lt_or_ge (i + j) n with a | a <;> rcases Nat.lt_or_ge (i + k) n with b | b
  · rw [Nat.mod_eq_of_lt a, Nat.mod_eq_of_lt b] at h'; omega
  · rw [Nat.mod_eq_of_lt a, Nat.mod_eq_sub_mod b, Nat.mod_eq_of_lt (by omega)] at h'; omega
  · omega
  · rw [Nat.mod_eq_sub_mod a, Nat.mod_eq_of_lt (by omega), Nat.mod_eq_sub_mod b, Nat.mod_eq_of_lt (by omega)] at h'; omega
theorem nth_all {p q : Int} {n : Nat} (h0 : 0 ≤ p) (h1 : p < n) (q0 : 0 ≤ q) (q1 : q < n) (hne : q ≠ p) : ∃ k : Nat, 1 ≤ k ∧ k < n ∧ nth p n k = q := by
  unfold nth
  by_cases h : p < q
  · refine ⟨(q - p).toNat, by omega, by omega, ?_⟩
    rw [show p + ((q - p).toNat : Int) = q by omega]
    exact Int.emod_eq_of_lt q0 q1
  · refine ⟨(q - p + n).toNat, by omega, by omega, ?_⟩
    rw [show p + ((q - p + n).toNat : Int) = q + n by omega, Int.add_emod_right]
    exact Int.emod_eq_of_lt q0 q1
theorem mem_ringF {vs : List (Int × Int)} {p d z : Int} {n : Nat} : ∀ k, z ∈ ringF vs p d n k ↔ ∃ t : Nat, 1 ≤ t ∧ t ≤ k ∧ z = nth p n t ∧ far vs p z = d := by
  intro k
  induction k with
  | zero =>
    constructor
    · intro h; cases h
    · rintro ⟨t, h1, h2, _⟩; omega
  | succ k ih =>
    rw [ringF, List.mem_append, ih]
    constructor
    · rintro (⟨t, a, b, c, e⟩ | h)
      · exact ⟨t, a, by omega, c, e⟩
      · split at h
        · rename_i hf
          rw [List.mem_singleton] at h
          subst h
          exact ⟨k + 1, by omega, by omega, rfl, hf⟩
        · cases h
    · rintro ⟨t, a, b, c, e⟩
      by_cases ht : t ≤ k
      · exact .inl ⟨t, a, ht, c, e⟩
      · right
        have : t = k + 1 := by omega
        subst this
        subst c
        have e' : far vs p ((p + ((k + 1 : Nat) : Int)) % (n : Int)) = d := e
        rw [if_pos e']
        exact List.mem_singleton.2 rfl
/-- One behind another: another one, and no nearer. -/
def Behind (vs : List (Int × Int)) (p a b : Int) : Prop := a ≠ b ∧ far vs p a ≤ far vs p b
theorem ringF_pair {vs : List (Int × Int)} {p d : Int} {n : Nat} (h0 : 0 ≤ p) (h1 : p < n) : ∀ k, k < n → (ringF vs p d n k).Pairwise (Behind vs p) := by
  intro k
  induction k with
  | zero => intro _; exact List.Pairwise.nil
  | succ k ih =>
    intro hk
    rw [ringF, List.pairwise_append]
    refine ⟨ih (by omega), ?_, ?_⟩
    · split
      · exact List.pairwise_singleton _ _
      · exact List.Pairwise.nil
    · intro a ha b hb
      split at hb
      · rename_i hf
        rw [List.mem_singleton] at hb
        subst hb
        obtain ⟨t, t1, t2, e, ef⟩ := (mem_ringF k).1 ha
        subst e
        exact ⟨nth_inj h0 h1 (by omega) hk, by rw [ef]; exact Int.le_of_eq hf.symm⟩
      · cases hb
theorem nearTo_pair {vs : List (Int × Int)} {p : Int} (h0 : 0 ≤ p) (h1 : p < procsN vs) : ∀ d, (nearTo vs p d).Pairwise (Behind vs p) ∧ ∀ z ∈ nearTo vs p d, far vs p z ≤ d := by
  intro d
  induction d with
  | zero => exact ⟨List.Pairwise.nil, fun z hz => by cases hz⟩
  | succ d ih =>
    obtain ⟨i1, i2⟩ := ih
    rw [nearTo]
    have hr : ∀ z ∈ ring vs p ((d + 1 : Nat) : Int), far vs p z = ((d + 1 : Nat) : Int) := fun z hz => by
      obtain ⟨_, _, _, _, e⟩ := (mem_ringF _).1 hz
      exact e
    refine ⟨List.pairwise_append.2 ⟨i1, ringF_pair h0 h1 _ (by omega), fun a ha b hb => ?_⟩, fun z hz => ?_⟩
    · have := i2 a ha
      have := hr b hb
      exact ⟨fun e => by subst e; omega, by omega⟩
    · rcases List.mem_append.1 hz with h | h
      · have := i2 z h; omega
      · have := hr z h; omega
theorem mem_near {vs : List (Int × Int)} {p z : Int} (h0 : 0 ≤ p) (h1 : p < procsN vs) : z ∈ near vs p ↔ 0 ≤ z ∧ z < procsN vs ∧ z ≠ p := by
  have T := tree_of_in h0 h1
  rw [near_in (by omega)]
  simp only [nearTo, ring, List.nil_append, List.mem_append, mem_ringF]
  constructor
  · rintro ((⟨t, a, b, e, _⟩ | ⟨t, a, b, e, _⟩) | ⟨t, a, b, e, _⟩) <;> (subst e; exact nth_range h0 h1 a (by omega))
  · rintro ⟨z0, z1, hne⟩
    obtain ⟨k, k1, k2, e⟩ := nth_all h0 h1 z0 z1 hne
    have hin : ¬ (p < 0 ∨ (procsN vs : Int) ≤ p ∨ z < 0 ∨ (procsN vs : Int) ≤ z) := by omega
    have hf := far_in hin
    obtain ⟨ep, mp⟩ := proc_mem T h0 h1
    obtain ⟨ez, mz⟩ := proc_mem T z0 z1
    have bd := farV_bounds vs (proc vs p) (proc vs z)
    have hz : farV vs (proc vs p) (proc vs z) ≠ 0 := fun h => by
      have e := (farV_zero T mp mz).1 h
      rw [e] at ep
      have hlp := (List.getElem?_eq_some_iff.1 ep).1
      have hlz := (List.getElem?_eq_some_iff.1 ez).1
      rcases Nat.lt_trichotomy p.toNat z.toNat with hlt | heq | hgt
      · have := Tp.those_rise ep ez hlt; omega
      · omega
      · have := Tp.those_rise ez ep hgt; omega
    rw [← hf] at bd hz
    rcases (show far vs p z = 1 ∨ far vs p z = 2 ∨ far vs p z = 3 by omega) with h | h | h
    · exact .inl (.inl ⟨k, k1, by omega, e.symm, h⟩)
    · exact .inl (.inr ⟨k, k1, by omega, e.symm, h⟩)
    · exact .inr ⟨k, k1, by omega, e.symm, h⟩
theorem far_ne_zero {vs : List (Int × Int)} {p z : Int} (h0 : 0 ≤ p) (h1 : p < procsN vs) (z0 : 0 ≤ z) (z1 : z < procsN vs) (hne : z ≠ p) : 1 ≤ far vs p z := by
  have hm := (mem_near (z := z) h0 h1).2 ⟨z0, z1, hne⟩
  rw [near_in (by omega)] at hm
  simp only [nearTo, ring, List.nil_append, List.mem_append, mem_ringF] at hm
  rcases hm with (⟨_, _, _, _, e⟩ | ⟨_, _, _, _, e⟩) | ⟨_, _, _, _, e⟩ <;> rw [e] <;> decide
/-- The parts of one that is near, at its place. -/
theorem near_at {vs : List (Int × Int)} {p z : Int} {i : Nat} (h0 : 0 ≤ p) (h1 : p < procsN vs) (hz : (near vs p)[i]? = some z) :
    0 ≤ z ∧ z < procsN vs ∧ z ≠ p ∧ Tp.has ((near vs p).take i) z = false ∧ ∀ (j : Nat) (u : Int), j < i → (near vs p)[j]? = some u → far vs p u ≤ far vs p z := by
  obtain ⟨a, b, c⟩ := (mem_near h0 h1).1 (List.mem_of_getElem? hz)
  have hp := (nearTo_pair h0 h1 3).1
  rw [← near_in (by omega)] at hp
  have hpw := List.pairwise_iff_getElem.1 hp
  have hR : ∀ (j : Nat) (u : Int), j < i → (near vs p)[j]? = some u → Behind vs p u z := by
    intro j u hj hu
    obtain ⟨jl, ej⟩ := List.getElem?_eq_some_iff.1 hu
    obtain ⟨il, ei⟩ := List.getElem?_eq_some_iff.1 hz
    have := hpw j i jl il hj
    rw [ej, ei] at this
    exact this
  refine ⟨a, b, c, ?_, fun j u hj hu => (hR j u hj hu).2⟩
  unfold Tp.has
  rw [Bool.eq_false_iff]
  intro hh
  rw [List.contains_iff_mem] at hh
  obtain ⟨j, hj⟩ := List.mem_iff_getElem?.1 hh
  have hji : j < i := by have := (List.getElem?_eq_some_iff.1 hj).1; rw [List.length_take] at this; omega
  rw [List.getElem?_take, if_pos hji] at hj
  exact (hR j z hji hj).1 rfl
theorem ring_count {vs : List (Int × Int)} {p : Int} (h0 : 0 ≤ p) (h1 : p < procsN vs) : ∀ k, k < procsN vs → (ringF vs p 1 (procsN vs) k).length + (ringF vs p 2 (procsN vs) k).length + (ringF vs p 3 (procsN vs) k).length = k := by
  intro k
  induction k with
  | zero => intro _; rfl
  | succ k ih =>
    intro hk
    have := ih (by omega)
    obtain ⟨z0, z1, hne⟩ := nth_range h0 h1 (show 1 ≤ k + 1 by omega) hk
    have f1 := far_ne_zero h0 h1 z0 z1 hne
    have f3 := (far_bounds vs p (nth p (procsN vs) (k + 1))).2
    rw [ringF, ringF, ringF, List.length_append, List.length_append, List.length_append]
    have e : (p + ((k + 1 : Nat) : Int)) % ((procsN vs : Nat) : Int) = nth p (procsN vs) (k + 1) := rfl
    rw [e]
    generalize far vs p (nth p (procsN vs) (k + 1)) = f at f1 f3 ⊢
    rcases (show f = 1 ∨ f = 2 ∨ f = 3 by omega) with rfl | rfl | rfl <;> simp <;> omega
theorem near_length {vs : List (Int × Int)} {p : Int} (h0 : 0 ≤ p) (h1 : p < procsN vs) : (near vs p).length = procsN vs - 1 := by
  have := ring_count h0 h1 (procsN vs - 1) (by omega)
  rw [near_in (by omega)]
  simp only [nearTo, ring, List.nil_append, List.length_append]
  exact this
/-- The node of a processor is one of the nodes. -/
theorem node_range {vs : List (Int × Int)} {p : Int} (h0 : 0 ≤ p) (h1 : p < procsN vs) : ∃ k : Nat, node vs p = k ∧ k < (nodes vs).length := by
  have T := tree_of_in h0 h1
  obtain ⟨_, mp⟩ := proc_mem T h0 h1
  obtain ⟨k, e, hk, _⟩ := place_mem (above2_node T mp)
  exact ⟨k, by unfold node; rw [if_neg (by omega)]; exact e, hk⟩
theorem node_core {vs : List (Int × Int)} {p q : Int} (h : far vs p q = 1) : node vs q = node vs p := ((node_eq (by omega)).2 (by omega)).symm
/-- Each node has a processor. -/
theorem node_all {vs : List (Int × Int)} (T : Tp.Tree vs) {k : Nat} (hk : k < (nodes vs).length) : ∃ p : Nat, p < procsN vs ∧ node vs p = k := by
  obtain ⟨v, hv⟩ : ∃ v, (nodes vs)[k]? = some v := ⟨_, List.getElem?_eq_getElem hk⟩
  obtain ⟨j, x, e, hx, h1⟩ := Tp.mem_those.1 (List.mem_of_getElem? hv)
  obtain ⟨i, u, hu, h3, hup⟩ := T.below hx (by simpa using h1)
  have hmem : (i : Int) ∈ procs vs := Tp.mem_those.2 ⟨i, u, rfl, hu, by simpa using h3⟩
  obtain ⟨p, hp⟩ := List.mem_iff_getElem?.1 hmem
  have hpl : p < procsN vs := by rw [procsN_tree T]; exact (List.getElem?_eq_some_iff.1 hp).1
  refine ⟨p, hpl, ?_⟩
  have hproc : proc vs p = i := by
    unfold proc
    rw [Int.toNat_natCast, hp]; rfl
  have hno : v ∉ (nodes vs).take k := by
    intro hm
    obtain ⟨t, ht⟩ := List.mem_iff_getElem?.1 hm
    have htk : t < k := by have := (List.getElem?_eq_some_iff.1 ht).1; rw [List.length_take] at this; omega
    rw [List.getElem?_take, if_pos htk] at ht
    have := Tp.those_rise ht hv htk
    omega
  have hab : Tp.up vs 1 vs.length (proc vs p) = v := by rw [hproc, hup, e]
  rw [node_in (by omega), hab]
  exact place_hit hv hno
end Go.Proofs.YtmmgackmiemkhaaDoor.Dp


/- Who is near, sorted by two keys: the order of the document's answer, in plain mathematics. -/
namespace Go.Proofs.YtmmgackmiemkhaaDoor.Dp
open Go.Proofs.YtmmgackmiemkhaaDoor Go.Sort
open Go.Proofs (ltOf)

/-- How many steps from p on, round and round, one comes. -/
def steps (p : Int) (n : Nat) (z : Int) : Int := (z - p + n) % n
def cmpI (x y : Int) : Int := if x < y then -1 else if y < x then 1 else 0
def orI (a b : Int) : Int := if a = 0 then b else a
/-- Nearer; or as near, and fewer steps. -/
def Ahead (vs : List (Int × Int)) (p : Int) (n : Nat) (a b : Int) : Prop := far vs p a < far vs p b ∨ (far vs p a = far vs p b ∧ steps p n a < steps p n b)
def cfI (vs : List (Int × Int)) (p : Int) (n : Nat) (a b : Int) : Int := orI (cmpI (far vs p a) (far vs p b)) (cmpI (steps p n a) (steps p n b))
theorem cmpI_neg {x y : Int} : cmpI x y < 0 ↔ x < y := by unfold cmpI; split <;> (try split) <;> omega
theorem cmpI_zero {x y : Int} : cmpI x y = 0 ↔ x = y := by unfold cmpI; split <;> (try split) <;> omega
theorem cfI_neg {vs : List (Int × Int)} {p : Int} {n : Nat} {a b : Int} : cfI vs p n a b < 0 ↔ Ahead vs p n a b := by
  unfold cfI orI Ahead
  by_cases h : cmpI (far vs p a) (far vs p b) = 0
  · rw [if_pos h, cmpI_neg]
    have := cmpI_zero.1 h
    omega
  · rw [if_neg h, cmpI_neg]
    have : far vs p a ≠ far vs p b := fun e => h (cmpI_zero.2 e)
    omega
theorem steps_nth {p : Int} {n k : Nat} (h0 : 0 ≤ p) (h1 : p < n) (hk : 1 ≤ k) (hkn : k < n) : steps p n (nth p n k) = k := by
  unfold nth steps
  obtain ⟨i, rfl⟩ := Int.eq_ofNat_of_zero_le h0
  rw [show ((i : Int) + (k : Int)) % (n : Int) = (((i + k) % n : Nat) : Int) from by rw [Int.natCast_emod]; rfl]
  rcases Nat.lt_or_ge (i + k) n with h | h
  · rw [Nat.mod_eq_of_lt h, show ((i + k : Nat) : Int) - (i : Int) + (n : Int) = (k : Int) + n by omega, Int.add_emod_right]
    exact Int.emod_eq_of_lt (by omega) (by omega)
  · rw [Nat.mod_eq_sub_mod h, Nat.mod_eq_of_lt (by omega), show ((i + k - n : Nat) : Int) - (i : Int) + (n : Int) = (k : Int) by omega]
    exact Int.emod_eq_of_lt (by omega) (by omega)
theorem steps_inj {p x y : Int} {n : Nat} (h0 : 0 ≤ p) (h1 : p < n) (x0 : 0 ≤ x) (x1 : x < n) (y0 : 0 ≤ y) (y1 : y < n) (h : steps p n x = steps p n y) : x = y := by
  have self : steps p n p = 0 := by unfold steps; rw [show p - p + (n : Int) = n by omega]; exact Int.emod_self
  by_cases ex : x = p
  · by_cases ey : y = p
    · rw [ex, ey]
    · obtain ⟨k, k1, k2, e⟩ := nth_all h0 h1 y0 y1 ey
      rw [ex, self, ← e, steps_nth h0 h1 k1 k2] at h
      omega
  · obtain ⟨j, j1, j2, e⟩ := nth_all h0 h1 x0 x1 ex
    by_cases ey : y = p
    · rw [ey, self, ← e, steps_nth h0 h1 j1 j2] at h
      omega
    · obtain ⟨k, k1, k2, e'⟩ := nth_all h0 h1 y0 y1 ey
      rw [← e, ← e', steps_nth h0 h1 j1 j2, steps_nth h0 h1 k1 k2] at h
      rw [← e, ← e', show j = k by omega]
theorem ringF_ahead {vs : List (Int × Int)} {p d : Int} {n : Nat} (h0 : 0 ≤ p) (h1 : p < n) : ∀ k, k < n → (ringF vs p d n k).Pairwise (Ahead vs p n) := by
  intro k
  induction k with
  | zero => intro _; exact List.Pairwise.nil
  | succ k ih =>
    intro hk
    rw [ringF, List.pairwise_append]
    refine ⟨ih (by omega), ?_, ?_⟩
    · split
      · exact List.pairwise_singleton _ _
      · exact List.Pairwise.nil
    · intro a ha b hb
      split at hb
      · rename_i hf
        rw [List.mem_singleton] at hb
        subst hb
        obtain ⟨t, t1, t2, e, ef⟩ := (mem_ringF k).1 ha
        subst e
        refine .inr ⟨by rw [ef]; exact hf.symm, ?_⟩
        rw [steps_nth h0 h1 t1 (by omega)]
        have e2 : steps p n ((p + ((k + 1 : Nat) : Int)) % (n : Int)) = ((k + 1 : Nat) : Int) := steps_nth h0 h1 (by omega) hk
        rw [e2]; omega
      · cases hb
theorem nearTo_ahead {vs : List (Int × Int)} {p : Int} (h0 : 0 ≤ p) (h1 : p < procsN vs) : ∀ d, (nearTo vs p d).Pairwise (Ahead vs p (procsN vs)) ∧ ∀ z ∈ nearTo vs p d, far vs p z ≤ d := by
  intro d
  induction d with
  | zero => exact ⟨List.Pairwise.nil, fun z hz => by cases hz⟩
  | succ d ih =>
    obtain ⟨i1, i2⟩ := ih
    rw [nearTo]
    have hr : ∀ z ∈ ring vs p ((d + 1 : Nat) : Int), far vs p z = ((d + 1 : Nat) : Int) := fun z hz => by
      obtain ⟨_, _, _, _, e⟩ := (mem_ringF _).1 hz
      exact e
    refine ⟨List.pairwise_append.2 ⟨i1, ringF_ahead h0 h1 _ (by omega), fun a ha b hb => ?_⟩, fun z hz => ?_⟩
    · have := i2 a ha
      have := hr b hb
      exact .inl (by omega)
    · rcases List.mem_append.1 hz with h | h
      · have := i2 z h; omega
      · have := hr z h; omega
/-- All others, in the order of their numbers. -/
def othersTo (p : Int) : Nat → List Int
  | 0 => []
  | k + 1 => othersTo p k ++ if (k : Int) = p then [] else [(k : Int)]
theorem mem_othersTo {p z : Int} : ∀ k, z ∈ othersTo p k ↔ 0 ≤ z ∧ z < k ∧ z ≠ p := by
  intro k
  induction k with
  | zero =>
    constructor
    · intro h; cases h
    · rintro ⟨a, b, _⟩; omega
  | succ k ih =>
    rw [othersTo, List.mem_append, ih]
    constructor
    · rintro (⟨a, b, c⟩ | h)
      · exact ⟨a, by omega, c⟩
      · split at h
        · cases h
        · rename_i hne
          rw [List.mem_singleton] at h
          subst h
          exact ⟨by omega, by omega, hne⟩
    · rintro ⟨a, b, c⟩
      by_cases hz : z < k
      · exact .inl ⟨a, hz, c⟩
      · right
        have : z = (k : Int) := by omega
        subst this
        rw [if_neg c]
        exact List.mem_singleton.2 rfl
theorem othersTo_le (p : Int) : ∀ k, (othersTo p k).length ≤ k := by
  intro k
  induction k with
  | zero => exact Nat.le_refl _
  | succ k ih =>
    rw [othersTo, List.length_append]
    split <;> simp <;> omega
theorem othersTo_nodup (p : Int) : ∀ k, (othersTo p k).Pairwise (· ≠ ·) := by
  intro k
  induction k with
  | zero => exact List.Pairwise.nil
  | succ k ih =>
    rw [othersTo, List.pairwise_append]
    refine ⟨ih, ?_, ?_⟩
    · split
      · exact List.Pairwise.nil
      · exact List.pairwise_singleton _ _
    · intro a ha b hb
      have := (mem_othersTo k).1 ha
      split at hb
      · cases hb
      · rw [List.mem_singleton] at hb
        omega
theorem others_perm {vs : List (Int × Int)} {p : Int} (h0 : 0 ≤ p) (h1 : p < procsN vs) : (near vs p).Perm (othersTo p (procsN vs)) := by
  have hp := (nearTo_pair h0 h1 3).1
  rw [← near_in (by omega)] at hp
  refine (List.perm_ext_iff_of_nodup (hp.imp fun h => h.1) (othersTo_nodup p _)).2 fun z => ?_
  rw [mem_near h0 h1, mem_othersTo]
theorem near_ahead {vs : List (Int × Int)} {p : Int} (h0 : 0 ≤ p) (h1 : p < procsN vs) : (near vs p).Pairwise (Ahead vs p (procsN vs)) := by
  have hp := (nearTo_ahead h0 h1 3).1
  rw [← near_in (by omega)] at hp
  exact hp

/-! ### The same, over the numbers below m + 1 alone -/
section
variable {m : Nat}
def val (x : Fin (m + 1)) : Int := (x.val : Int)
def toF (z : Int) : Fin (m + 1) := ⟨z.toNat % (m + 1), Nat.mod_lt _ (by omega)⟩
theorem val_toF {z : Int} (h0 : 0 ≤ z) (h1 : z < (m : Int) + 1) : val (toF (m := m) z) = z := by
  unfold val toF
  simp only
  rw [Nat.mod_eq_of_lt (by omega)]
  omega
theorem val_range (x : Fin (m + 1)) : 0 ≤ val x ∧ val x < ((m + 1 : Nat) : Int) := by unfold val; have := x.isLt; omega
def cfF (vs : List (Int × Int)) (p : Int) (x y : Fin (m + 1)) : Int := cfI vs p (m + 1) (val x) (val y)
theorem lt_iff {vs : List (Int × Int)} {p : Int} {x y : Fin (m + 1)} : ltOf (cfF vs p) x y = true ↔ Ahead vs p (m + 1) (val x) (val y) := by
  unfold ltOf cfF
  rw [decide_eq_true_iff, cfI_neg]
theorem lt_not {vs : List (Int × Int)} {p : Int} {x y : Fin (m + 1)} : ltOf (cfF vs p) x y = false ↔ ¬ Ahead vs p (m + 1) (val x) (val y) := by
  rw [← lt_iff, Bool.not_eq_true]
theorem cf_order (vs : List (Int × Int)) (p : Int) : SWO (ltOf (cfF (m := m) vs p)) where
  irrefl x := by rw [lt_not]; unfold Ahead; omega
  trans x y z h1 h2 := by rw [lt_iff] at *; unfold Ahead at *; omega
  ntrans x y z h1 h2 := by rw [lt_not] at *; unfold Ahead at *; omega
theorem cf_total {vs : List (Int × Int)} {p : Int} (h0 : 0 ≤ p) (h1 : p < ((m + 1 : Nat) : Int)) (x y : Fin (m + 1)) (a : ltOf (cfF vs p) x y = false) (b : ltOf (cfF vs p) y x = false) : x = y := by
  rw [lt_not] at a b
  unfold Ahead at a b
  have hx := val_range x
  have hy := val_range y
  have := steps_inj h0 h1 hx.1 hx.2 hy.1 hy.2 (by omega)
  unfold val at this
  exact Fin.ext (by omega)
theorem map_back {l : List Int} (h : ∀ z ∈ l, 0 ≤ z ∧ z < ((m + 1 : Nat) : Int)) : (l.map (toF (m := m))).map val = l := by
  rw [List.map_map]
  have e : l.map (val ∘ toF (m := m)) = l.map id := List.map_congr_left fun z hz => by
    have := h z hz
    exact val_toF this.1 (by omega)
  rw [e, List.map_id]
/-- What the sort makes of all others. -/
theorem sorted_near {vs : List (Int × Int)} {p : Int} (hm : procsN vs = m + 1) (h0 : 0 ≤ p) (h1 : p < ((m + 1 : Nat) : Int)) :
    (((othersTo p (m + 1)).map (toF (m := m))).mergeSort fun x y => !(ltOf (cfF vs p) y x)).map val = near vs p := by
  have h1' : p < procsN vs := by rw [hm]; exact h1
  have back := map_back (m := m) (l := near vs p) (fun z hz => by
    have := (mem_near h0 h1').1 hz
    rw [hm] at this
    exact ⟨this.1, this.2.1⟩)
  have O := cf_order (m := m) vs p
  have asym : ∀ x y, ltOf (cfF vs p) x y = true → ltOf (cfF (m := m) vs p) y x = false := fun x y h => by
    rw [lt_iff] at h
    rw [lt_not]
    unfold Ahead at *
    omega
  have tr : ∀ a b c : Fin (m + 1), (!(ltOf (cfF vs p) b a)) = true → (!(ltOf (cfF vs p) c b)) = true → (!(ltOf (cfF vs p) c a)) = true := fun a b c h1 h2 => by
    simp only [Bool.not_eq_true'] at *
    exact O.ntrans _ _ _ h2 h1
  have tot : ∀ a b : Fin (m + 1), (!(ltOf (cfF vs p) b a) || !(ltOf (cfF vs p) a b)) = true := fun a b => by
    cases h : ltOf (cfF vs p) b a
    · rfl
    · rw [asym _ _ h]; rfl
  have hN : ((near vs p).map (toF (m := m))).Pairwise fun x y => (!(ltOf (cfF vs p) y x)) = true := by
    rw [List.pairwise_map]
    refine (List.pairwise_iff_forall_sublist.2 ?_)
    intro a b hs
    have hA := (List.pairwise_iff_forall_sublist.1 (near_ahead h0 h1')) hs
    have ma := (mem_near h0 h1').1 (hs.subset (List.mem_cons_self ..))
    have mb := (mem_near h0 h1').1 (hs.subset (List.mem_cons_of_mem _ (List.mem_cons_self ..)))
    rw [hm] at hA ma mb
    rw [Bool.not_eq_true']
    refine asym _ _ (lt_iff.2 ?_)
    rw [val_toF ma.1 (by omega), val_toF mb.1 (by omega)]
    exact hA
  have hperm : ((near vs p).map (toF (m := m))).Perm ((othersTo p (m + 1)).map (toF (m := m))) := by
    have := others_perm h0 h1'
    rw [hm] at this
    exact this.map _
  have e : ((othersTo p (m + 1)).map (toF (m := m))).mergeSort (fun x y => !(ltOf (cfF vs p) y x)) = (near vs p).map (toF (m := m)) :=
    List.Perm.eq_of_pairwise (le := fun x y => (!(ltOf (cfF vs p) y x)) = true) (fun a b _ _ x y => by
      simp only [Bool.not_eq_true'] at x y
      exact cf_total h0 h1 a b y x) (List.pairwise_mergeSort tr tot _) hN ((List.mergeSort_perm _ _).trans hperm.symm)
  rw [e, back]
end
end Go.Proofs.YtmmgackmiemkhaaDoor.Dp


/- A list of lists that a call has made, and the table of layer 2. -/
namespace Go.Proofs.YtmmgackmiemkhaaDoor
open Go.RowKit

/-- The rows of numbers behind a slice's address, each a slice of its own, all below block B. -/
def RRow (w : World) (B : Nat) (A : Option Addr) (rows : List (List Int)) : Prop :=
  ∀ i r, rows[i]? = some r → ∃ b off, A = some ⟨b, off, none⟩ ∧ b < B ∧ ∃ A' c', w.cell? ⟨b, off + i, none⟩ = some (.slice A' r.length c') ∧ IRow w B A' r
theorem RRow.keep {w w' : World} {B : Nat} {A : Option Addr} {rows : List (List Int)} (h : RRow w B A rows) (hk : ∀ p : Addr, p.block < B → w'.cell? p = w.cell? p) : RRow w' B A rows := by
  intro i r hi
  obtain ⟨b, off, e, hb, A', c', hc, hr⟩ := h i r hi
  exact ⟨b, off, e, hb, A', c', (hk _ hb).trans hc, hr.keep hk⟩
theorem RRow.more {w : World} {B B' : Nat} {A : Option Addr} {rows : List (List Int)} (h : RRow w B A rows) (hB : B ≤ B') : RRow w B' A rows := by
  intro i r hi
  obtain ⟨b, off, e, hb, A', c', hc, hr⟩ := h i r hi
  exact ⟨b, off, e, by omega, A', c', hc, hr.more hB⟩
theorem RRow.below {w w' : World} {B : Nat} {A : Option Addr} {rows : List (List Int)} (h : RRow w B A rows) (hb : Below B w w') : RRow w' B A rows := h.keep fun _ hp => hb.cell hp
def MadeRows (w0 : World) (rows : List (List Int)) (e : Ending) (w' : World) : Prop :=
  ∃ A c, e = .returned (.slice A rows.length c) ∧ RRow w' w'.heap.size A rows ∧ Below w0.heap.size w0 w'
/-- The table: of each processor, in turn, how far it is from each. -/
def table (vs : List (Int × Int)) : List (List Int) := (List.range (Dp.procsN vs)).map fun (a : Nat) => (List.range (Dp.procsN vs)).map fun (b : Nat) => Dp.far vs a b
theorem those_len (p : Int × Int → Bool) (vs : List (Int × Int)) : (Tp.those p vs).length ≤ vs.length := Tp.thoseF_le p vs 0
end Go.Proofs.YtmmgackmiemkhaaDoor


/- topo.Up comes to a plain function of the vertices. -/
namespace Go.Proofs.YtmmgackmiemkhaaDoor
open Go.RowKit
set_option linter.unusedVariables false

set_option maxHeartbeats 1600000 in
/-- The world stays as it was, but for what is drawn. -/
theorem up_quiet (A : Option Addr) (n c : Nat) (vs : List (Int × Int)) (v level : Int) (w : World) (B : Nat)
    (hn : Hid (vs.length = n)) (hl : n ≤ 9223372036854775807) (hv : VRow w B A vs) :
    Calls Tryd.prog 45 #[.slice A n c, .int .i64 v, .int .i64 level] w fun e w' => e = .returned (.int .i64 (Tp.up vs level n v)) ∧ ∃ q, w' = w.drewN q := by
  go_enter Tryd.func45, Tryd.ntmps45
  go_wp2
  go_loopw [1, 7] (fun u i wr => ∃ (b : Nat) (v' : Int), b ≤ n ∧ i = .int .i64 b ∧ u = .int .i64 v' ∧ Hid (Tp.up vs level n v = Tp.up vs level b v') ∧ Hid (∃ q, wr = w.drewN q))
    (fun _ i _ => (intOf i).toNat)
  case atStart => exact ⟨n, v, Nat.le_refl _, rfl, rfl, Lib.hid rfl, Lib.hid ⟨0, rfl⟩⟩
  case round =>
    obtain ⟨k, v', hk, rfl, rfl, hup, hbe⟩ := hrel
    have hvr : VRow wr B A vs := by
      obtain ⟨q, e⟩ := hbe.out
      rw [e]; exact hv
    by_cases hin : 0 ≤ v' ∧ v' < k
    · obtain ⟨h0, h1⟩ := hin
      obtain ⟨j, rfl⟩ := Int.eq_ofNat_of_zero_le h0
      obtain ⟨x, hx⟩ : ∃ x, vs[j]? = some x := ⟨_, List.getElem?_eq_getElem (by have := hn.out; omega)⟩
      obtain ⟨b, off, hA, hbk, hc1, hc2⟩ := hvr j x hx
      subst hA
      cases hp : (x.2 == level)
      · have H : Hid (Tp.up vs level n v = Tp.up vs level j x.1) := Lib.hid (by rw [hup.out, Tp.up_step (by omega) hx (by simpa using hp)])
        clear hx
        go_wp2
        go_quiet (fail)
        go_wp2
        go_roundw
        case rel =>
          refine ⟨j, x.1, by omega, rfl, rfl, H, ?_⟩
          obtain ⟨q, e⟩ := hbe.out
          exact Lib.hid ⟨_, by rw [e, World.drewN_drewN]⟩
        case measure => simp [intOf]; omega
      · have H : Hid (Tp.up vs level n v = j) := Lib.hid (by rw [hup.out, Tp.up_hit (by omega) hx (by simpa using hp)])
        clear hx
        go_wp2
        go_ret
        exact ⟨by rw [H.out]; rfl, hbe.out⟩
    · have H : Hid (Tp.up vs level n v = -1) := Lib.hid (by rw [hup.out, Tp.up_out hin])
      by_cases h0 : 0 ≤ v'
      · have h1 : ¬ v' < k := fun h => hin ⟨h0, h⟩
        clear hin
        go_wp2
        go_ret
        exact ⟨by rw [H.out]; rfl, hbe.out⟩
      · clear hin
        go_wp2
        go_ret
        exact ⟨by rw [H.out]; rfl, hbe.out⟩
theorem up_any (A : Option Addr) (n c : Nat) (vs : List (Int × Int)) (v level : Int) (w : World)
    (hn : Hid (vs.length = n)) (hl : n ≤ 9223372036854775807) (hv : VRow w w.heap.size A vs) :
    Calls Tryd.prog 45 #[.slice A n c, .int .i64 v, .int .i64 level] w fun e w' => e = .returned (.int .i64 (Tp.up vs level n v)) ∧ Below w.heap.size w w' :=
  (up_quiet A n c vs v level w _ hn hl hv).mono fun _ _ ⟨he, q, hq⟩ => ⟨he, by rw [hq]; exact below_drewN (Below.refl _ _) q⟩

end Go.Proofs.YtmmgackmiemkhaaDoor


/- The small parts of dist: whether there is a p-th processor, how far two vertices are apart, the processors of a tree that may be; by contracts. -/
namespace Go.Proofs.YtmmgackmiemkhaaDoor
open Go.RowKit
set_option linter.unusedVariables false

/-- The processors of a tree that may be; none of another one. -/
def procsIf (vs : List (Int × Int)) : List Int := if Tp.may vs then Dp.procs vs else []
theorem procsIf_length (vs : List (Int × Int)) : (procsIf vs).length = Dp.procsN vs := by
  unfold procsIf Dp.procsN
  split <;> rfl

/-- Whether there is a p-th one of n. -/
def isP (p : Int) (n : Nat) : Bool := decide (0 ≤ p ∧ p < n)
theorem isP_iff {p : Int} {n : Nat} : isP p n = true ↔ 0 ≤ p ∧ p < n := by unfold isP; rw [decide_eq_true_iff]
theorem isP_not {p : Int} {n : Nat} : isP p n = false ↔ p < 0 ∨ (n : Int) ≤ p := by unfold isP; rw [decide_eq_false_iff_not]; omega
theorem among_any (A : Option Addr) (n c : Nat) (p : Int) (w : World) (hl : n ≤ 9223372036854775807) :
    Calls Tryd.prog 27 #[.slice A n c, .int .i64 p] w fun e w' => e = .returned (.bool (isP p n)) ∧ w' = w := by
  by_cases h0 : 0 ≤ p
  · obtain ⟨i, rfl⟩ := Int.eq_ofNat_of_zero_le h0
    by_cases h1 : i < n
    · have H : Hid (isP i n = true) := Lib.hid (isP_iff.2 (by omega))
      clear h0
      go_enter Tryd.func27, Tryd.ntmps27
      go_wp2
      go_ret
      exact ⟨by rw [H.out]; rfl, rfl⟩
    · have H : Hid (isP i n = false) := Lib.hid (isP_not.2 (by omega))
      clear h0
      go_enter Tryd.func27, Tryd.ntmps27
      go_wp2
      go_ret
      exact ⟨by rw [H.out]; rfl, rfl⟩
  · have H : Hid (isP p n = false) := Lib.hid (isP_not.2 (by omega))
    go_enter Tryd.func27, Tryd.ntmps27
    go_wp2
    go_ret
    exact ⟨by rw [H.out]; rfl, rfl⟩

theorem procsOf_any (A : Option Addr) (n c : Nat) (vs : List (Int × Int)) (w : World)
    (hn : Hid (vs.length = n)) (hl : n ≤ 9223372036854775807) (hf : Hid (Fit vs)) (hv : VRow w w.heap.size A vs) :
    Calls Tryd.prog 26 #[.slice A n c] w (Made w (procsIf vs)) := by
  go_enter Tryd.func26, Tryd.ntmps26
  go_wp2_with fail
  refine (check_any A n c vs _ hn hl hf hv).mono ?_
  rintro e w1 ⟨he, hb1⟩
  cases hm : Tp.may vs
  · rw [hm] at he
    have he' : e = .returned (.int .i64 2) := he
    subst he'
    have H : Hid (procsIf vs = []) := Lib.hid (by unfold procsIf; rw [hm]; rfl)
    clear hm he
    go_wp2_with fail
    go_ret
    rw [H.out]
    exact ⟨none, 0, rfl, fun i z hi => by simp at hi, hb1⟩
  · rw [hm] at he
    have he' : e = .returned (.int .i64 0) := he
    subst he'
    have H : Hid (procsIf vs = Tp.those (levelP 3) vs) := Lib.hid (by unfold procsIf; rw [hm]; rfl)
    have h64 : n ≤ 64 := by have := ((Tp.tree_iff vs).1 hm).few; have := hn.out; omega
    clear hm he
    have hv1 := (hv.below hb1).more hb1.size
    go_wp2_with fail
    refine (procs_any A n c vs _ hn hl (by omega) hv1).mono ?_
    rintro e w2 ⟨A2, c2, rfl, hI2, hb2⟩
    have M := Lib.hid (show Made w (procsIf vs) (.returned (.slice A2 (Tp.those (levelP 3) vs).length c2)) w2 from by
      rw [H.out]
      exact ⟨A2, c2, rfl, hI2, hb1.trans (hb2.mono hb1.size)⟩)
    go_wp2_with fail
    go_ret
    exact M.out

theorem farV_three {vs : List (Int × Int)} {v u : Int} (h : ∀ e : Nat, e < 3 → Dp.above vs e v ≠ Dp.above vs e u) : Dp.farV vs v u = 3 := by
  have h0 : Dp.above vs 0 v ≠ Dp.above vs 0 u := h 0 (by omega)
  have h1 : Dp.above vs 1 v ≠ Dp.above vs 1 u := h 1 (by omega)
  have h2 : Dp.above vs 2 v ≠ Dp.above vs 2 u := h 2 (by omega)
  unfold Dp.farV
  rw [if_neg h0, if_neg h1, if_neg h2]

set_option maxHeartbeats 2000000 in
theorem apart_quiet (A : Option Addr) (n c : Nat) (vs : List (Int × Int)) (v u : Int) (w : World) (B : Nat)
    (hn : Hid (vs.length = n)) (hl : n ≤ 9223372036854775807) (hv : VRow w B A vs) :
    Calls Tryd.prog 28 #[.slice A n c, .int .i64 v, .int .i64 u] w fun e w' => e = .returned (.int .i64 (Dp.farV vs v u)) ∧ ∃ q, w' = w.drewN q := by
  have U : Hid (∀ (x : Int) (d : Nat) (W : World), (∃ q, W = w.drewN q) → Calls Tryd.prog 45 #[.slice A n c, .int .i64 x, .int .i64 (3 - (d : Int))] W fun e w' => e = .returned (.int .i64 (Dp.above vs d x)) ∧ ∃ q, w' = w.drewN q) := Lib.hid (by
    rintro x d W ⟨q, rfl⟩
    refine (up_quiet A n c vs x (3 - (d : Int)) (w.drewN q) B hn hl hv).mono ?_
    rintro e w' ⟨rfl, q', rfl⟩
    refine ⟨?_, ⟨_, by rw [World.drewN_drewN]⟩⟩
    unfold Dp.above
    rw [hn.out])
  go_enter Tryd.func28, Tryd.ntmps28
  go_wp2_with fail
  go_loopw [9] (fun i wr => ∃ d : Nat, d ≤ 3 ∧ i = .int .i64 d ∧ Hid (∀ e : Nat, e < d → Dp.above vs e v ≠ Dp.above vs e u) ∧ Hid (∃ q, wr = w.drewN q)) (fun i _ => 3 - (intOf i).toNat)
  case atStart => exact ⟨0, by omega, rfl, Lib.hid (fun e he => absurd he (by omega)), Lib.hid ⟨0, rfl⟩⟩
  case round =>
    obtain ⟨d, hd, rfl, hne, hq⟩ := hrel
    by_cases hd3 : d < 3
    · have s1 : IntKind.i64.wrap (3 - (d : Int)) = 3 - (d : Int) := IntWalk.i64_in _ (by omega)
      go_wp2_with fail
      refine (U.out v d _ hq.out).mono ?_
      rintro e w2 ⟨rfl, hq2⟩
      have HQ2 := Lib.hid hq2
      clear hq2
      go_wp2_with fail
      refine (U.out u d _ HQ2.out).mono ?_
      rintro e w3 ⟨rfl, hq3⟩
      have HQ3 := Lib.hid hq3
      clear hq3
      by_cases heq : Dp.above vs d v = Dp.above vs d u
      · have H : Hid (Dp.farV vs v u = d) := Lib.hid (Dp.farV_is (by omega) (fun _ => heq) hne.out)
        rw [heq]
        generalize Dp.above vs d u = x
        have q1 : (x == x) = true := by simp
        go_wp2_with fail
        go_ret
        exact ⟨by rw [H.out]; rfl, HQ3.out⟩
      · have HNE : Hid (∀ e : Nat, e < d + 1 → Dp.above vs e v ≠ Dp.above vs e u) := Lib.hid (fun e he => by
          by_cases e1 : e = d
          · subst e1; exact heq
          · exact hne.out e (by omega))
        have q1 : (Dp.above vs d v == Dp.above vs d u) = false := by rw [beq_eq_false_iff_ne]; exact heq
        generalize Dp.above vs d v = x at q1 ⊢
        generalize Dp.above vs d u = y at q1 ⊢
        clear heq
        go_wp2_with fail
        go_roundw
        case rel => exact ⟨d + 1, by omega, by go_num, HNE, HQ3⟩
        case measure => simp [intOf]; omega
    · have H : Hid (Dp.farV vs v u = 3) := Lib.hid (farV_three (fun e he => hne.out e (by omega)))
      go_wp2_with fail
      go_ret
      exact ⟨by rw [H.out]; rfl, hq.out⟩
theorem apart_any (A : Option Addr) (n c : Nat) (vs : List (Int × Int)) (v u : Int) (w : World)
    (hn : Hid (vs.length = n)) (hl : n ≤ 9223372036854775807) (hv : VRow w w.heap.size A vs) :
    Calls Tryd.prog 28 #[.slice A n c, .int .i64 v, .int .i64 u] w fun e w' => e = .returned (.int .i64 (Dp.farV vs v u)) ∧ Below w.heap.size w w' :=
  (apart_quiet A n c vs v u w _ hn hl hv).mono fun _ _ ⟨he, q, hq⟩ => ⟨he, by rw [hq]; exact below_drewN (Below.refl _ _) q⟩
end Go.Proofs.YtmmgackmiemkhaaDoor


/- dist.Far and dist.Node, by contracts: how far two processors are from each other, and a processor's node, as the document says. -/
namespace Go.Proofs.YtmmgackmiemkhaaDoor
open Go.RowKit
set_option linter.unusedVariables false

theorem isP_far {vs : List (Int × Int)} {a b : Int} (h : isP a (Dp.procsN vs) = true) (h' : isP b (Dp.procsN vs) = true) : Dp.far vs a b = Dp.farV vs (Dp.proc vs a) (Dp.proc vs b) :=
  Dp.far_in (by have := isP_iff.1 h; have := isP_iff.1 h'; omega)
theorem isP_proc {vs : List (Int × Int)} {a : Int} (h : isP a (Dp.procsN vs) = true) : ∃ i : Nat, a = i ∧ i < Dp.procsN vs ∧ (procsIf vs)[i]? = some (Dp.proc vs a) ∧ Tp.Tree vs := by
  obtain ⟨h0, h1⟩ := isP_iff.1 h
  obtain ⟨i, rfl⟩ := Int.eq_ofNat_of_zero_le h0
  have T := Dp.tree_of_in h0 h1
  refine ⟨i, rfl, by omega, ?_, T⟩
  have := (Dp.proc_mem T h0 h1).1
  unfold procsIf
  rw [if_pos ((Tp.tree_iff vs).2 T)]
  exact this

theorem proc_of {vs : List (Int × Int)} {i : Nat} (h : i < Dp.procsN vs) : (procsIf vs)[i]? = some (Dp.proc vs i) := by
  obtain ⟨j, e, _, hp, _⟩ := isP_proc (vs := vs) (a := i) (isP_iff.2 (by omega))
  rw [show i = j by omega] at hp ⊢
  exact hp
theorem procsN_fits (vs : List (Int × Int)) (n : Nat) (hn : Hid (vs.length = n)) (hl : n ≤ 9223372036854775807) : Dp.procsN vs ≤ 9223372036854775807 := by
  have h1 := those_len (levelP 3) vs
  have h2 := hn.out
  have e : (procsIf vs).length ≤ (Tp.those (levelP 3) vs).length := by
    unfold procsIf; split
    · exact Nat.le_refl _
    · exact Nat.zero_le _
  rw [procsIf_length] at e
  omega

set_option maxHeartbeats 2000000 in
theorem far_any (A : Option Addr) (n c : Nat) (vs : List (Int × Int)) (a b : Int) (w : World)
    (hn : Hid (vs.length = n)) (hl : n ≤ 9223372036854775807) (hf : Hid (Fit vs)) (hv : VRow w w.heap.size A vs) :
    Calls Tryd.prog 11 #[.slice A n c, .int .i64 a, .int .i64 b] w fun e w' => e = .returned (.int .i64 (Dp.far vs a b)) ∧ Below w.heap.size w w' := by
  go_enter Tryd.func11, Tryd.ntmps11
  go_wp2_with fail
  refine (procsOf_any A n c vs _ hn hl hf hv).mono ?_
  rintro e w1 ⟨A1, c1, rfl, hI1, hb1⟩
  rw [procsIf_length]
  have hm := procsN_fits vs n hn hl
  generalize hpn : Dp.procsN vs = m at hm ⊢
  have HPN := Lib.hid hpn
  clear hpn
  go_wp2_with fail
  refine (among_any A1 m c1 a _ hm).mono ?_
  rintro e w2 ⟨rfl, rfl⟩
  cases ha : isP a m
  · have H : Hid (Dp.far vs a b = -1) := Lib.hid (Dp.far_out (by rw [HPN.out]; have := isP_not.1 ha; omega))
    clear ha
    go_wp2_with fail
    go_ret
    exact ⟨by rw [H.out]; rfl, hb1⟩
  have HA := Lib.hid ha
  clear ha
  go_wp2_with fail
  refine (among_any A1 m c1 b _ hm).mono ?_
  rintro e w2 ⟨rfl, rfl⟩
  cases hb : isP b m
  · have H : Hid (Dp.far vs a b = -1) := Lib.hid (Dp.far_out (by rw [HPN.out]; have := isP_not.1 hb; omega))
    clear hb
    go_wp2_with fail
    go_ret
    exact ⟨by rw [H.out]; rfl, hb1⟩
  have HB := Lib.hid hb
  clear hb
  have HF : Hid (Dp.far vs a b = Dp.farV vs (Dp.proc vs a) (Dp.proc vs b)) := Lib.hid (isP_far (by rw [HPN.out]; exact HA.out) (by rw [HPN.out]; exact HB.out))
  obtain ⟨i, rfl, him, pa, _⟩ := isP_proc (vs := vs) (a := a) (by rw [HPN.out]; exact HA.out)
  obtain ⟨j, rfl, hjm, pb, _⟩ := isP_proc (vs := vs) (a := b) (by rw [HPN.out]; exact HB.out)
  rw [HPN.out] at him hjm
  obtain ⟨pb1, po1, hA1, _, hca⟩ := hI1 i _ pa
  obtain ⟨pb2, po2, hA2, _, hcb⟩ := hI1 j _ pb
  subst hA1
  injection hA2 with hA2
  injection hA2 with e1 e2
  subst e1 e2
  have hv1 := hv.below hb1
  generalize Dp.proc vs i = x at *
  generalize Dp.proc vs j = y at *
  have G : Hid (∀ q, Calls Tryd.prog 28 #[.slice A n c, .int .i64 x, .int .i64 y] (w2.drewN q) fun e w' => e = .returned (.int .i64 (Dp.farV vs x y)) ∧ ∃ q', w' = (w2.drewN q).drewN q') :=
    Lib.hid (fun q => apart_quiet A n c vs x y (w2.drewN q) _ hn hl hv1)
  clear pa pb hI1
  go_wp2_with fail
  go_quiet ((go_at_call 28; (with_reducible exact Calls.quiet_of (G.out _))))
  go_wp2_with fail
  go_ret
  exact ⟨by rw [HF.out]; rfl, below_drewN hb1 _⟩


theorem below_undrew' {w w' : World} (h : Below w.drew.heap.size w.drew w') : Below w.heap.size w w' := ⟨h.os, h.tape, h.output, h.size, h.block⟩

end Go.Proofs.YtmmgackmiemkhaaDoor


/- The closures of dist.Near: how far one is, how many steps off, and which of two is ahead; by contracts. -/
namespace Go.Proofs.YtmmgackmiemkhaaDoor
open Go.RowKit Go.Sort
set_option linter.unusedVariables false

theorem isNaN_any (x : Int) (w : World) : Calls Tryd.prog 58 #[.int .i64 x] w fun e w' => e = .returned (.bool false) ∧ w' = w := by
  have h : (x != x) = false := by simp
  go_enter Tryd.func58, Tryd.ntmps58
  go_wp2
  go_ret
  exact ⟨rfl, rfl⟩
theorem compare_any (x y : Int) (w : World) : Calls Tryd.prog 44 #[.int .i64 x, .int .i64 y] w fun e w' => e = .returned (.int .i64 (Dp.cmpI x y)) ∧ w' = w := by
  by_cases h1 : x < y
  · have H : Hid (Dp.cmpI x y = -1) := Lib.hid (by unfold Dp.cmpI; rw [if_pos h1])
    go_enter Tryd.func44, Tryd.ntmps44
    go_wp2_with (go_at_call 58; refine (isNaN_any _ _).mono ?_; rintro e w' ⟨rfl, rfl⟩)
    go_ret
    exact ⟨by rw [H.out]; rfl, rfl⟩
  · by_cases h2 : y < x
    · have H : Hid (Dp.cmpI x y = 1) := Lib.hid (by unfold Dp.cmpI; rw [if_neg h1, if_pos h2])
      go_enter Tryd.func44, Tryd.ntmps44
      go_wp2_with (go_at_call 58; refine (isNaN_any _ _).mono ?_; rintro e w' ⟨rfl, rfl⟩)
      go_ret
      exact ⟨by rw [H.out]; rfl, rfl⟩
    · have H : Hid (Dp.cmpI x y = 0) := Lib.hid (by unfold Dp.cmpI; rw [if_neg h1, if_neg h2])
      go_enter Tryd.func44, Tryd.ntmps44
      go_wp2_with (go_at_call 58; refine (isNaN_any _ _).mono ?_; rintro e w' ⟨rfl, rfl⟩)
      go_ret
      exact ⟨by rw [H.out]; rfl, rfl⟩
theorem or_any (b off c : Nat) (x y : Int) (w : World) (h1 : w.cell? ⟨b, off, none⟩ = some (.int .i64 x)) (h2 : w.cell? ⟨b, off + 1, none⟩ = some (.int .i64 y)) :
    Calls Tryd.prog 43 #[.slice (some ⟨b, off, none⟩) 2 c] w fun e w' => e = .returned (.int .i64 (Dp.orI x y)) ∧ w' = w := by
  go_enter Tryd.func43, Tryd.ntmps43
  go_wp2
  go_loop [8] (fun i => ∃ k : Nat, k ≤ 2 ∧ i = .int .i64 k ∧ Hid ((0 < k → x = 0) ∧ (1 < k → y = 0))) (fun i => 2 - (intOf i).toNat)
  case atStart => exact ⟨0, by omega, rfl, Lib.hid ⟨fun h => absurd h (by omega), fun h => absurd h (by omega)⟩⟩
  case round =>
    obtain ⟨k, hk, rfl, hno⟩ := hrel
    match k, hk with
    | 0, _ =>
      cases hx : (x != 0)
      · have hx0 : x = 0 := by simpa using hx
        have H : Hid ((0 < 1 → x = 0) ∧ (1 < 1 → y = 0)) := Lib.hid ⟨fun _ => hx0, fun h => absurd h (by omega)⟩
        clear hx0
        go_wp2
        go_round
        case rel => exact ⟨1, by omega, by go_num, H⟩
        case measure => simp [intOf]
      · have H : Hid (Dp.orI x y = x) := Lib.hid (by unfold Dp.orI; rw [if_neg (by simpa using hx)])
        go_wp2
        go_ret
        exact ⟨by rw [H.out]; rfl, rfl⟩
    | 1, _ =>
      have hx0 := hno.out.1 (by omega)
      have H : Hid (Dp.orI x y = y) := Lib.hid (by unfold Dp.orI; rw [if_pos hx0])
      clear hx0
      cases hy : (y != 0)
      · have hy0 : y = 0 := by simpa using hy
        have H2 : Hid ((0 < 2 → x = 0) ∧ (1 < 2 → y = 0)) := Lib.hid ⟨fun _ => hno.out.1 (by omega), fun _ => hy0⟩
        clear hy0
        go_wp2
        go_round
        case rel => exact ⟨2, by omega, by go_num, H2⟩
        case measure => simp [intOf]
      · go_wp2
        go_ret
        exact ⟨by rw [H.out]; rfl, rfl⟩
    | 2, _ =>
      have H : Hid (Dp.orI x y = 0) := Lib.hid (by unfold Dp.orI; rw [if_pos (hno.out.1 (by omega))]; exact hno.out.2 (by omega))
      go_wp2
      go_ret
      exact ⟨by rw [H.out]; rfl, rfl⟩

set_option maxHeartbeats 1000000 in
theorem farOf_quiet (A A1 : Option Addr) (n c m c1 : Nat) (vs : List (Int × Int)) (p q : Int) (bT bP bp : Nat) (w : World) (B : Nat)
    (hn : Hid (vs.length = n)) (hl : n ≤ 9223372036854775807) (hv : VRow w B A vs) (hI : IRow w B A1 (procsIf vs)) (hm : Hid (Dp.procsN vs = m)) (hml : m ≤ 64)
    (cT : w.cell? ⟨bT, 0, none⟩ = some (.slice A n c)) (cP : w.cell? ⟨bP, 0, none⟩ = some (.slice A1 m c1)) (cp : w.cell? ⟨bp, 0, none⟩ = some (.int .i64 p))
    (p0 : 0 ≤ p) (p1 : p < m) (q0 : 0 ≤ q) (q1 : q < m) :
    Calls Tryd.prog 39 #[.int .i64 q, .pointer (some ⟨bT, 0, none⟩), .pointer (some ⟨bP, 0, none⟩), .pointer (some ⟨bp, 0, none⟩)] w fun e w' => e = .returned (.int .i64 (Dp.far vs p q)) ∧ ∃ k, w' = w.drewN k := by
  have HF : Hid (Dp.far vs p q = Dp.farV vs (Dp.proc vs p) (Dp.proc vs q)) := Lib.hid (isP_far (isP_iff.2 (by rw [hm.out]; omega)) (isP_iff.2 (by rw [hm.out]; omega)))
  obtain ⟨i, rfl⟩ := Int.eq_ofNat_of_zero_le p0
  obtain ⟨j, rfl⟩ := Int.eq_ofNat_of_zero_le q0
  have him : i < m := by omega
  have hjm : j < m := by omega
  have pi := proc_of (vs := vs) (i := i) (by rw [hm.out]; exact him)
  have pj := proc_of (vs := vs) (i := j) (by rw [hm.out]; exact hjm)
  obtain ⟨pb1, po1, hA1, _, hca⟩ := hI i _ pi
  obtain ⟨pb2, po2, hA2, _, hcb⟩ := hI j _ pj
  subst hA1
  injection hA2 with hA2
  injection hA2 with e1 e2
  subst e1 e2
  generalize Dp.proc vs i = x at *
  generalize Dp.proc vs j = y at *
  have G : Hid (∀ k, Calls Tryd.prog 28 #[.slice A n c, .int .i64 x, .int .i64 y] (w.drewN k) fun e w' => e = .returned (.int .i64 (Dp.farV vs x y)) ∧ ∃ q', w' = (w.drewN k).drewN q') :=
    Lib.hid (fun k => apart_quiet A n c vs x y (w.drewN k) _ hn hl hv)
  clear pi pj hI p0 p1 q0 q1
  go_enter Tryd.func39, Tryd.ntmps39
  go_wp2_with fail
  go_quiet ((go_at_call 28; (with_reducible exact Calls.quiet_of (G.out _))))
  go_wp2_with fail
  go_ret
  exact ⟨by rw [HF.out]; rfl, _, rfl⟩

theorem stepsOf_any (m : Nat) (p q : Int) (bp bN : Nat) (w : World) (hml : m ≤ 64)
    (cp : w.cell? ⟨bp, 0, none⟩ = some (.int .i64 p)) (cN : w.cell? ⟨bN, 0, none⟩ = some (.int .i64 m))
    (p0 : 0 ≤ p) (p1 : p < m) (q0 : 0 ≤ q) (q1 : q < m) :
    Calls Tryd.prog 40 #[.int .i64 q, .pointer (some ⟨bp, 0, none⟩), .pointer (some ⟨bN, 0, none⟩)] w fun e w' => e = .returned (.int .i64 (Dp.steps p m q)) ∧ w' = w := by
  have s3 : ¬ m = 0 := by omega
  have H : Hid (Dp.steps p m q = (q - p + (m : Int)) % (m : Int)) := Lib.hid rfl
  go_enter Tryd.func40, Tryd.ntmps40
  go_wp2
  go_ret
  exact ⟨by rw [H.out]; rfl, rfl⟩
end Go.Proofs.YtmmgackmiemkhaaDoor


/- dist.Table, by its contract: of each processor, in turn, how far it is from each, in new memory. -/
namespace Go.Proofs.YtmmgackmiemkhaaDoor
open Go.RowKit
set_option linter.unusedVariables false

theorem procsN_few (vs : List (Int × Int)) : Dp.procsN vs ≤ 64 := by
  rw [← procsIf_length]
  unfold procsIf
  split
  · rename_i h
    have := ((Tp.tree_iff vs).1 h).few
    have := those_len (levelP 3) vs
    exact Nat.le_trans this (by omega)
  · exact Nat.zero_le _
/-- How far processor k is from each. -/
def rowOf (vs : List (Int × Int)) (k : Nat) : List Int := (List.range (Dp.procsN vs)).map fun (b : Nat) => Dp.far vs k b
theorem rowOf_length (vs : List (Int × Int)) (k : Nat) : (rowOf vs k).length = Dp.procsN vs := by unfold rowOf; simp
theorem rowOf_at {vs : List (Int × Int)} {k j : Nat} (h : j < Dp.procsN vs) : (rowOf vs k)[j]? = some (Dp.far vs k j) := by unfold rowOf; simp [h]
theorem table_at {vs : List (Int × Int)} {k : Nat} (h : k < Dp.procsN vs) : (table vs)[k]? = some (rowOf vs k) := by unfold table rowOf; simp [h]
theorem table_length (vs : List (Int × Int)) : (table vs).length = Dp.procsN vs := by unfold table; simp
theorem own_base {w : World} {b1 b2 n size : Nat} {e : TypeId} {v : Value} {xs : List Value} (h : w.ownsRow b1 e size v n xs) (hb : b2 ≤ b1) : w.ownsRow b2 e size v n xs := by
  refine ⟨h.1, ?_⟩
  rcases h.2 with h0 | ⟨g, cap, cur, e1, hg, h3⟩
  · exact .inl h0
  · exact .inr ⟨g, cap, cur, e1, Nat.le_trans hb hg, h3⟩
/-- A row that is filled up to its j-th place. -/
def part (vs : List (Int × Int)) (k j : Nat) : List Int := (rowOf vs k).take j ++ List.replicate (Dp.procsN vs - j) 0
theorem part_zero (vs : List (Int × Int)) (k : Nat) : part vs k 0 = List.replicate (Dp.procsN vs) 0 := by unfold part; simp
theorem part_all (vs : List (Int × Int)) (k : Nat) : part vs k (Dp.procsN vs) = rowOf vs k := by
  unfold part
  rw [List.take_of_length_le (by rw [rowOf_length]; exact Nat.le_refl _), Nat.sub_self]
  simp
theorem part_length {vs : List (Int × Int)} {k j : Nat} (h : j ≤ Dp.procsN vs) : (part vs k j).length = Dp.procsN vs := by
  unfold part
  rw [List.length_append, List.length_take, List.length_replicate, rowOf_length]; omega
theorem part_set {vs : List (Int × Int)} {k j : Nat} (h : j < Dp.procsN vs) : (part vs k j).set j (Dp.far vs k j) = part vs k (j + 1) := by
  apply List.ext_getElem?
  intro i
  have hl : ((rowOf vs k).take j).length = j := by rw [List.length_take, rowOf_length]; omega
  have hl' : ((rowOf vs k).take (j + 1)).length = j + 1 := by rw [List.length_take, rowOf_length]; omega
  by_cases e : j = i
  · subst e
    rw [List.getElem?_set_self (by rw [part_length (by omega)]; exact h)]
    unfold part
    rw [List.getElem?_append_left (by omega), List.getElem?_take, if_pos (by omega), rowOf_at h]
  · rw [List.getElem?_set_ne e]
    unfold part
    by_cases e2 : i < j
    · rw [List.getElem?_append_left (by omega), List.getElem?_append_left (by omega), List.getElem?_take, List.getElem?_take, if_pos (by omega), if_pos (by omega)]
    · rw [List.getElem?_append_right (by omega), List.getElem?_append_right (by omega), hl, hl', List.getElem?_replicate, List.getElem?_replicate]
      by_cases e3 : i < Dp.procsN vs
      · rw [if_pos (by omega), if_pos (by omega)]
      · rw [if_neg (by omega), if_neg (by omega)]
/-- The slices that stand in a list of lists, each its row, of the call's own. -/
def RowsIn (w : World) (base : Nat) (rows : List (List Int)) (xs : List Value) : Prop :=
  xs.length = rows.length ∧ ∀ (i : Nat) (r : List Int), rows[i]? = some r → ∃ v : Value, xs[i]? = some v ∧ w.ownsRow base 3 1 v r.length (r.map (Value.int .i64))
theorem RowsIn.nil (w : World) (base : Nat) : RowsIn w base [] [] := ⟨rfl, fun i r h => by simp at h⟩
theorem RowsIn.below {w w' : World} {base : Nat} {rows : List (List Int)} {xs : List Value} (h : RowsIn w base rows xs) (hb : Below w.heap.size w w') : RowsIn w' base rows xs :=
  ⟨h.1, fun i r hi => by obtain ⟨v, h1, h2⟩ := h.2 i r hi; exact ⟨v, h1, own_below h2 hb⟩⟩
theorem own_types {w : World} {b1 b2 s1 s2 n1 n2 : Nat} {e1 e2 : TypeId} {v1 v2 : Value} {x1 x2 : List Value} (h1 : w.ownsRow b1 e1 s1 v1 n1 x1) (h2 : w.ownsRow b2 e2 s2 v2 n2 x2) (hne : e1 ≠ e2) : v1.ownBlock = none ∨ v1.ownBlock ≠ v2.ownBlock := by
  rcases h1.2 with ⟨rfl, _⟩ | ⟨g1, c1, cur1, rfl, _, k1, _⟩
  · exact .inl rfl
  · rcases h2.2 with ⟨rfl, _⟩ | ⟨g2, c2, cur2, rfl, _, k2, _⟩
    · exact .inr (by simp [Value.ownBlock])
    · refine .inr ?_
      intro h
      have e : g1 = g2 := by simpa [Value.ownBlock] using h
      subst e
      rw [k1] at k2
      injection k2 with k2
      injection k2 with _ k2
      exact hne k2
theorem RowsIn.grown {w w' : World} {base b2 n2 : Nat} {rows : List (List Int)} {xs x2 : List Value} {v2 : Value} (h : RowsIn w base rows xs) (ho : w.ownsRow b2 47 1 v2 n2 x2) (hg : w.grownBy w' v2.ownBlock) : RowsIn w' base rows xs :=
  ⟨h.1, fun i r hi => by obtain ⟨v, h1, h2⟩ := h.2 i r hi; exact ⟨v, h1, h2.kept hg (own_types h2 ho (by decide))⟩⟩
theorem RowsIn.snoc {w : World} {base : Nat} {rows : List (List Int)} {xs : List Value} {v : Value} {r : List Int} (h : RowsIn w base rows xs) (hr : w.ownsRow base 3 1 v r.length (r.map (Value.int .i64))) : RowsIn w base (rows ++ [r]) (xs ++ [v]) := by
  refine ⟨by simp [h.1], fun i s hi => ?_⟩
  by_cases e : i < rows.length
  · rw [List.getElem?_append_left e] at hi
    obtain ⟨v', h1, h2⟩ := h.2 i s hi
    exact ⟨v', by rw [List.getElem?_append_left (by rw [h.1]; exact e)]; exact h1, h2⟩
  · have hlt := (List.getElem?_eq_some_iff.1 hi).1
    simp at hlt
    have : i = rows.length := by omega
    subst this
    simp at hi
    subst hi
    exact ⟨v, by rw [List.getElem?_append_right (by rw [h.1]; exact Nat.le_refl _), h.1]; simp, hr⟩
theorem info_ints : (Tryd.prog.info? 47).map (fun i => (i.zero, i.size, i.bytes)) = some (some (Value.slice none 0 0), 1, 24) := by kernel_rfl
theorem slice_cell (w : World) (u : Value) (e : TypeId) : ∀ j x, [u][j]? = some x → (w.alloc (.cells #[u] e)).cell? ((⟨w.heap.size, 0, none⟩ : Addr).add j) = some x := one_cell w u e
theorem rrow_of {w : World} {base base2 : Nat} {A : Option Addr} {n c : Nat} {e : TypeId} {xs : List Value} {rows : List (List Int)} (h : w.ownsRow base e 1 (.slice A n c) n xs) (hr : RowsIn w base2 rows xs) : RRow w w.heap.size A rows := by
  intro i r hi
  obtain ⟨v, h1, h2⟩ := hr.2 i r hi
  obtain ⟨A', c', rfl⟩ := own_form h2
  have hl := (List.getElem?_eq_some_iff.1 h1).1
  have hn := h.1
  rcases h.2 with ⟨_, h0⟩ | ⟨g, cap, cur, hv, _, hh, _⟩
  · omega
  · injection hv with e1 e2 e3
    subst e1
    refine ⟨g, 0, rfl, (Array.getElem?_eq_some_iff.1 hh).1, A', c', ?_, IRow.of_own h2⟩
    have := h.cells (g := g) rfl i _ h1
    rw [show ((⟨g, 0, none⟩ : Addr).add i) = ⟨g, 0 + i, none⟩ from by unfold Addr.add; split <;> simp_all] at this
    exact this
theorem madeRows_of {w w1 w' : World} {v : Value} {rows : List (List Int)} {xs : List Value} {ty : TypeId} {base2 : Nat} (hb : Below w.heap.size w w1) (hown : w'.ownsRow w1.heap.size ty 1 v rows.length xs) (hr : RowsIn w' base2 rows xs) (hb1 : Below w1.heap.size w1 w') : MadeRows w rows (.returned v) w' := by
  obtain ⟨A, c, rfl⟩ := own_form hown
  exact ⟨A, c, rfl, rrow_of hown hr, hb.trans (hb1.mono hb.size)⟩
theorem zeros_map (m : Nat) : (madeCells #[Value.int .i64 0] m).toList = (List.replicate m (0 : Int)).map (Value.int .i64) := by
  rw [toList_madeCells_one, List.map_replicate]

end Go.Proofs.YtmmgackmiemkhaaDoor

