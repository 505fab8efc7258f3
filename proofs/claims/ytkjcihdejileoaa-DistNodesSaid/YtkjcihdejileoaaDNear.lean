/- Who is near, in plain mathematics: all others, each once, never one nearer behind one that is farther. -/
import Derived.Test.YtkjcihdejileoaaDPlain
namespace Go.Proofs.Ytkjcihdejileoaa.Dp
open Go.Proofs.Ytkjcihdejileoaa

/-- The k-th one from p on, round and round. -/
def nth (p : Int) (n k : Nat) : Int := (p + (k : Nat)) % n
theorem nth_range {p : Int} {n k : Nat} (h0 : 0 ≤ p) (h1 : p < n) (hk : 1 ≤ k) (hkn : k < n) : 0 ≤ nth p n k ∧ nth p n k < n ∧ nth p n k ≠ p := by
  unfold nth
  obtain ⟨i, rfl⟩ := Int.eq_ofNat_of_zero_le h0
  rw [show ((i : Int) + (k : Int)) % (n : Int) = (((i + k) % n : Nat) : Int) from by rw [Int.natCast_emod]; rfl]
  have hm := Nat.mod_lt (i + k) (show n > 0 by omega)
  refine ⟨by omega, by omega, ?_⟩
  rcases Nat.lt_or_ge (i + k) n with h | h
  · rw [Nat.mod_eq_of_lt h]; omega
  · rw [Nat.mod_eq_sub_mod h, Nat.mod_eq_of_lt (by omega)]; omega
theorem nth_inj {p : Int} {n j k : Nat} (h0 : 0 ≤ p) (h1 : p < n) (hj : j < k) (hk : k < n) : nth p n j ≠ nth p n k := by
  unfold nth
  obtain ⟨i, rfl⟩ := Int.eq_ofNat_of_zero_le h0
  rw [show ((i : Int) + (k : Int)) % (n : Int) = (((i + k) % n : Nat) : Int) from by rw [Int.natCast_emod]; rfl,
    show ((i : Int) + (j : Int)) % (n : Int) = (((i + j) % n : Nat) : Int) from by rw [Int.natCast_emod]; rfl]
  intro h
  have h' : (i + j) % n = (i + k) % n := by omega
  rcases Nat.lt_or_ge (i + j) n with a | a <;> rcases Nat.lt_or_ge (i + k) n with b | b
  · rw [Nat.mod_eq_of_lt a, Nat.mod_eq_of_lt b] at h'; omega
  · rw [Nat.mod_eq_of_lt a, Nat.mod_eq_sub_mod b, Nat.mod_eq_of_lt (by omega)] at h'; omega
  · omega
  · rw [Nat.mod_eq_sub_mod a, Nat.mod_eq_of_lt (by omega), Nat.mod_eq_sub_mod b, Nat.mod_eq_of_lt (by omega)] at h'; omega
theorem nth_all {p q : Int} {n : Nat} (h0 : 0 ≤ p) (h1 : p < n) (q0 : 0 ≤ q) (q1 : q < n) (hne : q ≠ p) : ∃ k : Nat, 1 ≤ k ∧ k < n ∧ nth p n k = q := by
  unfold nth
  by_cases h : p < q
  · refine ⟨(q - p).toNat, by omega, by omega, ?_⟩
    rw [show p + ((q - p).toNat : Int) = q by omega]
    exact Int.emod_eq_of_lt q0 q1
  · refine ⟨(q - p + n).toNat, by omega, by omega, ?_⟩
    rw [show p + ((q - p + n).toNat : Int) = q + n by omega, Int.add_emod_right]
    exact Int.emod_eq_of_lt q0 q1
theorem mem_ringF {vs : List (Int × Int)} {p d z : Int} {n : Nat} : ∀ k, z ∈ ringF vs p d n k ↔ ∃ t : Nat, 1 ≤ t ∧ t ≤ k ∧ z = nth p n t ∧ far vs p z = d := by
  intro k
  induction k with
  | zero =>
    constructor
    · intro h; cases h
    · rintro ⟨t, h1, h2, _⟩; omega
  | succ k ih =>
    rw [ringF, List.mem_append, ih]
    constructor
    · rintro (⟨t, a, b, c, e⟩ | h)
      · exact ⟨t, a, by omega, c, e⟩
      · split at h
        · rename_i hf
          rw [List.mem_singleton] at h
          subst h
          exact ⟨k + 1, by omega, by omega, rfl, hf⟩
        · cases h
    · rintro ⟨t, a, b, c, e⟩
      by_cases ht : t ≤ k
      · exact .inl ⟨t, a, ht, c, e⟩
      · right
        have : t = k + 1 := by omega
        subst this
        subst c
        have e' : far vs p ((p + ((k + 1 : Nat) : Int)) % (n : Int)) = d := e
        rw [if_pos e']
        exact List.mem_singleton.2 rfl
/-- One behind another: another one, and no nearer. -/
def Behind (vs : List (Int × Int)) (p a b : Int) : Prop := a ≠ b ∧ far vs p a ≤ far vs p b
theorem ringF_pair {vs : List (Int × Int)} {p d : Int} {n : Nat} (h0 : 0 ≤ p) (h1 : p < n) : ∀ k, k < n → (ringF vs p d n k).Pairwise (Behind vs p) := by
  intro k
  induction k with
  | zero => intro _; exact List.Pairwise.nil
  | succ k ih =>
    intro hk
    rw [ringF, List.pairwise_append]
    refine ⟨ih (by omega), ?_, ?_⟩
    · split
      · exact List.pairwise_singleton _ _
      · exact List.Pairwise.nil
    · intro a ha b hb
      split at hb
      · rename_i hf
        rw [List.mem_singleton] at hb
        subst hb
        obtain ⟨t, t1, t2, e, ef⟩ := (mem_ringF k).1 ha
        subst e
        exact ⟨nth_inj h0 h1 (by omega) hk, by rw [ef]; exact Int.le_of_eq hf.symm⟩
      · cases hb
theorem nearTo_pair {vs : List (Int × Int)} {p : Int} (h0 : 0 ≤ p) (h1 : p < procsN vs) : ∀ d, (nearTo vs p d).Pairwise (Behind vs p) ∧ ∀ z ∈ nearTo vs p d, far vs p z ≤ d := by
  intro d
  induction d with
  | zero => exact ⟨List.Pairwise.nil, fun z hz => by cases hz⟩
  | succ d ih =>
    obtain ⟨i1, i2⟩ := ih
    rw [nearTo]
    have hr : ∀ z ∈ ring vs p ((d + 1 : Nat) : Int), far vs p z = ((d + 1 : Nat) : Int) := fun z hz => by
      obtain ⟨_, _, _, _, e⟩ := (mem_ringF _).1 hz
      exact e
    refine ⟨List.pairwise_append.2 ⟨i1, ringF_pair h0 h1 _ (by omega), fun a ha b hb => ?_⟩, fun z hz => ?_⟩
    · have := i2 a ha
      have := hr b hb
      exact ⟨fun e => by subst e; omega, by omega⟩
    · rcases List.mem_append.1 hz with h | h
      · have := i2 z h; omega
      · have := hr z h; omega
theorem mem_near {vs : List (Int × Int)} {p z : Int} (h0 : 0 ≤ p) (h1 : p < procsN vs) : z ∈ near vs p ↔ 0 ≤ z ∧ z < procsN vs ∧ z ≠ p := by
  have T := tree_of_in h0 h1
  rw [near_in (by omega)]
  simp only [nearTo, ring, List.nil_append, List.mem_append, mem_ringF]
  constructor
  · rintro ((⟨t, a, b, e, _⟩ | ⟨t, a, b, e, _⟩) | ⟨t, a, b, e, _⟩) <;> (subst e; exact nth_range h0 h1 a (by omega))
  · rintro ⟨z0, z1, hne⟩
    obtain ⟨k, k1, k2, e⟩ := nth_all h0 h1 z0 z1 hne
    have hin : ¬ (p < 0 ∨ (procsN vs : Int) ≤ p ∨ z < 0 ∨ (procsN vs : Int) ≤ z) := by omega
    have hf := far_in hin
    obtain ⟨ep, mp⟩ := proc_mem T h0 h1
    obtain ⟨ez, mz⟩ := proc_mem T z0 z1
    have bd := farV_bounds vs (proc vs p) (proc vs z)
    have hz : farV vs (proc vs p) (proc vs z) ≠ 0 := fun h => by
      have e := (farV_zero T mp mz).1 h
      rw [e] at ep
      have hlp := (List.getElem?_eq_some_iff.1 ep).1
      have hlz := (List.getElem?_eq_some_iff.1 ez).1
      rcases Nat.lt_trichotomy p.toNat z.toNat with hlt | heq | hgt
      · have := Tp.those_rise ep ez hlt; omega
      · omega
      · have := Tp.those_rise ez ep hgt; omega
    rw [← hf] at bd hz
    rcases (show far vs p z = 1 ∨ far vs p z = 2 ∨ far vs p z = 3 by omega) with h | h | h
    · exact .inl (.inl ⟨k, k1, by omega, e.symm, h⟩)
    · exact .inl (.inr ⟨k, k1, by omega, e.symm, h⟩)
    · exact .inr ⟨k, k1, by omega, e.symm, h⟩
theorem far_ne_zero {vs : List (Int × Int)} {p z : Int} (h0 : 0 ≤ p) (h1 : p < procsN vs) (z0 : 0 ≤ z) (z1 : z < procsN vs) (hne : z ≠ p) : 1 ≤ far vs p z := by
  have hm := (mem_near (z := z) h0 h1).2 ⟨z0, z1, hne⟩
  rw [near_in (by omega)] at hm
  simp only [nearTo, ring, List.nil_append, List.mem_append, mem_ringF] at hm
  rcases hm with (⟨_, _, _, _, e⟩ | ⟨_, _, _, _, e⟩) | ⟨_, _, _, _, e⟩ <;> rw [e] <;> decide
/-- The parts of one that is near, at its place. -/
theorem near_at {vs : List (Int × Int)} {p z : Int} {i : Nat} (h0 : 0 ≤ p) (h1 : p < procsN vs) (hz : (near vs p)[i]? = some z) :
    0 ≤ z ∧ z < procsN vs ∧ z ≠ p ∧ Tp.has ((near vs p).take i) z = false ∧ ∀ (j : Nat) (u : Int), j < i → (near vs p)[j]? = some u → far vs p u ≤ far vs p z := by
  obtain ⟨a, b, c⟩ := (mem_near h0 h1).1 (List.mem_of_getElem? hz)
  have hp := (nearTo_pair h0 h1 3).1
  rw [← near_in (by omega)] at hp
  have hpw := List.pairwise_iff_getElem.1 hp
  have hR : ∀ (j : Nat) (u : Int), j < i → (near vs p)[j]? = some u → Behind vs p u z := by
    intro j u hj hu
    obtain ⟨jl, ej⟩ := List.getElem?_eq_some_iff.1 hu
    obtain ⟨il, ei⟩ := List.getElem?_eq_some_iff.1 hz
    have := hpw j i jl il hj
    rw [ej, ei] at this
    exact this
  refine ⟨a, b, c, ?_, fun j u hj hu => (hR j u hj hu).2⟩
  unfold Tp.has
  rw [Bool.eq_false_iff]
  intro hh
  rw [List.contains_iff_mem] at hh
  obtain ⟨j, hj⟩ := List.mem_iff_getElem?.1 hh
  have hji : j < i := by have := (List.getElem?_eq_some_iff.1 hj).1; rw [List.length_take] at this; omega
  rw [List.getElem?_take, if_pos hji] at hj
  exact (hR j z hji hj).1 rfl
theorem ring_count {vs : List (Int × Int)} {p : Int} (h0 : 0 ≤ p) (h1 : p < procsN vs) : ∀ k, k < procsN vs → (ringF vs p 1 (procsN vs) k).length + (ringF vs p 2 (procsN vs) k).length + (ringF vs p 3 (procsN vs) k).length = k := by
  intro k
  induction k with
  | zero => intro _; rfl
  | succ k ih =>
    intro hk
    have := ih (by omega)
    obtain ⟨z0, z1, hne⟩ := nth_range h0 h1 (show 1 ≤ k + 1 by omega) hk
    have f1 := far_ne_zero h0 h1 z0 z1 hne
    have f3 := (far_bounds vs p (nth p (procsN vs) (k + 1))).2
    rw [ringF, ringF, ringF, List.length_append, List.length_append, List.length_append]
    have e : (p + ((k + 1 : Nat) : Int)) % ((procsN vs : Nat) : Int) = nth p (procsN vs) (k + 1) := rfl
    rw [e]
    generalize far vs p (nth p (procsN vs) (k + 1)) = f at f1 f3 ⊢
    rcases (show f = 1 ∨ f = 2 ∨ f = 3 by omega) with rfl | rfl | rfl <;> simp <;> omega
theorem near_length {vs : List (Int × Int)} {p : Int} (h0 : 0 ≤ p) (h1 : p < procsN vs) : (near vs p).length = procsN vs - 1 := by
  have := ring_count h0 h1 (procsN vs - 1) (by omega)
  rw [near_in (by omega)]
  simp only [nearTo, ring, List.nil_append, List.length_append]
  exact this
/-- The node of a processor is one of the nodes. -/
theorem node_range {vs : List (Int × Int)} {p : Int} (h0 : 0 ≤ p) (h1 : p < procsN vs) : ∃ k : Nat, node vs p = k ∧ k < (nodes vs).length := by
  have T := tree_of_in h0 h1
  obtain ⟨_, mp⟩ := proc_mem T h0 h1
  obtain ⟨k, e, hk, _⟩ := place_mem (above2_node T mp)
  exact ⟨k, by unfold node; rw [if_neg (by omega)]; exact e, hk⟩
theorem node_core {vs : List (Int × Int)} {p q : Int} (h : far vs p q = 1) : node vs q = node vs p := ((node_eq (by omega)).2 (by omega)).symm
/-- Each node has a processor. -/
theorem node_all {vs : List (Int × Int)} (T : Tp.Tree vs) {k : Nat} (hk : k < (nodes vs).length) : ∃ p : Nat, p < procsN vs ∧ node vs p = k := by
  obtain ⟨v, hv⟩ : ∃ v, (nodes vs)[k]? = some v := ⟨_, List.getElem?_eq_getElem hk⟩
  obtain ⟨j, x, e, hx, h1⟩ := Tp.mem_those.1 (List.mem_of_getElem? hv)
  obtain ⟨i, u, hu, h3, hup⟩ := T.below hx (by simpa using h1)
  have hmem : (i : Int) ∈ procs vs := Tp.mem_those.2 ⟨i, u, rfl, hu, by simpa using h3⟩
  obtain ⟨p, hp⟩ := List.mem_iff_getElem?.1 hmem
  have hpl : p < procsN vs := by rw [procsN_tree T]; exact (List.getElem?_eq_some_iff.1 hp).1
  refine ⟨p, hpl, ?_⟩
  have hproc : proc vs p = i := by
    unfold proc
    rw [Int.toNat_natCast, hp]; rfl
  have hno : v ∉ (nodes vs).take k := by
    intro hm
    obtain ⟨t, ht⟩ := List.mem_iff_getElem?.1 hm
    have htk : t < k := by have := (List.getElem?_eq_some_iff.1 ht).1; rw [List.length_take] at this; omega
    rw [List.getElem?_take, if_pos htk] at ht
    have := Tp.those_rise ht hv htk
    omega
  have hab : Tp.up vs 1 vs.length (proc vs p) = v := by rw [hproc, hup, e]
  rw [node_in (by omega), hab]
  exact place_hit hv hno
end Go.Proofs.Ytkjcihdejileoaa.Dp

