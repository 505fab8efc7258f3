/- Who is near, sorted by two keys: the order of the document's answer, in plain mathematics. -/
import Derived.Test.YtkjcihdejileoaaDNear
import Derived.Sort.LotA
import Derived.Shelf.SlSortCmp.Insertion
namespace Go.Proofs.Ytkjcihdejileoaa.Dp
open Go.Proofs.Ytkjcihdejileoaa Go.Sort
open Go.Proofs (ltOf)

/-- How many steps from p on, round and round, one comes. -/
def steps (p : Int) (n : Nat) (z : Int) : Int := (z - p + n) % n
def cmpI (x y : Int) : Int := if x < y then -1 else if y < x then 1 else 0
def orI (a b : Int) : Int := if a = 0 then b else a
/-- Nearer; or as near, and fewer steps. -/
def Ahead (vs : List (Int × Int)) (p : Int) (n : Nat) (a b : Int) : Prop := far vs p a < far vs p b ∨ (far vs p a = far vs p b ∧ steps p n a < steps p n b)
def cfI (vs : List (Int × Int)) (p : Int) (n : Nat) (a b : Int) : Int := orI (cmpI (far vs p a) (far vs p b)) (cmpI (steps p n a) (steps p n b))
theorem cmpI_neg {x y : Int} : cmpI x y < 0 ↔ x < y := by unfold cmpI; split <;> (try split) <;> omega
theorem cmpI_zero {x y : Int} : cmpI x y = 0 ↔ x = y := by unfold cmpI; split <;> (try split) <;> omega
theorem cfI_neg {vs : List (Int × Int)} {p : Int} {n : Nat} {a b : Int} : cfI vs p n a b < 0 ↔ Ahead vs p n a b := by
  unfold cfI orI Ahead
  by_cases h : cmpI (far vs p a) (far vs p b) = 0
  · rw [if_pos h, cmpI_neg]
    have := cmpI_zero.1 h
    omega
  · rw [if_neg h, cmpI_neg]
    have : far vs p a ≠ far vs p b := fun e => h (cmpI_zero.2 e)
    omega
theorem steps_nth {p : Int} {n k : Nat} (h0 : 0 ≤ p) (h1 : p < n) (hk : 1 ≤ k) (hkn : k < n) : steps p n (nth p n k) = k := by
  unfold nth steps
  obtain ⟨i, rfl⟩ := Int.eq_ofNat_of_zero_le h0
  rw [show ((i : Int) + (k : Int)) % (n : Int) = (((i + k) % n : Nat) : Int) from by rw [Int.natCast_emod]; rfl]
  rcases Nat.lt_or_ge (i + k) n with h | h
  · rw [Nat.mod_eq_of_lt h, show ((i + k : Nat) : Int) - (i : Int) + (n : Int) = (k : Int) + n by omega, Int.add_emod_right]
    exact Int.emod_eq_of_lt (by omega) (by omega)
  · rw [Nat.mod_eq_sub_mod h, Nat.mod_eq_of_lt (by omega), show ((i + k - n : Nat) : Int) - (i : Int) + (n : Int) = (k : Int) by omega]
    exact Int.emod_eq_of_lt (by omega) (by omega)
theorem steps_inj {p x y : Int} {n : Nat} (h0 : 0 ≤ p) (h1 : p < n) (x0 : 0 ≤ x) (x1 : x < n) (y0 : 0 ≤ y) (y1 : y < n) (h : steps p n x = steps p n y) : x = y := by
  have self : steps p n p = 0 := by unfold steps; rw [show p - p + (n : Int) = n by omega]; exact Int.emod_self
  by_cases ex : x = p
  · by_cases ey : y = p
    · rw [ex, ey]
    · obtain ⟨k, k1, k2, e⟩ := nth_all h0 h1 y0 y1 ey
      rw [ex, self, ← e, steps_nth h0 h1 k1 k2] at h
      omega
  · obtain ⟨j, j1, j2, e⟩ := nth_all h0 h1 x0 x1 ex
    by_cases ey : y = p
    · rw [ey, self, ← e, steps_nth h0 h1 j1 j2] at h
      omega
    · obtain ⟨k, k1, k2, e'⟩ := nth_all h0 h1 y0 y1 ey
      rw [← e, ← e', steps_nth h0 h1 j1 j2, steps_nth h0 h1 k1 k2] at h
      rw [← e, ← e', show j = k by omega]
theorem ringF_ahead {vs : List (Int × Int)} {p d : Int} {n : Nat} (h0 : 0 ≤ p) (h1 : p < n) : ∀ k, k < n → (ringF vs p d n k).Pairwise (Ahead vs p n) := by
  intro k
  induction k with
  | zero => intro _; exact List.Pairwise.nil
  | succ k ih =>
    intro hk
    rw [ringF, List.pairwise_append]
    refine ⟨ih (by omega), ?_, ?_⟩
    · split
      · exact List.pairwise_singleton _ _
      · exact List.Pairwise.nil
    · intro a ha b hb
      split at hb
      · rename_i hf
        rw [List.mem_singleton] at hb
        subst hb
        obtain ⟨t, t1, t2, e, ef⟩ := (mem_ringF k).1 ha
        subst e
        refine .inr ⟨by rw [ef]; exact hf.symm, ?_⟩
        rw [steps_nth h0 h1 t1 (by omega)]
        have e2 : steps p n ((p + ((k + 1 : Nat) : Int)) % (n : Int)) = ((k + 1 : Nat) : Int) := steps_nth h0 h1 (by omega) hk
        rw [e2]; omega
      · cases hb
theorem nearTo_ahead {vs : List (Int × Int)} {p : Int} (h0 : 0 ≤ p) (h1 : p < procsN vs) : ∀ d, (nearTo vs p d).Pairwise (Ahead vs p (procsN vs)) ∧ ∀ z ∈ nearTo vs p d, far vs p z ≤ d := by
  intro d
  induction d with
  | zero => exact ⟨List.Pairwise.nil, fun z hz => by cases hz⟩
  | succ d ih =>
    obtain ⟨i1, i2⟩ := ih
    rw [nearTo]
    have hr : ∀ z ∈ ring vs p ((d + 1 : Nat) : Int), far vs p z = ((d + 1 : Nat) : Int) := fun z hz => by
      obtain ⟨_, _, _, _, e⟩ := (mem_ringF _).1 hz
      exact e
    refine ⟨List.pairwise_append.2 ⟨i1, ringF_ahead h0 h1 _ (by omega), fun a ha b hb => ?_⟩, fun z hz => ?_⟩
    · have := i2 a ha
      have := hr b hb
      exact .inl (by omega)
    · rcases List.mem_append.1 hz with h | h
      · have := i2 z h; omega
      · have := hr z h; omega
/-- All others, in the order of their numbers. -/
def othersTo (p : Int) : Nat → List Int
  | 0 => []
  | k + 1 => othersTo p k ++ if (k : Int) = p then [] else [(k : Int)]
theorem mem_othersTo {p z : Int} : ∀ k, z ∈ othersTo p k ↔ 0 ≤ z ∧ z < k ∧ z ≠ p := by
  intro k
  induction k with
  | zero =>
    constructor
    · intro h; cases h
    · rintro ⟨a, b, _⟩; omega
  | succ k ih =>
    rw [othersTo, List.mem_append, ih]
    constructor
    · rintro (⟨a, b, c⟩ | h)
      · exact ⟨a, by omega, c⟩
      · split at h
        · cases h
        · rename_i hne
          rw [List.mem_singleton] at h
          subst h
          exact ⟨by omega, by omega, hne⟩
    · rintro ⟨a, b, c⟩
      by_cases hz : z < k
      · exact .inl ⟨a, hz, c⟩
      · right
        have : z = (k : Int) := by omega
        subst this
        rw [if_neg c]
        exact List.mem_singleton.2 rfl
theorem othersTo_le (p : Int) : ∀ k, (othersTo p k).length ≤ k := by
  intro k
  induction k with
  | zero => exact Nat.le_refl _
  | succ k ih =>
    rw [othersTo, List.length_append]
    split <;> simp <;> omega
theorem othersTo_nodup (p : Int) : ∀ k, (othersTo p k).Pairwise (· ≠ ·) := by
  intro k
  induction k with
  | zero => exact List.Pairwise.nil
  | succ k ih =>
    rw [othersTo, List.pairwise_append]
    refine ⟨ih, ?_, ?_⟩
    · split
      · exact List.Pairwise.nil
      · exact List.pairwise_singleton _ _
    · intro a ha b hb
      have := (mem_othersTo k).1 ha
      split at hb
      · cases hb
      · rw [List.mem_singleton] at hb
        omega
theorem others_perm {vs : List (Int × Int)} {p : Int} (h0 : 0 ≤ p) (h1 : p < procsN vs) : (near vs p).Perm (othersTo p (procsN vs)) := by
  have hp := (nearTo_pair h0 h1 3).1
  rw [← near_in (by omega)] at hp
  refine (List.perm_ext_iff_of_nodup (hp.imp fun h => h.1) (othersTo_nodup p _)).2 fun z => ?_
  rw [mem_near h0 h1, mem_othersTo]
theorem near_ahead {vs : List (Int × Int)} {p : Int} (h0 : 0 ≤ p) (h1 : p < procsN vs) : (near vs p).Pairwise (Ahead vs p (procsN vs)) := by
  have hp := (nearTo_ahead h0 h1 3).1
  rw [← near_in (by omega)] at hp
  exact hp

/-! ### The same, over the numbers below m + 1 alone -/
section
variable {m : Nat}
def val (x : Fin (m + 1)) : Int := (x.val : Int)
def toF (z : Int) : Fin (m + 1) := ⟨z.toNat % (m + 1), Nat.mod_lt _ (by omega)⟩
theorem val_toF {z : Int} (h0 : 0 ≤ z) (h1 : z < (m : Int) + 1) : val (toF (m := m) z) = z := by
  unfold val toF
  simp only
  rw [Nat.mod_eq_of_lt (by omega)]
  omega
theorem val_range (x : Fin (m + 1)) : 0 ≤ val x ∧ val x < ((m + 1 : Nat) : Int) := by unfold val; have := x.isLt; omega
def cfF (vs : List (Int × Int)) (p : Int) (x y : Fin (m + 1)) : Int := cfI vs p (m + 1) (val x) (val y)
theorem lt_iff {vs : List (Int × Int)} {p : Int} {x y : Fin (m + 1)} : ltOf (cfF vs p) x y = true ↔ Ahead vs p (m + 1) (val x) (val y) := by
  unfold ltOf cfF
  rw [decide_eq_true_iff, cfI_neg]
theorem lt_not {vs : List (Int × Int)} {p : Int} {x y : Fin (m + 1)} : ltOf (cfF vs p) x y = false ↔ ¬ Ahead vs p (m + 1) (val x) (val y) := by
  rw [← lt_iff, Bool.not_eq_true]
theorem cf_order (vs : List (Int × Int)) (p : Int) : SWO (ltOf (cfF (m := m) vs p)) where
  irrefl x := by rw [lt_not]; unfold Ahead; omega
  trans x y z h1 h2 := by rw [lt_iff] at *; unfold Ahead at *; omega
  ntrans x y z h1 h2 := by rw [lt_not] at *; unfold Ahead at *; omega
theorem cf_total {vs : List (Int × Int)} {p : Int} (h0 : 0 ≤ p) (h1 : p < ((m + 1 : Nat) : Int)) (x y : Fin (m + 1)) (a : ltOf (cfF vs p) x y = false) (b : ltOf (cfF vs p) y x = false) : x = y := by
  rw [lt_not] at a b
  unfold Ahead at a b
  have hx := val_range x
  have hy := val_range y
  have := steps_inj h0 h1 hx.1 hx.2 hy.1 hy.2 (by omega)
  unfold val at this
  exact Fin.ext (by omega)
theorem map_back {l : List Int} (h : ∀ z ∈ l, 0 ≤ z ∧ z < ((m + 1 : Nat) : Int)) : (l.map (toF (m := m))).map val = l := by
  rw [List.map_map]
  have e : l.map (val ∘ toF (m := m)) = l.map id := List.map_congr_left fun z hz => by
    have := h z hz
    exact val_toF this.1 (by omega)
  rw [e, List.map_id]
/-- What the sort makes of all others. -/
theorem sorted_near {vs : List (Int × Int)} {p : Int} (hm : procsN vs = m + 1) (h0 : 0 ≤ p) (h1 : p < ((m + 1 : Nat) : Int)) :
    (((othersTo p (m + 1)).map (toF (m := m))).mergeSort fun x y => !(ltOf (cfF vs p) y x)).map val = near vs p := by
  have h1' : p < procsN vs := by rw [hm]; exact h1
  have back := map_back (m := m) (l := near vs p) (fun z hz => by
    have := (mem_near h0 h1').1 hz
    rw [hm] at this
    exact ⟨this.1, this.2.1⟩)
  have O := cf_order (m := m) vs p
  have asym : ∀ x y, ltOf (cfF vs p) x y = true → ltOf (cfF (m := m) vs p) y x = false := fun x y h => by
    rw [lt_iff] at h
    rw [lt_not]
    unfold Ahead at *
    omega
  have tr : ∀ a b c : Fin (m + 1), (!(ltOf (cfF vs p) b a)) = true → (!(ltOf (cfF vs p) c b)) = true → (!(ltOf (cfF vs p) c a)) = true := fun a b c h1 h2 => by
    simp only [Bool.not_eq_true'] at *
    exact O.ntrans _ _ _ h2 h1
  have to : ∀ a b : Fin (m + 1), (!(ltOf (cfF vs p) b a) || !(ltOf (cfF vs p) a b)) = true := fun a b => by
    cases h : ltOf (cfF vs p) b a
    · rfl
    · rw [asym _ _ h]; rfl
  have hN : ((near vs p).map (toF (m := m))).Pairwise fun x y => (!(ltOf (cfF vs p) y x)) = true := by
    rw [List.pairwise_map]
    refine (List.pairwise_iff_forall_sublist.2 ?_)
    intro a b hs
    have hA := (List.pairwise_iff_forall_sublist.1 (near_ahead h0 h1')) hs
    have ma := (mem_near h0 h1').1 (hs.subset (List.mem_cons_self ..))
    have mb := (mem_near h0 h1').1 (hs.subset (List.mem_cons_of_mem _ (List.mem_cons_self ..)))
    rw [hm] at hA ma mb
    rw [Bool.not_eq_true']
    refine asym _ _ (lt_iff.2 ?_)
    rw [val_toF ma.1 (by omega), val_toF mb.1 (by omega)]
    exact hA
  have hperm : ((near vs p).map (toF (m := m))).Perm ((othersTo p (m + 1)).map (toF (m := m))) := by
    have := others_perm h0 h1'
    rw [hm] at this
    exact this.map _
  have e : ((othersTo p (m + 1)).map (toF (m := m))).mergeSort (fun x y => !(ltOf (cfF vs p) y x)) = (near vs p).map (toF (m := m)) :=
    List.Perm.eq_of_pairwise (le := fun x y => (!(ltOf (cfF vs p) y x)) = true) (fun a b _ _ x y => by
      simp only [Bool.not_eq_true'] at x y
      exact cf_total h0 h1 a b y x) (List.pairwise_mergeSort tr to _) hN ((List.mergeSort_perm _ _).trans hperm.symm)
  rw [e, back]
end
end Go.Proofs.Ytkjcihdejileoaa.Dp

