/- What strconv.Atoi makes of a number in figures; where a byte stands first: plain mathematics. -/
import Derived.Test.YtejhlenckdkonaaDoorCRead
import Derived.Lib.AtoiAll
import Derived.Lib.IndexLaws
namespace Go.Proofs.YtejhlenckdkonaaDoor.Cp

theorem pu_app (l r : List UInt8) : ∀ {acc v : Nat}, Lib.parseUint10 acc l = .ok v → Lib.parseUint10 acc (l ++ r) = Lib.parseUint10 v r := by
  induction l with
  | nil =>
    intro acc v h
    simp only [Lib.parseUint10] at h
    injection h with h
    rw [h]; rfl
  | cons c l ih =>
    intro acc v h
    rw [List.cons_append]
    simp only [Lib.parseUint10] at h ⊢
    split at h
    · rename_i h1
      rw [if_pos h1]
      split at h
      · cases h
      · rename_i h2
        rw [if_neg h2]
        split at h
        · cases h
        · rename_i h3
          rw [if_neg h3]
          exact ih h
    · cases h
theorem pu_figN (n : Nat) (h : n ≤ 9223372036854775808) : Lib.parseUint10 0 (figN n) = .ok n := by
  induction n using Nat.strongRecOn with
  | _ n ih =>
    have one : ∀ d, d < 10 → 48 ≤ (UInt8.ofNat (48 + d)).toNat ∧ (UInt8.ofNat (48 + d)).toNat ≤ 57 ∧ (UInt8.ofNat (48 + d)).toNat - 48 = d := by decide
    by_cases h10 : n < 10
    · rw [figN_low h10]
      obtain ⟨a, b, c⟩ := one n h10
      simp only [Lib.parseUint10]
      rw [if_pos ⟨a, b⟩, c, if_neg (by omega), if_neg (by omega)]
      simp
    · rw [figN_high h10, pu_app _ _ (ih (n / 10) (by omega) (by omega))]
      obtain ⟨a, b, c⟩ := one (n % 10) (by omega)
      simp only [Lib.parseUint10]
      rw [if_pos ⟨a, b⟩, c, if_neg (by omega), if_neg (by omega)]
      congr 1; omega
theorem pm_figN (n : Nat) (h : n ≤ 9223372036854775808) : Lib.parseMag (figN n) = .ok n := by
  unfold Lib.parseMag
  rw [if_neg (figN_ne n), pu_figN n h]
theorem atoi_figs {z : Int} (h : In64 z) : Lib.atoiAll (figs z) = .ok z := by
  have h1 := h.1
  have h2 := h.2
  unfold figs
  by_cases hz : z < 0
  · rw [if_pos hz]
    simp only [Lib.atoiAll]
    have h45 : (45 : UInt8).toNat = 45 := rfl
    rw [if_pos (Or.inr h45), pm_figN _ (by omega)]
    simp only
    rw [if_neg (fun h => h.1 h45), if_neg (by omega), if_pos h45]
    congr 1; omega
  · rw [if_neg hz]
    cases hf : figN z.natAbs with
    | nil => exact absurd hf (figN_ne _)
    | cons c r =>
      have hc := figN_digits z.natAbs c (by rw [hf]; exact List.mem_cons_self ..)
      have hc1 := UInt8.le_iff_toNat_le.1 hc.1
      have h48 : (48 : UInt8).toNat = 48 := rfl
      have hp := pm_figN z.natAbs (by omega)
      rw [hf] at hp
      simp only [Lib.atoiAll]
      rw [if_neg (by omega), hp]
      simp only
      rw [if_neg (by omega), if_neg (by omega), if_neg (by omega)]
      congr 1; omega
theorem atoi_nil {e : Lib.NumEnd Int} (h : Lib.atoiAll [] = e) : (∀ v, e ≠ .ok v) ∧ e ≠ .range := by
  subst h
  exact ⟨fun v h => by simp [Lib.atoiAll] at h, fun h => by simp [Lib.atoiAll] at h⟩
/-- Where a byte stands first. -/
theorem idx_miss {S : List UInt8} {c : UInt8} (h : ∀ d ∈ S, d ≠ c) : Lib.indexByte S c = -1 := by
  induction S with
  | nil => rfl
  | cons d S ih =>
    have h1 : (d == c) = false := by rw [beq_eq_false_iff_ne]; exact h d (List.mem_cons_self ..)
    simp only [Lib.indexByte, h1, Bool.false_eq_true, if_false]
    rw [ih (fun e he => h e (List.mem_cons_of_mem _ he))]; rfl
theorem idx_hit {a b : List UInt8} {c : UInt8} (h : ∀ d ∈ a, d ≠ c) : Lib.indexByte (a ++ c :: b) c = (a.length : Int) := by
  induction a with
  | nil => simp [Lib.indexByte]
  | cons d a ih =>
    have h1 : (d == c) = false := by rw [beq_eq_false_iff_ne]; exact h d (List.mem_cons_self ..)
    rw [List.cons_append]
    simp only [Lib.indexByte, h1, Bool.false_eq_true, if_false]
    rw [ih (fun e he => h e (List.mem_cons_of_mem _ he))]
    have h2 : ((a.length : Int) == -1) = false := by rw [beq_eq_false_iff_ne]; omega
    rw [h2]; simp
/-- A list has a byte, or it hasn't. -/
theorem parted (S : List UInt8) (c : UInt8) : (∀ d ∈ S, d ≠ c) ∨ ∃ a b, S = a ++ c :: b ∧ ∀ d ∈ a, d ≠ c := by
  induction S with
  | nil => exact .inl (fun d hd => by cases hd)
  | cons x S ih =>
    by_cases hx : x = c
    · subst hx; exact .inr ⟨[], S, rfl, fun d hd => by cases hd⟩
    · rcases ih with h | ⟨a, b, e, h⟩
      · exact .inl (fun d hd => by rcases List.mem_cons.1 hd with rfl | hd; exact hx; exact h d hd)
      · exact .inr ⟨x :: a, b, by rw [e]; rfl, fun d hd => by rcases List.mem_cons.1 hd with rfl | hd; exact hx; exact h d hd⟩
/-- The name and the figures of a line that is read. -/
theorem reads_parts {S : List UInt8} {x : Ins} (h : Reads S x) : (S = nm x.1 ∧ x.2 = 0 ∧ ∀ d ∈ S, d ≠ 32) ∨ (S = nm x.1 ++ 32 :: figs x.2 ∧ ∀ d ∈ nm x.1, d ≠ 32) := by
  obtain ⟨h1, h2, h3⟩ := h
  have hn := h1
  unfold named at hn
  rw [Bool.and_eq_true, decide_eq_true_eq, decide_eq_true_eq] at hn
  have hs : ∀ d ∈ nm x.1, d ≠ 32 := fun d hd e => by
    have := (nm_small _ d hd).1
    rw [e] at this; exact absurd this (by decide)
  subst h3
  unfold line
  rw [head_named hn]
  by_cases hb : isBare x = true
  · rw [if_pos hb]
    refine .inl ⟨rfl, ?_, hs⟩
    unfold isBare at hb
    simp only [Bool.and_eq_true, beq_iff_eq] at hb
    exact hb.2
  · rw [if_neg hb]
    exact .inr ⟨by simp, hs⟩
/-- A list is parted at a byte in one way. -/
theorem part_one {a b a' b' : List UInt8} {c : UInt8} (h : a ++ c :: b = a' ++ c :: b') (ha : ∀ d ∈ a, d ≠ c) (ha' : ∀ d ∈ a', d ≠ c) : a = a' ∧ b = b' := by
  have h1 := idx_hit (b := b) ha
  rw [h, idx_hit (b := b') ha'] at h1
  have h2 := List.append_inj h (by omega)
  exact ⟨h2.1, by have := h2.2; injection this⟩
/-- A line is parted in its name and what stands behind it. -/
def Parts (S a b : List UInt8) (f : Bool) (c : UInt8) : Prop := (a = S ∧ b = [] ∧ f = false ∧ ∀ d ∈ S, d ≠ c) ∨ (S = a ++ c :: b ∧ f = true ∧ ∀ d ∈ a, d ≠ c)
theorem reads_named {S : List UInt8} {x : Ins} (h : Reads S x) : 1 ≤ x.1 ∧ x.1 ≤ 10 := by
  have hn := h.1
  unfold named at hn
  rw [Bool.and_eq_true, decide_eq_true_eq, decide_eq_true_eq] at hn
  exact hn
theorem reads_split {S a b : List UInt8} {f : Bool} {x : Ins} (hp : Parts S a b f 32) (h : Reads S x) : a = nm x.1 ∧ (b = [] ∧ x.2 = 0 ∨ b = figs x.2) := by
  rcases reads_parts h with ⟨e, e0, hno⟩ | ⟨e, hno⟩
  · rcases hp with ⟨h1, h2, _, _⟩ | ⟨h1, _, _⟩
    · exact ⟨h1.trans e, .inl ⟨h2, e0⟩⟩
    · exact absurd rfl (hno 32 (by rw [h1]; simp))
  · rcases hp with ⟨_, _, _, h2⟩ | ⟨h1, _, h2⟩
    · exact absurd rfl (h2 32 (by rw [e]; simp))
    · have := part_one (h1.symm.trans e) h2 hno
      exact ⟨this.1, .inr this.2⟩
theorem rd_nobody {S : List UInt8} (h : ∀ x, ¬ Reads S x) : rd S = none := by
  cases hr : rd S with
  | none => rfl
  | some x => exact absurd (rd_iff.1 hr) (h x)
theorem rd_zero {S a b : List UInt8} {f : Bool} (hp : Parts S a b f 32) (h : ∀ j : Nat, 1 ≤ j → j ≤ 10 → nm (j : Int) ≠ a) : rd S = none :=
  rd_nobody fun x hx => by
    have hn := reads_named hx
    refine h x.1.toNat (by omega) (by omega) ?_
    rw [show ((x.1.toNat : Nat) : Int) = x.1 by omega]
    exact (reads_split hp hx).1.symm
theorem rd_yes {S : List UInt8} {k : Nat} {z : Int} (h1 : 1 ≤ k) (h2 : k ≤ 10) (hz : In64 z) (h : line ((k : Int), z) = S) : rd S = some ((k : Int), z) :=
  rd_iff.2 ⟨by unfold named; rw [decide_eq_true (show (1 : Int) ≤ (k : Int) by omega), decide_eq_true (show (k : Int) ≤ 10 by omega)]; rfl, hz, h⟩
theorem rd_no {S a b : List UInt8} {f : Bool} {k : Nat} {z : Int} (hp : Parts S a b f 32) (h1 : 1 ≤ k) (h2 : k ≤ 10) (hk : nm (k : Int) = a) (hz : ∀ y, In64 y → b = figs y → z = y) (hz0 : b = [] → z = 0) (h : line ((k : Int), z) ≠ S) : rd S = none :=
  rd_nobody fun x hx => by
    have hn := reads_named hx
    obtain ⟨e1, e2⟩ := reads_split hp hx
    have ek : (k : Int) = x.1 := nm_one (by omega) hn (hk.trans e1)
    have ez : z = x.2 := by
      rcases e2 with ⟨eb, e0⟩ | eb
      · rw [hz0 eb, e0]
      · exact hz _ hx.2.1 eb
    exact h (by rw [ek, ez]; exact hx.2.2)
theorem pf_end {l : List UInt8} (h : ∀ c ∈ l, c ≠ 10) : ∀ (cur : List UInt8) (out : List Ins), cur ++ l ≠ [] → pf l cur out = ([], out.length, 2) := by
  induction l with
  | nil => intro cur out hne; rw [List.append_nil] at hne; rw [pf, if_neg hne]
  | cons c l ih =>
    intro cur out hne
    rw [pf, if_neg (h c (List.mem_cons_self ..))]
    exact ih (fun d hd => h d (List.mem_cons_of_mem _ hd)) _ _ (by simp)
end Go.Proofs.YtejhlenckdkonaaDoor.Cp

