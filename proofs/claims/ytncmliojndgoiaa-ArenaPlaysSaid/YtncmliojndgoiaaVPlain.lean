/- Layer 8 in plain mathematics: numbers that live, that were freed, and their generations; what taking and freeing make of them. -/
namespace Go.Proofs.Ytncmliojndgoiaa.Vp

/-- How many numbers there are, who lives, who was freed and not taken since (the last one last), and the generations, from 0 on. -/
structure Ar where
  room : Nat
  live : List Int
  freed : List Int
  gens : List Int
def new (room : Nat) : Ar := ⟨room, [], [], List.replicate (room + 1) 0⟩
/-- The least one from k on, of so many, that doesn't live; 0: there is none. -/
def least (live : List Int) : Nat → Int → Int
  | 0, _ => 0
  | n + 1, k => if live.contains k then least live n (k + 1) else k
def pick (a : Ar) : Int := match a.freed.getLast? with
  | some g => g
  | none => least a.live a.room 1
def without (l : List Int) (g : Int) : List Int := l.filter fun z => z != g
def gen (a : Ar) (g : Int) : Int := if g < 1 ∨ (a.gens.length : Int) ≤ g then 0 else a.gens.getD g.toNat 0
def take (a : Ar) : Ar × Int × Int × Bool :=
  if pick a = 0 then (a, 0, 0, false)
  else (⟨a.room, a.live ++ [pick a], without a.freed (pick a), a.gens.set (pick a).toNat (gen a (pick a) + 1)⟩, pick a, gen a (pick a) + 1, true)
def free (a : Ar) (g : Int) : Ar × Bool :=
  if a.live.contains g then (⟨a.room, without a.live g, a.freed ++ [g], a.gens⟩, true) else (a, false)

theorem without_mem {l : List Int} {g z : Int} : z ∈ without l g ↔ z ∈ l ∧ z ≠ g := by simp [without, List.mem_filter]
theorem without_nodup {l : List Int} {g : Int} (h : l.Nodup) : (without l g).Nodup := h.filter _
theorem without_not {l : List Int} {g : Int} (h : g ∉ l) : without l g = l := by
  unfold without
  rw [List.filter_eq_self]
  intro z hz
  simp only [bne_iff_ne]
  intro e; subst e; exact h hz
theorem without_last {l : List Int} {g : Int} (h : (l ++ [g]).Nodup) : without (l ++ [g]) g = l := by
  rw [List.nodup_append] at h
  have hn : g ∉ l := fun hm => h.2.2 g hm g (List.mem_singleton_self g) rfl
  have : without (l ++ [g]) g = without l g ++ without [g] g := by simp [without, List.filter_append]
  rw [this, without_not hn]
  simp [without]
theorem without_len {l : List Int} {g : Int} (h : l.Nodup) (hg : g ∈ l) : (without l g).length + 1 = l.length := by
  induction l with
  | nil => cases hg
  | cons x l ih =>
    rw [List.nodup_cons] at h
    by_cases hx : x = g
    · subst hx
      have : without (x :: l) x = without l x := by simp [without]
      rw [this, without_not h.1]; rfl
    · have hgl : g ∈ l := by
        rcases List.mem_cons.1 hg with e | e
        · exact absurd e.symm hx
        · exact e
      have : without (x :: l) g = x :: without l g := by simp [without, hx]
      rw [this, List.length_cons, List.length_cons, ih h.2 hgl]
/-- What holds all along: who ever lived is 1 to some number; each of them lives, or is free. -/
structure Ok (a : Ar) (made : Nat) : Prop where
  most : made ≤ a.room
  live : a.live.Nodup
  freed : a.freed.Nodup
  apart : ∀ g ∈ a.live, g ∉ a.freed
  all : ∀ g : Int, (g ∈ a.live ∨ g ∈ a.freed) ↔ 1 ≤ g ∧ g ≤ made
  gens : a.gens.length = a.room + 1
  zero : ∀ k, k < a.gens.length → 0 ≤ a.gens.getD k 0
  none : ∀ g : Int, (made : Int) < g → gen a g = 0
  count : a.live.length + a.freed.length = made
  some : ∀ g : Int, 1 ≤ g → g ≤ made → 1 ≤ gen a g
theorem Ok.new (room : Nat) : Ok (new room) 0 := by
  refine ⟨Nat.zero_le _, List.nodup_nil, List.nodup_nil, (fun g h => by cases h), fun g => ?_, by simp [Vp.new], fun k hk => ?_, fun g hg => ?_, rfl, fun g h1 h2 => by omega⟩
  · simp [Vp.new]; omega
  · simp only [Vp.new, List.length_replicate] at hk
    simp [Vp.new, List.getD_eq_getElem?_getD, hk]
  · unfold gen
    split
    · rfl
    · simp [Vp.new, List.getD_eq_getElem?_getD, List.getElem?_replicate]
      split <;> rfl
theorem Ok.in_live {a : Ar} {m : Nat} (h : Ok a m) {g : Int} (hg : g ∈ a.live) : 1 ≤ g ∧ g ≤ m := (h.all g).1 (.inl hg)
theorem Ok.in_freed {a : Ar} {m : Nat} (h : Ok a m) {g : Int} (hg : g ∈ a.freed) : 1 ≤ g ∧ g ≤ m := (h.all g).1 (.inr hg)
theorem least_skip {live : List Int} : ∀ (n : Nat) (k : Int) (d : Nat), d ≤ n → (∀ j : Nat, j < d → live.contains (k + j) = true) → least live n k = least live (n - d) (k + d)
  | _, k, 0, _, _ => by simp
  | 0, k, d + 1, h, _ => by omega
  | n + 1, k, d + 1, h, hc => by
    have h0 := hc 0 (by omega)
    simp only [Int.natCast_zero, Int.add_zero] at h0
    rw [least, if_pos h0, least_skip n (k + 1) d (by omega) (fun j hj => by
      have := hc (j + 1) (by omega)
      rwa [show k + 1 + (j : Int) = k + ((j + 1 : Nat) : Int) by omega])]
    congr 1
    · omega
    · omega
/-- Who is taken: the last one that was freed; else the next one that never lived. -/
theorem Ok.pick_freed {a : Ar} {g : Int} {l : List Int} (e : a.freed = l ++ [g]) : pick a = g := by
  unfold pick; rw [e]; simp
theorem Ok.pick_new {a : Ar} {m : Nat} (h : Ok a m) (e : a.freed = []) : pick a = if m < a.room then (m : Int) + 1 else 0 := by
  have hc : ∀ g : Int, a.live.contains g = decide (1 ≤ g ∧ g ≤ m) := by
    intro g
    have := h.all g
    rw [e] at this
    simp only [List.not_mem_nil, or_false] at this
    rw [Bool.eq_iff_iff, List.contains_iff_mem, decide_eq_true_eq]
    exact this
  have hp : pick a = least a.live a.room 1 := by unfold pick; rw [e]; rfl
  rw [hp, least_skip a.room 1 m h.most (fun j hj => by rw [hc, decide_eq_true (by omega)])]
  split
  · obtain ⟨d, hd⟩ : ∃ d, a.room - m = d + 1 := ⟨a.room - m - 1, by omega⟩
    rw [hd, least, if_neg (by rw [hc]; simp; omega)]
    omega
  · rw [show a.room - m = 0 by omega, least]
theorem Ok.pick_in {a : Ar} {m : Nat} (h : Ok a m) (hp : pick a ≠ 0) : 1 ≤ pick a ∧ pick a ≤ a.room ∧ pick a ∉ a.live := by
  have hm := h.most
  rcases List.eq_nil_or_concat a.freed with e | ⟨l, g, e⟩
  · have hn := h.pick_new e
    split at hn
    · refine ⟨by omega, by omega, fun hl => ?_⟩
      have := h.in_live hl; omega
    · exact absurd hn hp
  · rw [List.concat_eq_append] at e
    rw [Ok.pick_freed e]
    have hg : g ∈ a.freed := by rw [e]; simp
    have := h.in_freed hg
    exact ⟨this.1, by omega, fun hl => h.apart g hl hg⟩
theorem gen_in {a : Ar} {g : Int} (h1 : 1 ≤ g) (h2 : g < a.gens.length) : gen a g = a.gens.getD g.toNat 0 := if_neg (by omega)
theorem Ok.take {a : Ar} {m : Nat} (h : Ok a m) (hp : pick a ≠ 0) : Ok (Vp.take a).1 (if a.freed = [] then m + 1 else m) := by
  obtain ⟨p1, p2, p3⟩ := h.pick_in hp
  have hgl := h.gens
  have hm := h.most
  have ht : (Vp.take a).1 = ⟨a.room, a.live ++ [pick a], without a.freed (pick a), a.gens.set (pick a).toNat (gen a (pick a) + 1)⟩ := by unfold Vp.take; rw [if_neg hp]
  have hlast : a.freed = [] ∧ pick a = (m : Int) + 1 ∧ m < a.room ∨ ∃ l, a.freed = l ++ [pick a] := by
    rcases List.eq_nil_or_concat a.freed with e | ⟨l, g, e⟩
    · have hn := h.pick_new e
      split at hn
      · exact .inl ⟨e, hn, by assumption⟩
      · exact absurd hn hp
    · rw [List.concat_eq_append] at e
      exact .inr ⟨l, by rw [Ok.pick_freed e]; exact e⟩
  rw [ht]
  have hz : 0 ≤ gen a (pick a) := by rw [gen_in p1 (by omega)]; exact h.zero _ (by omega)
  refine ⟨?_, ?_, without_nodup h.freed, ?_, ?_, by simp [hgl], ?_, ?_, ?_, ?_⟩
  · rcases hlast with ⟨e, _, hlt⟩ | ⟨l, e⟩
    · rw [if_pos e]; exact hlt
    · rw [if_neg (by rw [e]; simp)]; exact hm
  · rw [List.nodup_append]
    exact ⟨h.live, by simp, fun x hx y hy => by rw [List.mem_singleton] at hy; subst hy; intro e; subst e; exact p3 hx⟩
  · intro g hg hf
    rw [without_mem] at hf
    rcases List.mem_append.1 hg with hg | hg
    · exact h.apart g hg hf.1
    · rw [List.mem_singleton] at hg; exact hf.2 hg
  · intro g
    have := h.all g
    simp only [List.mem_append, List.mem_singleton, without_mem]
    rcases hlast with ⟨e, e2, _⟩ | ⟨l, e⟩
    · rw [if_pos e]
      rw [e] at this ⊢
      simp only [List.not_mem_nil, or_false, false_and] at this ⊢
      rw [this]; omega
    · rw [if_neg (by rw [e]; simp), ← this]
      have hin : pick a ∈ a.freed := by rw [e]; simp
      constructor
      · rintro ((hg | hg) | hg)
        · exact .inl hg
        · exact .inr (by rw [hg]; exact hin)
        · exact .inr hg.1
      · rintro (hg | hg)
        · exact .inl (.inl hg)
        · by_cases hgp : g = pick a
          · exact .inl (.inr hgp)
          · exact .inr ⟨hg, hgp⟩
  · intro k hk
    simp only [List.length_set] at hk
    rw [List.getD_eq_getElem?_getD, List.getElem?_set]
    split
    · split
      · simp; omega
      · omega
    · rw [← List.getD_eq_getElem?_getD]; exact h.zero k hk
  · intro g hg
    have hgm : (m : Int) < g ∧ g ≠ pick a := by
      rcases hlast with ⟨e, e2, _⟩ | ⟨l, e⟩
      · rw [if_pos e] at hg; omega
      · rw [if_neg (by rw [e]; simp)] at hg
        have := h.in_freed (g := pick a) (by rw [e]; simp)
        omega
    have h0 := h.none g hgm.1
    unfold gen at h0 ⊢
    simp only [List.length_set]
    split
    · rfl
    · rename_i hlt
      rw [if_neg hlt] at h0
      rw [List.getD_eq_getElem?_getD, List.getElem?_set_ne (by omega), ← List.getD_eq_getElem?_getD]
      exact h0
  · simp only [List.length_append, List.length_singleton]
    have hc := h.count
    rcases hlast with ⟨e, _, _⟩ | ⟨l, e⟩
    · rw [if_pos e]
      rw [e] at hc ⊢
      simp [without] at hc ⊢; omega
    · rw [if_neg (by rw [e]; simp)]
      have := without_len h.freed (g := pick a) (by rw [e]; simp)
      omega
  · intro g h1 h2
    have hroom : g ≤ a.room := by
      rcases hlast with ⟨e, _, hlt⟩ | ⟨l, e⟩
      · rw [if_pos e] at h2; omega
      · rw [if_neg (by rw [e]; simp)] at h2; omega
    unfold gen
    simp only [List.length_set]
    rw [if_neg (by omega), List.getD_eq_getElem?_getD, List.getElem?_set]
    by_cases hgp : (pick a).toNat = g.toNat
    · rw [if_pos hgp, if_pos (by omega)]
      show 1 ≤ gen a (pick a) + 1
      omega
    · rw [if_neg hgp, ← List.getD_eq_getElem?_getD, ← gen_in h1 (by omega)]
      refine h.some g h1 ?_
      rcases hlast with ⟨e, e2, _⟩ | ⟨l, e⟩
      · rw [if_pos e] at h2; omega
      · rw [if_neg (by rw [e]; simp)] at h2; exact h2
theorem take_some {a : Ar} (hp : pick a ≠ 0) : take a = (⟨a.room, a.live ++ [pick a], without a.freed (pick a), a.gens.set (pick a).toNat (gen a (pick a) + 1)⟩, pick a, gen a (pick a) + 1, true) := if_neg hp
theorem take_none {a : Ar} (hp : pick a = 0) : take a = (a, 0, 0, false) := if_pos hp
/-- Nobody is taken just if all live. -/
theorem Ok.full {a : Ar} {m : Nat} (h : Ok a m) : pick a = 0 ↔ a.live.length = a.room := by
  have hc := h.count
  have hm := h.most
  rcases List.eq_nil_or_concat a.freed with e | ⟨l, g, e⟩
  · have hn := h.pick_new e
    rw [e] at hc
    simp only [List.length_nil] at hc
    split at hn
    · constructor <;> intro hh <;> omega
    · exact ⟨fun _ => by omega, fun _ => hn⟩
  · rw [List.concat_eq_append] at e
    have := h.in_freed (g := g) (by rw [e]; simp)
    rw [Ok.pick_freed e]
    rw [e] at hc
    simp only [List.length_append, List.length_singleton] at hc
    constructor <;> intro hh <;> omega
theorem Ok.gen_self {a : Ar} {m : Nat} (h : Ok a m) (hp : pick a ≠ 0) : gen (Vp.take a).1 (pick a) = gen a (pick a) + 1 := by
  obtain ⟨p1, p2, _⟩ := h.pick_in hp
  have hgl := h.gens
  rw [take_some hp]
  rw [show gen (⟨a.room, a.live ++ [pick a], without a.freed (pick a), a.gens.set (pick a).toNat (gen a (pick a) + 1)⟩ : Ar) (pick a) = (a.gens.set (pick a).toNat (gen a (pick a) + 1)).getD (pick a).toNat 0 from gen_in p1 (by simp only [List.length_set]; omega)]
  rw [List.getD_eq_getElem?_getD, List.getElem?_set_self (by omega)]; rfl
theorem Ok.gen_other {a : Ar} {m : Nat} (h : Ok a m) (hp : pick a ≠ 0) {g : Int} (hg : g ≠ pick a) : gen (Vp.take a).1 g = gen a g := by
  obtain ⟨p1, p2, _⟩ := h.pick_in hp
  rw [take_some hp]
  unfold gen
  simp only [List.length_set]
  split
  · rfl
  · rw [List.getD_eq_getElem?_getD, List.getElem?_set_ne (by omega), ← List.getD_eq_getElem?_getD]
/-- One that lives is freed. -/
theorem free_some {a : Ar} {g : Int} (hg : g ∈ a.live) : free a g = (⟨a.room, without a.live g, a.freed ++ [g], a.gens⟩, true) := if_pos (List.contains_iff_mem.2 hg)
theorem free_none {a : Ar} {g : Int} (hg : g ∉ a.live) : free a g = (a, false) := if_neg (fun h => hg (List.contains_iff_mem.1 h))
theorem Ok.free {a : Ar} {m : Nat} (h : Ok a m) (g : Int) : Ok (Vp.free a g).1 m := by
  by_cases hg : g ∈ a.live
  · rw [free_some hg]
    have hl := h.in_live hg
    refine ⟨h.most, without_nodup h.live, ?_, ?_, ?_, h.gens, h.zero, h.none, ?_, h.some⟩
    · rw [List.nodup_append]
      refine ⟨h.freed, by simp, fun x hx y hy => ?_⟩
      rw [List.mem_singleton] at hy; subst hy
      intro e; subst e; exact h.apart x hg hx
    · intro z hz hf
      rw [without_mem] at hz
      rcases List.mem_append.1 hf with hf | hf
      · exact h.apart z hz.1 hf
      · rw [List.mem_singleton] at hf; exact hz.2 hf
    · intro z
      rw [← h.all z]
      simp only [without_mem, List.mem_append, List.mem_singleton]
      constructor
      · rintro (hz | hz | hz)
        · exact .inl hz.1
        · exact .inr hz
        · exact .inl (by rw [hz]; exact hg)
      · rintro (hz | hz)
        · by_cases hzg : z = g
          · exact .inr (.inr hzg)
          · exact .inl ⟨hz, hzg⟩
        · exact .inr (.inl hz)
    · have hc := h.count
      have hw := without_len h.live hg
      simp only [List.length_append, List.length_singleton]
      omega
  · rw [free_none hg]; exact h
/-- Who is freed last is taken first. -/
theorem pick_free {a : Ar} {g : Int} (hg : g ∈ a.live) : pick (free a g).1 = g := by
  rw [free_some hg]
  exact Ok.pick_freed rfl
theorem gen_free (a : Ar) (g z : Int) : gen (free a g).1 z = gen a z := by
  by_cases hg : g ∈ a.live
  · rw [free_some hg]; rfl
  · rw [free_none hg]
/-- So many were taken of a new one, none freed. -/
structure Fresh (a : Ar) (n i : Nat) : Prop where
  ok : Ok a i
  room : a.room = n
  live : a.live = (List.range i).map fun j : Nat => (j : Int) + 1
  freed : a.freed = []
  gen : ∀ g : Int, gen a g = if 1 ≤ g ∧ g ≤ i then 1 else 0
theorem Fresh.new (n : Nat) : Fresh (new n) n 0 :=
  ⟨Ok.new n, rfl, rfl, rfl, fun g => by
    rw [if_neg (by omega)]
    by_cases hg : 0 < g
    · exact (Ok.new n).none g (by omega)
    · exact if_pos (.inl (by omega))⟩
theorem Fresh.pick {a : Ar} {n i : Nat} (h : Fresh a n i) (hi : i < n) : pick a = (i : Int) + 1 := by
  rw [h.ok.pick_new h.freed, if_pos (by rw [h.room]; exact hi)]
theorem Fresh.take {a : Ar} {n i : Nat} (h : Fresh a n i) (hi : i < n) : ∃ b, Vp.take a = (b, (i : Int) + 1, 1, true) ∧ Fresh b n (i + 1) := by
  have hp := h.pick hi
  have hp0 : Vp.pick a ≠ 0 := by rw [hp]; omega
  have hg : Vp.gen a (Vp.pick a) = 0 := by rw [h.gen, if_neg (by omega)]
  refine ⟨(Vp.take a).1, ?_, ?_, ?_, ?_, ?_, ?_⟩
  · rw [take_some hp0, hg, hp]; rfl
  · have := h.ok.take hp0
    rwa [if_pos h.freed] at this
  · rw [take_some hp0]; exact h.room
  · rw [take_some hp0, hp]
    show a.live ++ [(i : Int) + 1] = _
    rw [h.live, List.range_succ, List.map_append]; rfl
  · rw [take_some hp0, h.freed]; rfl
  · intro g
    by_cases hgp : g = Vp.pick a
    · rw [hgp, h.ok.gen_self hp0, hg, if_pos (by omega)]; rfl
    · rw [h.ok.gen_other hp0 hgp, h.gen]
      rw [hp] at hgp
      by_cases h1 : 1 ≤ g ∧ g ≤ (i : Int)
      · rw [if_pos h1, if_pos (by omega)]
      · rw [if_neg h1, if_neg (by omega)]
theorem Fresh.full {a : Ar} {n : Nat} (h : Fresh a n n) : Vp.take a = (a, 0, 0, false) :=
  take_none (h.ok.full.2 (by rw [h.live, h.room]; simp))
theorem Fresh.lives {a : Ar} {n i : Nat} (h : Fresh a n i) (g : Int) : g ∈ a.live ↔ 1 ≤ g ∧ g ≤ i := by
  have := h.ok.all g
  rw [h.freed] at this
  simpa using this
/-- All live, and none is free: one freed is taken again at once. -/
theorem Ok.again {a : Ar} {m : Nat} (h : Ok a m) (hf : a.freed = []) {g : Int} (hg : g ∈ a.live) : ∃ b, Vp.take (Vp.free a g).1 = (b, g, Vp.gen a g + 1, true) ∧ Ok b m ∧ b.freed = [] ∧ b.live.length = a.live.length ∧ b.room = a.room ∧ Vp.gen b g = Vp.gen a g + 1 := by
  have hl := h.in_live hg
  have hp : Vp.pick (Vp.free a g).1 = g := pick_free hg
  have hp0 : Vp.pick (Vp.free a g).1 ≠ 0 := by rw [hp]; omega
  have h2 := h.free g
  have hfr : (Vp.free a g).1.freed = [g] := by rw [free_some hg]; show a.freed ++ [g] = _; rw [hf]; rfl
  refine ⟨(Vp.take (Vp.free a g).1).1, ?_, ?_, ?_, ?_, ?_, ?_⟩
  · rw [take_some hp0, hp, gen_free]
  · have := h2.take hp0
    rwa [if_neg (by rw [hfr]; simp)] at this
  · rw [take_some hp0, hp, hfr]; simp [without]
  · rw [take_some hp0, hp, free_some hg]
    have := without_len h.live hg
    simp; omega
  · rw [take_some hp0, free_some hg]
  · have := h2.gen_self hp0
    rwa [hp, gen_free] at this
end Go.Proofs.Ytncmliojndgoiaa.Vp

