/- Who sleeps until when, in plain mathematics: pairs of a number and an end, in the turn in which they are to wake; and how timers in order stand for them. -/
import Derived.Test.YtgknbjiocgcmdaaHSort
namespace Go.Proofs.Ytgknbjiocgcmdaa.Kp
abbrev Tm := Go.Proofs.Ytgknbjiocgcmdaa.Hp.Tm
set_option linter.unusedVariables false

/-- Who, and until when. -/
abbrev On := Int × Int
def upto (L : List On) (t : Int) : List On := L.filter fun o => decide (o.2 ≤ t)
def beyond (L : List On) (t : Int) : List On := L.filter fun o => !decide (o.2 ≤ t)
/-- Who is to wake first stands first. -/
def Ends (L : List On) : Prop := L.Pairwise fun a b => a.2 ≤ b.2
def without (L : List On) (g : Int) : List On := L.filter fun o => !(o.1 == g)
theorem ends_nil : Ends [] := List.Pairwise.nil
theorem upto_cons (x : On) (L : List On) (t : Int) : upto (x :: L) t = if x.2 ≤ t then x :: upto L t else upto L t := by
  unfold upto
  by_cases h : x.2 ≤ t
  · rw [if_pos h, List.filter_cons_of_pos (by simpa using h)]
  · rw [if_neg h, List.filter_cons_of_neg (by simpa using h)]
theorem beyond_cons (x : On) (L : List On) (t : Int) : beyond (x :: L) t = if x.2 ≤ t then beyond L t else x :: beyond L t := by
  unfold beyond
  by_cases h : x.2 ≤ t
  · rw [if_pos h, List.filter_cons_of_neg (by simp [h])]
  · rw [if_neg h, List.filter_cons_of_pos (by simp [h])]
theorem upto_none {L : List On} {t : Int} (h : ∀ o ∈ L, t < o.2) : upto L t = [] ∧ beyond L t = L := by
  refine ⟨List.filter_eq_nil_iff.2 fun o ho => ?_, List.filter_eq_self.2 fun o ho => ?_⟩
  · have := h o ho; simp; omega
  · have := h o ho; simp; omega
theorem upto_all {L : List On} {t : Int} (h : ∀ o ∈ L, o.2 ≤ t) : upto L t = L ∧ beyond L t = [] := by
  refine ⟨List.filter_eq_self.2 fun o ho => ?_, List.filter_eq_nil_iff.2 fun o ho => ?_⟩
  · simpa using h o ho
  · simpa using h o ho
/-- In order, those that are to wake by then stand ahead of the others. -/
theorem split {L : List On} (h : Ends L) (t : Int) : L = upto L t ++ beyond L t := by
  induction L with
  | nil => rfl
  | cons x L ih =>
    obtain ⟨h1, h2⟩ := List.pairwise_cons.1 h
    rw [upto_cons, beyond_cons]
    by_cases hx : x.2 ≤ t
    · rw [if_pos hx, if_pos hx, List.cons_append, ← ih h2]
    · rw [if_neg hx, if_neg hx]
      obtain ⟨e1, e2⟩ := upto_none (L := L) (t := t) (fun o ho => by have := h1 o ho; omega)
      rw [e1, e2]
      rfl
theorem take_upto {L : List On} (h : Ends L) (t : Int) : L.take (upto L t).length = upto L t ∧ L.drop (upto L t).length = beyond L t := by
  have e := split h t
  generalize upto L t = a at *
  generalize beyond L t = b at *
  subst e
  exact ⟨List.take_left, List.drop_left⟩
theorem upto_le (L : List On) (t : Int) : (upto L t).length ≤ L.length := List.length_filter_le _ _
theorem ends_upto {L : List On} (h : Ends L) (t : Int) : Ends (upto L t) := List.Pairwise.filter _ h
theorem ends_beyond {L : List On} (h : Ends L) (t : Int) : Ends (beyond L t) := List.Pairwise.filter _ h
theorem ends_without {L : List On} (h : Ends L) (g : Int) : Ends (without L g) := List.Pairwise.filter _ h
theorem ends_take {L : List On} (h : Ends L) (k : Nat) : Ends (L.take k) := List.Pairwise.sublist (List.take_sublist k L) h
/-- The document's way to find the place: behind the last one that isn't to wake later. -/
theorem place_hit {L : List On} (h : Ends L) {i : Nat} {x : On} (hx : L[i]? = some x) {t : Int} (ht : x.2 ≤ t) : (upto (L.take (i + 1)) t).length = i + 1 := by
  have hl := (List.getElem?_eq_some_iff.1 hx).1
  have e : upto (L.take (i + 1)) t = L.take (i + 1) := (upto_all fun o ho => by
    obtain ⟨j, hj⟩ := List.mem_iff_getElem?.1 ho
    rw [List.getElem?_take] at hj
    split at hj
    · rename_i hji
      by_cases e : j = i
      · subst e; rw [hx] at hj; injection hj with hj; subst hj; exact ht
      · have := List.pairwise_iff_getElem.1 h j i (by omega) hl (by omega)
        have h1 := (List.getElem?_eq_some_iff.1 hj).2
        have h2 := (List.getElem?_eq_some_iff.1 hx).2
        rw [h1, h2] at this
        omega
    · cases hj).1
  rw [e, List.length_take]
  omega
theorem place_miss {L : List On} {i : Nat} {x : On} (hx : L[i]? = some x) {t : Int} (ht : ¬ x.2 ≤ t) : upto (L.take (i + 1)) t = upto (L.take i) t := by
  rw [List.take_add_one, hx]
  unfold upto
  rw [List.filter_append]
  simp [ht]
/-- One more sleeps, behind all that aren't to wake later. -/
def ins (L : List On) (x : On) : List On := upto L x.2 ++ [x] ++ beyond L x.2
theorem ends_ins {L : List On} (h : Ends L) (x : On) : Ends (ins L x) := by
  have hu : ∀ o ∈ upto L x.2, o.2 ≤ x.2 := fun o ho => by simpa using (List.mem_filter.1 ho).2
  have hb : ∀ o ∈ beyond L x.2, x.2 ≤ o.2 := fun o ho => by have := (List.mem_filter.1 ho).2; simp at this; omega
  have hs := h
  unfold Ends at hs
  rw [split h x.2] at hs
  obtain ⟨p1, p2, p3⟩ := List.pairwise_append.1 hs
  unfold ins
  rw [List.append_assoc]
  refine List.pairwise_append.2 ⟨p1, List.pairwise_cons.2 ⟨hb, p2⟩, fun a ha b hb' => ?_⟩
  rcases List.mem_cons.1 hb' with e | e
  · rw [e]; exact hu a ha
  · exact p3 a ha b e
theorem ins_length (L : List On) (x : On) (h : Ends L) : (ins L x).length = L.length + 1 := by
  have e := congrArg List.length (split h x.2)
  unfold ins
  simp only [List.length_append, List.length_singleton] at *
  omega
/-- Two ticks wake whom one of both together wakes, in the same turn. -/
theorem two {L : List On} (h : Ends L) {s t : Int} (hst : s ≤ t) : upto L s ++ upto (beyond L s) t = upto L t ∧ beyond (beyond L s) t = beyond L t := by
  induction L with
  | nil => exact ⟨rfl, rfl⟩
  | cons x L ih =>
    obtain ⟨h1, h2⟩ := List.pairwise_cons.1 h
    obtain ⟨i1, i2⟩ := ih h2
    by_cases hx : x.2 ≤ s
    · rw [upto_cons, if_pos hx, beyond_cons, if_pos hx, upto_cons, if_pos (by omega), beyond_cons, if_pos (by omega)]
      exact ⟨by rw [List.cons_append, i1], i2⟩
    · obtain ⟨e1, e2⟩ := upto_none (L := x :: L) (t := s) (fun o ho => by
        rcases List.mem_cons.1 ho with e | e
        · rw [e]; omega
        · have := h1 o e; omega)
      rw [e1, e2]
      exact ⟨rfl, rfl⟩
theorem upto_upto (L : List On) {s t : Int} (hst : s ≤ t) : upto (upto L t) s = upto L s := by
  unfold upto
  rw [List.filter_filter]
  congr 1
  funext o
  by_cases h : o.2 ≤ s
  · have : o.2 ≤ t := by omega
    simp [h, this]
  · simp [h]
theorem without_upto (L : List On) (g t : Int) : without (upto L t) g = upto (without L g) t := by
  unfold without upto
  rw [List.filter_filter, List.filter_filter]
  congr 1
  funext o
  exact Bool.and_comm _ _
theorem without_beyond (L : List On) (g t : Int) : without (beyond L t) g = beyond (without L g) t := by
  unfold without beyond
  rw [List.filter_filter, List.filter_filter]
  congr 1
  funext o
  exact Bool.and_comm _ _

/-! ### Timers in order stand for those that sleep -/
def on (x : Tm) : On := (x.2.2, x.1)
theorem ends_on {S : List Tm} (h : Hp.Sorted S) : Ends (S.map on) := by
  unfold Ends
  rw [List.pairwise_map]
  refine h.imp fun hle => ?_
  unfold Hp.Le Hp.Lt at hle
  unfold on
  simp only
  omega
theorem without_on (S : List Tm) (g : Int) : (Hp.others S g).map on = without (S.map on) g := by
  unfold Hp.others without
  rw [List.filter_map]
  rfl
/-- A timer that comes behind all others, with a Seq above all: it stands behind those that aren't to wake later. -/
theorem srt_more {l S : List Tm} {till k g : Int} (hS : Hp.srt l = S) (hk : ∀ x ∈ l, x.2.1 < k) : (Hp.srt (l ++ [(till, k, g)])).map on = ins (S.map on) (g, till) := by
  have hs : Hp.Sorted S := by rw [← hS]; exact Hp.srt_sorted l
  have hp : S.Perm l := by rw [← hS]; exact Hp.srt_perm l
  have he := ends_on hs
  obtain ⟨n, hn⟩ : ∃ n, n = (upto (S.map on) till).length := ⟨_, rfl⟩
  obtain ⟨e1, e2⟩ := take_upto he till
  rw [← hn] at e1 e2
  have hput : Hp.Sorted (S.take n ++ [(till, k, g)] ++ S.drop n) := by
    refine Hp.put_sorted hs (fun j x hj hx => ?_) (fun x hx => ?_)
    · have h1 : (S.map on)[j]? = some (on x) := by rw [List.getElem?_map, hx]; rfl
      have h2 : on x ∈ (S.map on).take n := List.mem_of_getElem? (i := j) (by rw [List.getElem?_take, if_pos hj]; exact h1)
      rw [e1] at h2
      have h3 := (List.mem_filter.1 h2).2
      have h4 := hk x (hp.mem_iff.1 (List.mem_of_getElem? hx))
      unfold on at h3
      simp at h3
      unfold Hp.Lt
      simp only
      omega
    · have h1 : (S.map on)[n]? = some (on x) := by rw [List.getElem?_map, hx]; rfl
      have h2 : on x ∈ (S.map on).drop n := List.mem_of_getElem? (i := 0) (by rw [List.getElem?_drop]; exact h1)
      rw [e2] at h2
      have h3 := (List.mem_filter.1 h2).2
      unfold on at h3
      simp at h3
      unfold Hp.Lt
      simp only
      omega
  rw [Hp.srt_of hput ((Hp.put_perm S (till, k, g) n).trans (hp.append_right _))]
  rw [List.map_append, List.map_append, List.map_take, List.map_drop, e1, e2]
  rfl
/-! ### Who sleeps -/
def ids (S : List On) : List Int := S.map Prod.fst
def has (S : List On) (g : Int) : Bool := S.any fun o => o.1 == g
theorem has_mem {S : List On} {g : Int} : has S g = true ↔ g ∈ ids S := by
  unfold has ids
  rw [List.any_eq_true, List.mem_map]
  constructor
  · rintro ⟨o, ho, he⟩; exact ⟨o, ho, by simpa using he⟩
  · rintro ⟨o, ho, he⟩; exact ⟨o, ho, by simpa using he⟩
theorem has_contains (S : List On) (g : Int) : (ids S).contains g = has S g := by
  rw [Bool.eq_iff_iff, List.contains_iff_mem, has_mem]
theorem without_same {S : List On} {g : Int} (h : has S g = false) : without S g = S := by
  refine List.filter_eq_self.2 fun o ho => ?_
  cases e : (o.1 == g)
  · rfl
  · exact absurd (List.any_eq_true.2 ⟨o, ho, e⟩) (by unfold has at h; rw [h]; simp)
theorem without_lt {S : List On} {g : Int} (h : has S g = true) : (without S g).length < S.length := by
  obtain ⟨o, ho, he⟩ := List.any_eq_true.1 h
  unfold without
  exact List.length_filter_lt_length_iff_exists.2 ⟨o, ho, by simp at he; simp [he]⟩
theorem without_le (S : List On) (g : Int) : (without S g).length ≤ S.length := List.length_filter_le _ _
theorem upto_append (a b : List On) (t : Int) : upto (a ++ b) t = upto a t ++ upto b t := List.filter_append ..
theorem beyond_append (a b : List On) (t : Int) : beyond (a ++ b) t = beyond a t ++ beyond b t := List.filter_append ..
theorem beyond_le (S : List On) (t : Int) : (beyond S t).length ≤ S.length := List.length_filter_le _ _
/-- What is taken as long as its time has come is what is to wake by then. -/
theorem due_on {l l' D : List Tm} {t : Int} (h : Hp.srt l = D ++ Hp.srt l') (hD : ∀ x ∈ D, x.1 ≤ t) (hl : ∀ x ∈ l', t < x.1) : D.map on = upto ((Hp.srt l).map on) t ∧ (Hp.srt l').map on = beyond ((Hp.srt l).map on) t := by
  obtain ⟨e1, e2⟩ := upto_all (L := D.map on) (t := t) (fun o ho => by
    obtain ⟨x, hx, rfl⟩ := List.mem_map.1 ho
    exact hD x hx)
  obtain ⟨e3, e4⟩ := upto_none (L := (Hp.srt l').map on) (t := t) (fun o ho => by
    obtain ⟨x, hx, rfl⟩ := List.mem_map.1 ho
    exact hl x ((Hp.srt_perm l').mem_iff.1 hx))
  rw [h, List.map_append, upto_append, beyond_append, e1, e2, e3, e4, List.append_nil, List.nil_append]
  exact ⟨rfl, rfl⟩
/-- The first one taken from a heap is the first one in order. -/
theorem srt_pop {l l' : List Tm} {x : Tm} (h : Hp.Heap l) (hx : l[0]? = some x) (hp : (x :: l').Perm l) : Hp.srt l = x :: Hp.srt l' := by
  obtain ⟨h1, h2, h3⟩ := Hp.take_both h hx (Hp.srt_sorted l) (Hp.srt_perm l) hp
  cases e : Hp.srt l with
  | nil => rw [e] at h3; simp at h3
  | cons y s =>
    rw [e] at h1 h2 h3
    simp at h3
    subst h3
    rw [Hp.srt_of h1 h2]
    rfl
theorem srt_wake {l l' : List Tm} {g : Int} (hp : l'.Perm (Hp.others l g)) : (Hp.srt l').map on = without ((Hp.srt l).map on) g := by
  rw [← without_on, Hp.srt_of (Hp.others_sorted (Hp.srt_sorted l) g) ((Hp.others_perm (Hp.srt_perm l) g).trans hp.symm)]
theorem others_on (l : List Tm) (g : Int) : (Hp.others l g).length = (without ((Hp.srt l).map on) g).length := by
  rw [← without_on, List.length_map]
  exact ((Hp.others_perm (Hp.srt_perm l) g).length_eq).symm
theorem ids_on (S : List Tm) : S.map (fun x => x.2.2) = ids (S.map on) := by
  unfold ids
  rw [List.map_map]
  rfl
/-- What Sleep tells, and who sleeps then. -/
def code (S : List On) (g n : Int) : Int := if g < 1 ∨ n < 1 ∨ 1000 < n then 1 else if has S g = true then 5 else 0
def slp (S : List On) (now g n : Int) : List On := if g < 1 ∨ n < 1 ∨ 1000 < n then S else if has S g = true then S else ins S (g, now + n)
/-- What Tick tells, what time it is then, who wakes, and who sleeps then. -/
def tcode (now n : Int) : Int := if n < 0 then 1 else if 1099511627776 - now < n then 7 else 0
def tnow (now n : Int) : Int := if n < 0 then now else if 1099511627776 - now < n then now else now + n
def twoke (S : List On) (now n : Int) : List On := if n < 0 then [] else if 1099511627776 - now < n then [] else upto S (now + n)
def trest (S : List On) (now n : Int) : List On := if n < 0 then S else if 1099511627776 - now < n then S else beyond S (now + n)
theorem tick_ok (S : List On) {now n : Int} (h0 : 0 ≤ n) (h1 : now + n ≤ 1099511627776) : tcode now n = 0 ∧ tnow now n = now + n ∧ twoke S now n = upto S (now + n) ∧ trest S now n = beyond S (now + n) := by
  have a1 : ¬ n < 0 := by omega
  have a2 : ¬ 1099511627776 - now < n := by omega
  unfold tcode tnow twoke trest
  rw [if_neg a1, if_neg a2, if_neg a1, if_neg a2, if_neg a1, if_neg a2, if_neg a1, if_neg a2]
  exact ⟨rfl, rfl, rfl, rfl⟩
theorem tick_no (S : List On) {now n : Int} (h : n < 0 ∨ 1099511627776 < now + n) : tcode now n ≠ 0 ∧ tnow now n = now ∧ twoke S now n = [] ∧ trest S now n = S := by
  unfold tcode tnow twoke trest
  by_cases a1 : n < 0
  · rw [if_pos a1, if_pos a1, if_pos a1, if_pos a1]
    exact ⟨by omega, rfl, rfl, rfl⟩
  · have a2 : 1099511627776 - now < n := by omega
    rw [if_neg a1, if_pos a2, if_neg a1, if_pos a2, if_neg a1, if_pos a2, if_neg a1, if_pos a2]
    exact ⟨by omega, rfl, rfl, rfl⟩
theorem ids_append (a b : List On) : ids (a ++ b) = ids a ++ ids b := List.map_append
theorem ids_length (a : List On) : (ids a).length = a.length := List.length_map _
theorem parts_length (S : List On) (t : Int) : (upto S t).length + (beyond S t).length = S.length := by
  induction S with
  | nil => rfl
  | cons x S ih =>
    rw [upto_cons, beyond_cons]
    by_cases h : x.2 ≤ t
    · rw [if_pos h, if_pos h, List.length_cons, List.length_cons]; omega
    · rw [if_neg h, if_neg h, List.length_cons, List.length_cons]; omega
theorem twoke_le (S : List On) (now n : Int) : (twoke S now n).length ≤ S.length := by
  unfold twoke
  split
  · exact Nat.zero_le _
  · split
    · exact Nat.zero_le _
    · exact upto_le _ _
theorem trest_le (S : List On) (now n : Int) : (trest S now n).length ≤ S.length := by
  unfold trest
  split
  · exact Nat.le_refl _
  · split
    · exact Nat.le_refl _
    · exact beyond_le _ _
/-- Who wakes and who sleeps on are all together. -/
theorem woke_length (S : List On) (now n : Int) : (twoke S now n).length + (trest S now n).length = S.length := by
  unfold twoke trest
  split
  · simp
  · split
    · simp
    · exact parts_length S (now + n)
end Go.Proofs.Ytgknbjiocgcmdaa.Kp

