/- Layer 1 in plain mathematics: vertices as pairs of numbers (the Parent, the Level); what the document says of them. -/
namespace Go.Proofs.Ytceboejhdgjgoaa.Tp
/-- The numbers of the elements that are as asked, rising, from place k on. -/
def thoseF (p : Int × Int → Bool) : Nat → List (Int × Int) → List Int
  | _, [] => []
  | k, x :: xs => if p x then (k : Int) :: thoseF p (k + 1) xs else thoseF p (k + 1) xs
def those (p : Int × Int → Bool) (vs : List (Int × Int)) : List Int := thoseF p 0 vs
theorem thoseF_snoc (p : Int × Int → Bool) (x : Int × Int) : ∀ (xs : List (Int × Int)) (k : Nat), thoseF p k (xs ++ [x]) = thoseF p k xs ++ if p x then [((k + xs.length : Nat) : Int)] else [] := by
  intro xs
  induction xs with
  | nil => intro k; simp [thoseF]
  | cons y ys ih =>
    intro k
    simp only [List.cons_append, thoseF, ih, List.length_cons]
    rw [show k + 1 + ys.length = k + (ys.length + 1) from by omega]
    split <;> simp
theorem take_snoc {vs : List (Int × Int)} {k : Nat} {x : Int × Int} (h : vs[k]? = some x) : vs.take (k + 1) = vs.take k ++ [x] := by
  rw [List.take_add_one, h]; rfl
theorem those_hit {p : Int × Int → Bool} {vs : List (Int × Int)} {k : Nat} {x : Int × Int} (h : vs[k]? = some x) (hp : p x = true) : those p (vs.take (k + 1)) = those p (vs.take k) ++ [(k : Int)] := by
  have hl := (List.getElem?_eq_some_iff.1 h).1
  unfold those
  rw [take_snoc h, thoseF_snoc, if_pos hp, List.length_take]
  congr 3
  omega
theorem those_miss {p : Int × Int → Bool} {vs : List (Int × Int)} {k : Nat} {x : Int × Int} (h : vs[k]? = some x) (hp : p x = false) : those p (vs.take (k + 1)) = those p (vs.take k) := by
  unfold those
  rw [take_snoc h, thoseF_snoc, hp]; simp
theorem thoseF_le (p : Int × Int → Bool) : ∀ (xs : List (Int × Int)) (k : Nat), (thoseF p k xs).length ≤ xs.length := by
  intro xs
  induction xs with
  | nil => intro k; simp [thoseF]
  | cons y ys ih => intro k; have := ih (k + 1); simp only [thoseF]; split <;> simp <;> omega
theorem those_le (p : Int × Int → Bool) (vs : List (Int × Int)) (k : Nat) : (those p (vs.take k)).length ≤ k := by
  have := thoseF_le p (vs.take k) 0
  rw [List.length_take] at this
  unfold those; omega
def has (zs : List Int) (z : Int) : Bool := zs.contains z
/-- From a vertex up, from Parent to Parent, each ahead of the one before, to the first of a level; -1, if there is none. -/
def upF (vs : List (Int × Int)) (level : Int) : Nat → Int → Int → Int
  | 0, _, _ => -1
  | f + 1, bound, v => if 0 ≤ v ∧ v < bound then
      match vs[v.toNat]? with
      | some x => if x.2 = level then v else upF vs level f v x.1
      | none => -1
    else -1
theorem upF_more (vs : List (Int × Int)) (level : Int) : ∀ (f g : Nat) (bound v : Int), bound ≤ f → bound ≤ g → upF vs level f bound v = upF vs level g bound v := by
  intro f
  induction f with
  | zero =>
    intro g bound v hf _
    cases g with
    | zero => rfl
    | succ g => rw [upF, upF, if_neg (by omega)]
  | succ f ih =>
    intro g bound v hf hg
    cases g with
    | zero => rw [upF, upF, if_neg (by omega)]
    | succ g =>
      rw [upF, upF]
      split
      · split
        · split
          · rfl
          · exact ih g v _ (by omega) (by omega)
        · rfl
      · rfl
def up (vs : List (Int × Int)) (level : Int) (bound : Nat) (v : Int) : Int := upF vs level bound bound v
theorem up_out {vs : List (Int × Int)} {level v : Int} {bound : Nat} (h : ¬ (0 ≤ v ∧ v < bound)) : up vs level bound v = -1 := by
  unfold up
  cases bound with
  | zero => rfl
  | succ b => rw [upF, if_neg h]
theorem up_hit {vs : List (Int × Int)} {level : Int} {bound k : Nat} {x : Int × Int} (hk : k < bound) (hx : vs[k]? = some x) (hl : x.2 = level) : up vs level bound k = k := by
  unfold up
  cases bound with
  | zero => omega
  | succ b => rw [upF, if_pos (by omega)]; simp only [Int.toNat_natCast, hx, if_pos hl]
theorem up_step {vs : List (Int × Int)} {level : Int} {bound k : Nat} {x : Int × Int} (hk : k < bound) (hx : vs[k]? = some x) (hl : ¬ x.2 = level) : up vs level bound k = up vs level k x.1 := by
  unfold up
  cases bound with
  | zero => omega
  | succ b => rw [upF, if_pos (by omega)]; simp only [Int.toNat_natCast, hx, if_neg hl]; exact upF_more _ _ _ _ _ _ (by omega) (by omega)
/-- Whatever the bound, as long as the vertex lies below it. -/
theorem up_bound {vs : List (Int × Int)} {level v : Int} {a b : Nat} (ha : v < a) (hb : v < b) (hal : a ≤ vs.length) : up vs level a v = up vs level b v := by
  by_cases h0 : 0 ≤ v
  · obtain ⟨k, rfl⟩ := Int.eq_ofNat_of_zero_le h0
    obtain ⟨x, hx⟩ : ∃ x, vs[k]? = some x := ⟨_, List.getElem?_eq_getElem (by omega)⟩
    by_cases hl : x.2 = level
    · rw [up_hit (by omega) hx hl, up_hit (by omega) hx hl]
    · rw [up_step (by omega) hx hl, up_step (by omega) hx hl]
  · rw [up_out (by omega), up_out (by omega)]
/-- One less, as an int reckons it. -/
def dec (l : Int) : Int := if l = -9223372036854775808 then 9223372036854775807 else l - 1
/-- Has vertex k the Parent and the Level that it may have? -/
def hangsX (vs : List (Int × Int)) (k : Nat) (x : Int × Int) : Bool :=
  if k = 0 then x.1 == -1 && x.2 == 0
  else if x.1 < 0 ∨ (k : Int) ≤ x.1 then false
  else decide (x.2 ≤ 3) && ((vs[x.1.toNat]?.getD (0, 0)).2 == dec x.2)
def hangs (vs : List (Int × Int)) (k : Nat) : Bool := hangsX vs k (vs[k]?.getD (0, 0))
def kidsN (vs : List (Int × Int)) (k : Nat) : Nat := (those (fun x => x.1 == (k : Int)) vs).length
/-- Has vertex k as many below it as it may have? -/
def filled (vs : List (Int × Int)) (k : Nat) : Bool :=
  if 3 ≤ (vs[k]?.getD (0, 0)).2 then true else decide (1 ≤ kidsN vs k) && decide (kidsN vs k ≤ 8)
def headOK (vs : List (Int × Int)) : Bool := decide (1 ≤ vs.length) && decide (vs.length ≤ 64) && decide ((those (fun x => x.2 == 3) vs).length ≤ 32)
def bodyTo (vs : List (Int × Int)) (k : Nat) : Bool := (List.range k).all fun j => hangs vs j && filled vs j
/-- May the tree be? -/
def may (vs : List (Int × Int)) : Bool := headOK vs && bodyTo vs vs.length
def errno (b : Bool) : Int := if b then 0 else 2
theorem bodyTo_succ (vs : List (Int × Int)) (k : Nat) : bodyTo vs (k + 1) = (bodyTo vs k && (hangs vs k && filled vs k)) := by
  simp [bodyTo, List.range_succ, List.all_append]
theorem bodyTo_false {vs : List (Int × Int)} {k n : Nat} (hk : k < n) (h : (hangs vs k && filled vs k) = false) : bodyTo vs n = false := by
  unfold bodyTo
  rw [List.all_eq_false]
  exact ⟨k, List.mem_range.2 hk, by simpa using h⟩
theorem bodyTo_all {vs : List (Int × Int)} {n : Nat} (h : ∀ j, j < n → hangs vs j = true) (f : ∀ j, j < n → filled vs j = true) : bodyTo vs n = true := by
  unfold bodyTo
  rw [List.all_eq_true]
  intro j hj
  rw [h j (List.mem_range.1 hj), f j (List.mem_range.1 hj)]; rfl
theorem may_no_hangs {vs : List (Int × Int)} {k : Nat} (hk : k < vs.length) (h : hangs vs k = false) : may vs = false := by
  unfold may; rw [bodyTo_false hk (by rw [h]; rfl)]; simp
theorem may_no_filled {vs : List (Int × Int)} {k : Nat} (hk : k < vs.length) (h : filled vs k = false) : may vs = false := by
  unfold may; rw [bodyTo_false hk (by rw [h]; simp)]; simp
end Go.Proofs.Ytceboejhdgjgoaa.Tp

