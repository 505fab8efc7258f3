/- Contracts and plain mathematics, put together by program (wip/merge.py) out of: TPlain TShape TTree. -/
import Derived.Test.YthbeldmgaioemaaDoorM2
/- Layer 3 in plain mathematics: a text read byte by byte, as far as it goes; and a text read vertex by vertex: they come to the same. -/
namespace Go.Proofs.YthbeldmgaioemaaDoor.Tx

/-- The letter of a level. -/
def lt : Nat → UInt8 | 0 => 109 | 1 => 110 | 2 => 99 | _ => 112
/-- How far a text has been read: the vertices so far; who is above those of each level; the level; the byte before. -/
structure St where
  vs : List (Int × Int)
  ab : Nat → Int
  lv : Nat
  q : UInt8
def st0 : St := ⟨[], fun j => if j = 0 then -1 else 0, 0, 0⟩
def goes (q c : UInt8) (l : Nat) : Bool :=
  if q = 0 ∨ q = 40 then c == lt l
  else if q = 109 ∨ q = 110 ∨ q = 99 then c == 40
  else decide (0 < l) && (c == lt l || c == 41)
def adv (σ : St) (c : UInt8) : St :=
  if c = 40 then ⟨σ.vs, fun j => if j = σ.lv + 1 then (σ.vs.length : Int) - 1 else σ.ab j, σ.lv + 1, 40⟩
  else if c = 41 then ⟨σ.vs, σ.ab, σ.lv - 1, 41⟩
  else ⟨σ.vs ++ [(σ.ab σ.lv, (σ.lv : Int))], σ.ab, σ.lv, c⟩
/-- As far as it goes: what it came to, and what is left. -/
def run (σ : St) : List UInt8 → St × List UInt8
  | [] => (σ, [])
  | c :: cs => if goes σ.q c σ.lv then run (adv σ c) cs else (σ, c :: cs)
theorem run_yes {σ : St} {c : UInt8} {cs : List UInt8} (h : goes σ.q c σ.lv = true) : run σ (c :: cs) = run (adv σ c) cs := by rw [run, if_pos h]
theorem run_no {σ : St} {c : UInt8} {cs : List UInt8} (h : goes σ.q c σ.lv = false) : run σ (c :: cs) = (σ, c :: cs) := by rw [run, if_neg (by rw [h]; exact Bool.false_ne_true)]
/-- What a text is parsed to: the vertices, the place, the error. -/
def parse (l : List UInt8) : List (Int × Int) × Nat × Int :=
  if (run st0 l).2 = [] ∧ (run st0 l).1.lv = 0 ∧ Tp.may (run st0 l).1.vs = true then ((run st0 l).1.vs, 0, 0)
  else ([], l.length - (run st0 l).2.length, 2)

def Opn (σ : St) : Prop := σ.q = 0 ∨ σ.q = 40
def Whl (σ : St) : Prop := σ.q = 112 ∨ σ.q = 41
theorem goes_opn {σ : St} (h : Opn σ) (c : UInt8) (l : Nat) : goes σ.q c l = (c == lt l) := by
  unfold goes; exact if_pos h
theorem goes_whl {σ : St} (h : Whl σ) (c : UInt8) (l : Nat) : goes σ.q c l = (decide (0 < l) && (c == lt l || c == 41)) := by
  unfold goes
  rcases h with h | h <;> rw [h] <;> rfl
theorem goes_letter (c : UInt8) (k l : Nat) (hk : k ≤ 2) : goes (lt k) c l = (c == 40) := by
  rcases (show k = 0 ∨ k = 1 ∨ k = 2 by omega) with rfl | rfl | rfl <;> rfl
theorem lt_no40 (k : Nat) : lt k ≠ 40 := by
  unfold lt; split <;> decide
theorem lt_no41 (k : Nat) : lt k ≠ 41 := by
  unfold lt; split <;> decide
theorem adv_letter (σ : St) (k : Nat) : adv σ (lt k) = ⟨σ.vs ++ [(σ.ab σ.lv, (σ.lv : Int))], σ.ab, σ.lv, lt k⟩ := by
  unfold adv; rw [if_neg (lt_no40 k), if_neg (lt_no41 k)]
theorem adv_open (σ : St) : adv σ 40 = ⟨σ.vs, fun j => if j = σ.lv + 1 then (σ.vs.length : Int) - 1 else σ.ab j, σ.lv + 1, 40⟩ := rfl
theorem adv_shut (σ : St) : adv σ 41 = ⟨σ.vs, σ.ab, σ.lv - 1, 41⟩ := rfl

/-- What a vertex was read to: the vertices, what is left, whether all of it was there. -/
structure Got where
  t : List (Int × Int)
  l : List UInt8
  is : Bool
def more (V : List (Int × Int) → List UInt8 → Got) (c0 : UInt8) : Nat → Got → Got
  | 0, g => g
  | f + 1, g => if g.is = true ∧ g.l.head? = some c0 then more V c0 f (V g.t g.l) else g
def shut (g : Got) : Got :=
  if g.is = true then if g.l.head? = some 41 then ⟨g.t, g.l.tail, true⟩ else ⟨g.t, g.l, false⟩ else g
/-- A vertex of level 3 - d below p, read from a text. -/
def vx : Nat → Int → List (Int × Int) → List UInt8 → Got
  | 0, p, t, l => if l.head? = some 112 then ⟨t ++ [(p, 3)], l.tail, true⟩ else ⟨t, l, false⟩
  | d + 1, p, t, l =>
    if l.head? = some (lt (2 - d)) then
      if l.tail.head? = some 40 then
        shut (more (vx d t.length) (lt (3 - d)) l.length (vx d t.length (t ++ [(p, ((2 - d : Nat) : Int))]) l.tail.tail))
      else ⟨t ++ [(p, ((2 - d : Nat) : Int))], l.tail, false⟩
    else ⟨t, l, false⟩

theorem more_len {V : List (Int × Int) → List UInt8 → Got} {c0 : UInt8} (hV : ∀ t l, (V t l).l.length ≤ l.length) : ∀ (f : Nat) (g : Got), (more V c0 f g).l.length ≤ g.l.length := by
  intro f
  induction f with
  | zero => intro g; exact Nat.le_refl _
  | succ f ih =>
    intro g
    rw [more]
    split
    · exact Nat.le_trans (ih _) (hV _ _)
    · exact Nat.le_refl _
theorem tail_le (l : List UInt8) : l.tail.length ≤ l.length := by rw [List.length_tail]; omega
theorem shut_len (g : Got) : (shut g).l.length ≤ g.l.length := by
  unfold shut
  split
  · split
    · exact tail_le _
    · exact Nat.le_refl _
  · exact Nat.le_refl _
theorem vx_len : ∀ (d : Nat) (p : Int) (t : List (Int × Int)) (l : List UInt8), (vx d p t l).l.length ≤ l.length := by
  intro d
  induction d with
  | zero => intro p t l; rw [vx]; split <;> simp
  | succ d ih =>
    intro p t l
    rw [vx]
    split
    · split
      · exact Nat.le_trans (shut_len _) (Nat.le_trans (more_len (fun t l => ih _ _ _) _ _) (Nat.le_trans (ih _ _ _) (Nat.le_trans (tail_le _) (tail_le _))))
      · exact tail_le _
    · exact Nat.le_refl _
theorem head_cons {l : List UInt8} {c : UInt8} (h : l.head? = some c) : l = c :: l.tail := by
  cases l with
  | nil => cases h
  | cons a al => injection h with h; subst h; rfl
theorem vx_less {d : Nat} (hd : d ≤ 3) (p : Int) (t : List (Int × Int)) {l : List UInt8} (h : l.head? = some (lt (3 - d))) : (vx d p t l).l.length < l.length := by
  have hl := head_cons h
  have hn : l.tail.length < l.length := by rw [hl]; simp
  cases d with
  | zero => rw [vx, if_pos (show l.head? = some 112 from h)]; exact hn
  | succ d =>
    rw [vx, if_pos (by rw [h]; congr 2; omega)]
    split
    · exact Nat.lt_of_le_of_lt (Nat.le_trans (shut_len _) (Nat.le_trans (more_len (fun t l => vx_len _ _ _ _) _ _) (Nat.le_trans (vx_len _ _ _ _) (tail_le _)))) hn
    · exact hn

/-- What the reading of a vertex that began at σ, l has come to. -/
def Came (σ : St) (l : List UInt8) (lv : Nat) (ab : Nat → Int) (g : Got) : Prop :=
  (g.is = true → ∃ σ', run σ l = run σ' g.l ∧ σ'.vs = g.t ∧ σ'.lv = lv ∧ Whl σ' ∧ ∀ j, j ≤ lv → σ'.ab j = ab j)
  ∧ (g.is = false → ∃ σ', run σ l = (σ', g.l) ∧ (g.l = [] → σ'.lv = 0 → σ'.vs.length ≤ 1))
theorem more_came {d : Nat} (hd : d ≤ 2) {own : Int} (hV : ∀ (σ : St) (l : List UInt8), σ.lv = 3 - d → Whl σ → l.head? = some (lt σ.lv) → σ.ab σ.lv = own → Came σ l σ.lv σ.ab (vx d own σ.vs l))
    {σ : St} {l : List UInt8} {ab : Nat → Int} (hown : ab (3 - d) = own) : ∀ (f : Nat) (g : Got), g.l.length ≤ f → Came σ l (3 - d) ab g →
      Came σ l (3 - d) ab (more (vx d own) (lt (3 - d)) f g) ∧ ¬ ((more (vx d own) (lt (3 - d)) f g).is = true ∧ (more (vx d own) (lt (3 - d)) f g).l.head? = some (lt (3 - d))) := by
  intro f
  induction f with
  | zero =>
    intro g hf hg
    refine ⟨hg, ?_⟩
    rintro ⟨_, h⟩
    have e : g.l = [] := List.length_eq_zero_iff.1 (by omega)
    rw [more, e] at h
    cases h
  | succ f ih =>
    intro g hf hg
    rw [more]
    split
    · rename_i h
      obtain ⟨hi, hh⟩ := h
      have hlt := vx_less (d := d) (by omega) own g.t hh
      refine ih _ (by omega) ?_
      obtain ⟨σ', e1, e2, e3, e4, e5⟩ := hg.1 hi
      have K := hV σ' g.l e3 e4 (by rw [e3]; exact hh) (by rw [e3, e5 _ (Nat.le_refl _), hown])
      rw [e2] at K
      refine ⟨fun hi' => ?_, fun hi' => ?_⟩
      · obtain ⟨σ2, f1, f2, f3, f4, f5⟩ := K.1 hi'
        exact ⟨σ2, e1.trans f1, f2, by rw [f3, e3], f4, fun j hj => by rw [f5 j (by omega), e5 j hj]⟩
      · obtain ⟨σ2, f1, f2⟩ := K.2 hi'
        exact ⟨σ2, e1.trans f1, f2⟩
    · rename_i h
      exact ⟨hg, h⟩
theorem vx_came : ∀ (d : Nat), d ≤ 3 → ∀ (σ : St) (l : List UInt8), σ.lv = 3 - d → (Opn σ ∨ (Whl σ ∧ 0 < σ.lv ∧ l.head? = some (lt σ.lv))) → (σ.lv = 0 → σ.vs = []) →
    Came σ l σ.lv σ.ab (vx d (σ.ab σ.lv) σ.vs l) := by
  intro d
  induction d with
  | zero =>
    intro _ σ l hlv ho _
    have hgo : ∀ c, l.head? = some c → goes σ.q c σ.lv = (c == 112) := by
      intro c hc
      rcases ho with ho | ⟨hw, h0, hh⟩
      · rw [goes_opn ho, hlv]; rfl
      · rw [hc] at hh
        injection hh with hh
        subst hh
        rw [goes_whl hw, hlv]; rfl
    rw [vx]
    split
    · rename_i h
      refine ⟨fun _ => ?_, fun h => by cases h⟩
      refine ⟨adv σ 112, ?_, ?_, ?_, ?_, ?_⟩
      · rw [head_cons h]
        exact run_yes (by rw [hgo _ h]; rfl)
      · rw [show (112 : UInt8) = lt 3 from rfl, adv_letter, hlv]; rfl
      · rw [show (112 : UInt8) = lt 3 from rfl, adv_letter]
      · rw [show (112 : UInt8) = lt 3 from rfl, adv_letter]; exact .inl rfl
      · intro j _; rw [show (112 : UInt8) = lt 3 from rfl, adv_letter]
    · rename_i h
      refine ⟨(fun h => by cases h), fun _ => ?_⟩
      cases l with
      | nil => exact ⟨σ, rfl, fun _ h0 => by omega⟩
      | cons c cs =>
        refine ⟨σ, run_no ?_, fun h => by cases h⟩
        rw [hgo c rfl]
        exact beq_eq_false_iff_ne.2 (fun e => h (by rw [e]; rfl))
  | succ d ih =>
    intro hd3 σ l hlv ho hz
    have hlv' : σ.lv = 2 - d := by omega
    have hgo : ∀ c, l.head? = some c → goes σ.q c σ.lv = (c == lt (2 - d)) := by
      intro c hc
      rcases ho with ho | ⟨hw, h0, hh⟩
      · rw [goes_opn ho, hlv']
      · rw [hc] at hh
        injection hh with hh
        subst hh
        rw [goes_whl hw, decide_eq_true h0, hlv']; simp
    rw [vx]
    split
    · rename_i h
      have e1 : run σ l = run ⟨σ.vs ++ [(σ.ab σ.lv, (σ.lv : Int))], σ.ab, σ.lv, lt (2 - d)⟩ l.tail := by
        conv => lhs; rw [head_cons h]
        rw [run_yes (by rw [hgo _ h]; simp), adv_letter]
      have hgo2 := fun c => goes_letter c (2 - d) σ.lv (by omega)
      split
      · rename_i h2
        have e2 : run σ l = run ⟨σ.vs ++ [(σ.ab σ.lv, (σ.lv : Int))], fun j => if j = σ.lv + 1 then (σ.vs.length : Int) else σ.ab j, σ.lv + 1, 40⟩ l.tail.tail := by
          rw [e1]
          conv => lhs; rw [head_cons h2]
          rw [run_yes (by rw [hgo2]; rfl), adv_open]
          congr 2
          funext j
          split
          · simp
          · rfl
        have K0 := ih (by omega) ⟨σ.vs ++ [(σ.ab σ.lv, (σ.lv : Int))], fun j => if j = σ.lv + 1 then (σ.vs.length : Int) else σ.ab j, σ.lv + 1, 40⟩ l.tail.tail (by simp only; omega) (.inl (.inr rfl)) (by simp)
        simp only [if_true] at K0
        have K : Came σ l (3 - d) (fun j => if j = σ.lv + 1 then (σ.vs.length : Int) else σ.ab j) (vx d σ.vs.length (σ.vs ++ [(σ.ab σ.lv, ((2 - d : Nat) : Int))]) l.tail.tail) := by
          rw [hlv'] at K0 e2 ⊢
          have e3 : 2 - d + 1 = 3 - d := by omega
          rw [e3] at K0 e2 ⊢
          refine ⟨fun hi => ?_, fun hi => ?_⟩
          · obtain ⟨σ', f1, f2⟩ := K0.1 hi
            exact ⟨σ', e2.trans f1, f2⟩
          · obtain ⟨σ', f1, f2⟩ := K0.2 hi
            exact ⟨σ', e2.trans f1, f2⟩
        have hl2 : (vx d σ.vs.length (σ.vs ++ [(σ.ab σ.lv, ((2 - d : Nat) : Int))]) l.tail.tail).l.length ≤ l.length := Nat.le_trans (vx_len _ _ _ _) (Nat.le_trans (tail_le _) (tail_le _))
        obtain ⟨M, hno⟩ := more_came (d := d) (by omega) (own := (σ.vs.length : Int)) (fun σ1 l1 a1 a2 a3 a4 => by
          have := ih (by omega) σ1 l1 a1 (.inr ⟨a2, by omega, a3⟩) (fun h => by omega)
          rw [a4] at this
          exact this) (σ := σ) (l := l) (ab := fun j => if j = σ.lv + 1 then (σ.vs.length : Int) else σ.ab j) (by rw [if_pos (by omega)]) l.length _ hl2 K
        generalize more (vx d σ.vs.length) (lt (3 - d)) l.length (vx d σ.vs.length (σ.vs ++ [(σ.ab σ.lv, ((2 - d : Nat) : Int))]) l.tail.tail) = g at M hno
        unfold shut
        split
        · rename_i hi
          obtain ⟨σ', f1, f2, f3, f4, f5⟩ := M.1 hi
          split
          · rename_i h41
            refine ⟨fun _ => ⟨adv σ' 41, ?_, ?_, ?_, ?_, ?_⟩, fun h => by cases h⟩
            · rw [f1]
              conv => lhs; rw [head_cons h41]
              exact run_yes (by rw [goes_whl f4, decide_eq_true (by omega)]; simp)
            · exact f2
            · rw [adv_shut]; simp only; omega
            · exact .inr rfl
            · intro j hj
              rw [adv_shut]
              simp only
              rw [f5 j (by omega)]
              exact if_neg (by omega)
          · rename_i h41
            refine ⟨(fun h => by cases h), fun _ => ⟨σ', ?_, fun _ h0 => by omega⟩⟩
            rw [f1]
            cases hgl : g.l with
            | nil => rfl
            | cons c cs =>
              refine run_no ?_
              rw [hgl] at h41 hno
              rw [goes_whl f4, f3]
              have k1 : (c == lt (3 - d)) = false := beq_eq_false_iff_ne.2 (fun e => hno ⟨hi, by rw [e]; rfl⟩)
              have k2 : (c == 41) = false := beq_eq_false_iff_ne.2 (fun e => h41 (by rw [e]; rfl))
              rw [k1, k2]; simp
        · rename_i hi
          refine ⟨fun h => absurd h hi, fun h => M.2 h⟩
      · rename_i h2
        refine ⟨(fun h => by cases h), fun _ => ⟨⟨σ.vs ++ [(σ.ab σ.lv, (σ.lv : Int))], σ.ab, σ.lv, lt (2 - d)⟩, ?_, fun _ h0 => by rw [hz h0]; simp⟩⟩
        rw [e1]
        simp only
        generalize l.tail = r at h2
        cases r with
        | nil => rfl
        | cons c cs =>
          refine run_no ?_
          rw [hgo2]
          exact beq_eq_false_iff_ne.2 (fun e => h2 (by rw [e]; rfl))
    · rename_i h
      refine ⟨(fun h => by cases h), fun _ => ?_⟩
      cases l with
      | nil => exact ⟨σ, rfl, fun _ h0 => by rw [hz h0]; simp⟩
      | cons c cs =>
        refine ⟨σ, run_no ?_, fun h => by cases h⟩
        rw [hgo c rfl]
        exact beq_eq_false_iff_ne.2 (fun e => h (by rw [e]; rfl))
/-- The document's own way to read a text. -/
def parseV (l : List UInt8) : List (Int × Int) × Nat × Int :=
  if (vx 3 (-1) [] l).is = true ∧ (vx 3 (-1) [] l).l = [] ∧ Tp.may (vx 3 (-1) [] l).t = true then ((vx 3 (-1) [] l).t, 0, 0)
  else ([], l.length - (vx 3 (-1) [] l).l.length, 2)
theorem parse_same (l : List UInt8) : parseV l = parse l := by
  obtain ⟨h1, h2⟩ := vx_came 3 (Nat.le_refl _) st0 l rfl (.inl (.inl rfl)) (fun _ => rfl)
  simp only [show st0.ab st0.lv = -1 from rfl, show st0.vs = [] from rfl] at h1 h2
  unfold parseV parse
  generalize vx 3 (-1) [] l = g at h1 h2
  cases hi : g.is
  · obtain ⟨σ', f1, f2⟩ := h2 hi
    rw [f1, if_neg (by simp), if_neg]
    rintro ⟨a, b, c⟩
    have := ((Tp.tree_iff _).1 c).two
    have := f2 a b
    simp only at *
    omega
  · obtain ⟨σ', f1, f2, f3, f4, f5⟩ := h1 hi
    have f6 : run σ' g.l = (σ', g.l) := by
      cases hgl : g.l with
      | nil => rfl
      | cons c cs => exact run_no (by rw [goes_whl f4, f3]; rfl)
    rw [f1, f6]
    simp only
    rw [f2, f3]
    simp [st0]
end Go.Proofs.YthbeldmgaioemaaDoor.Tx


/- Layer 3 in plain mathematics: the shape of a tree; its text; the tree that is parsed of that, numbered in the turn of the letters. -/
namespace Go.Proofs.YthbeldmgaioemaaDoor.Tx
open Tp

/-- The shape of a vertex of level 3 - d: those of the vertices below it, in turn. -/
def Sh : Nat → Type
  | 0 => Unit
  | d + 1 => List (Sh d)
def tS : (d : Nat) → Sh d → List UInt8
  | 0, _ => [112]
  | d + 1, s => lt (2 - d) :: 40 :: (List.flatMap (tS d) s ++ [41])
def bSs {α : Type} (F : α → Nat → Int → List (Int × Int)) : List α → Nat → Int → List (Int × Int)
  | [], _, _ => []
  | k :: ks, b, p => F k b p ++ bSs F ks (b + (F k b p).length) p
/-- The vertices, numbered from b on, below p. -/
def bS : (d : Nat) → Sh d → Nat → Int → List (Int × Int)
  | 0, _, _, p => [(p, 3)]
  | d + 1, s, b, p => (p, ((2 - d : Nat) : Int)) :: bSs (bS d) s (b + 1) b
/-- How many lie below each one that is no processor: as few, and as many, as may be. -/
def wf : (d : Nat) → Sh d → Prop
  | 0, _ => True
  | d + 1, s => s ≠ [] ∧ List.length s ≤ 8 ∧ ∀ k, k ∈ (show List (Sh d) from s) → wf d k
def ne : (d : Nat) → Sh d → Prop
  | 0, _ => True
  | d + 1, s => s ≠ [] ∧ ∀ k, k ∈ (show List (Sh d) from s) → ne d k
theorem bS_succ (d : Nat) (s : List (Sh d)) (b : Nat) (p : Int) : bS (d + 1) s b p = (p, ((2 - d : Nat) : Int)) :: bSs (bS d) s (b + 1) b := rfl
theorem tS_succ (d : Nat) (s : List (Sh d)) : tS (d + 1) s = lt (2 - d) :: 40 :: (s.flatMap (tS d) ++ [41]) := rfl
theorem wf_ne : ∀ (d : Nat) (s : Sh d), wf d s → ne d s := by
  intro d
  induction d with
  | zero => intro s _; trivial
  | succ d ih => intro s h; exact ⟨h.1, fun k hk => ih k (h.2.2 k hk)⟩
theorem bSs_snoc {α : Type} (F : α → Nat → Int → List (Int × Int)) (k : α) : ∀ (ks : List α) (b : Nat) (p : Int), bSs F (ks ++ [k]) b p = bSs F ks b p ++ F k (b + (bSs F ks b p).length) p := by
  intro ks
  induction ks with
  | nil => intro b p; simp [bSs]
  | cons a al ih => intro b p; rw [List.cons_append, bSs, ih, bSs, List.length_append, List.append_assoc, Nat.add_assoc]

/-- What is read as a vertex is the text of a shape, and the vertices are that shape's. -/
theorem vx_shape : ∀ (d : Nat), d ≤ 3 → ∀ (p : Int) (t : List (Int × Int)) (l : List UInt8), (vx d p t l).is = true →
    ∃ s : Sh d, ne d s ∧ l = tS d s ++ (vx d p t l).l ∧ (vx d p t l).t = t ++ bS d s t.length p := by
  intro d
  induction d with
  | zero =>
    intro _ p t l h
    rw [vx] at h ⊢
    split at h
    · rename_i hl
      rw [if_pos hl]
      exact ⟨(), trivial, head_cons hl, rfl⟩
    · cases h
  | succ d ih =>
    intro hd p t l h
    rw [vx] at h ⊢
    split at h
    · rename_i hl
      rw [if_pos hl]
      split at h
      · rename_i h2
        rw [if_pos h2]
        have K : ∀ (f : Nat) (g : Got) (t0 : List (Int × Int)) (l0 : List UInt8),
            (g.is = true → ∃ ks : List (Sh d), ks ≠ [] ∧ (∀ k ∈ ks, ne d k) ∧ l0 = ks.flatMap (tS d) ++ g.l ∧ g.t = t0 ++ bSs (bS d) ks t0.length t.length) →
            (more (vx d t.length) (lt (3 - d)) f g).is = true → ∃ ks : List (Sh d), ks ≠ [] ∧ (∀ k ∈ ks, ne d k) ∧ l0 = ks.flatMap (tS d) ++ (more (vx d t.length) (lt (3 - d)) f g).l ∧ (more (vx d t.length) (lt (3 - d)) f g).t = t0 ++ bSs (bS d) ks t0.length t.length := by
          intro f
          induction f with
          | zero => intro g t0 l0 hg; exact hg
          | succ f ihf =>
            intro g t0 l0 hg
            rw [more]
            split
            · rename_i hh
              refine ihf _ t0 l0 (fun hi => ?_)
              obtain ⟨ks, a1, a2, a3, a4⟩ := hg hh.1
              obtain ⟨s, b1, b2, b3⟩ := ih (by omega) _ _ _ hi
              refine ⟨ks ++ [s], by simp, ?_, ?_, ?_⟩
              · intro k hk
                rcases List.mem_append.1 hk with hk | hk
                · exact a2 k hk
                · rw [List.mem_singleton.1 hk]; exact b1
              · rw [List.flatMap_append, List.append_assoc]
                conv => lhs; rw [a3, b2]
                simp
              · rw [b3, a4, bSs_snoc, List.length_append, List.append_assoc]
            · exact hg
        unfold shut at h ⊢
        split at h
        · rename_i hi
          rw [if_pos hi]
          split at h
          · rename_i h41
            rw [if_pos h41]
            obtain ⟨ks, a1, a2, a3, a4⟩ := K l.length (vx d t.length (t ++ [(p, ((2 - d : Nat) : Int))]) l.tail.tail) (t ++ [(p, ((2 - d : Nat) : Int))]) l.tail.tail (fun hi0 => by
              obtain ⟨s, b1, b2, b3⟩ := ih (by omega) _ _ _ hi0
              refine ⟨[s], by simp, fun k hk => by rw [List.mem_singleton.1 hk]; exact b1, by simpa using b2, ?_⟩
              rw [b3]; simp [bSs]) hi
            refine ⟨ks, ⟨a1, a2⟩, ?_, ?_⟩
            · conv => lhs; rw [head_cons hl, head_cons h2, a3, head_cons h41]
              simp [tS]
            · simp only
              rw [a4, bS_succ d ks, List.append_assoc, List.length_append]
              simp
          · cases h
        · rename_i hi
          exact absurd h hi
      · cases h
    · cases h
/-- A text that goes on with that of a shape goes on behind it. -/
theorem run_shape : ∀ (d : Nat), d ≤ 3 → ∀ (s : Sh d) (σ : St) (r : List UInt8), ne d s → σ.lv = 3 - d → (Opn σ ∨ (Whl σ ∧ 0 < σ.lv)) →
    ∃ σ', run σ (tS d s ++ r) = run σ' r ∧ σ'.vs = σ.vs ++ bS d s σ.vs.length (σ.ab σ.lv) ∧ σ'.lv = σ.lv ∧ Whl σ' ∧ ∀ j, j ≤ σ.lv → σ'.ab j = σ.ab j := by
  intro d
  induction d with
  | zero =>
    intro _ s σ r _ hlv ho
    have hgo : goes σ.q 112 σ.lv = true := by
      rcases ho with ho | ⟨ho, h0⟩
      · rw [goes_opn ho, hlv]; rfl
      · rw [goes_whl ho, hlv]; rfl
    refine ⟨adv σ (lt 3), ?_, ?_, ?_, ?_, ?_⟩
    · exact run_yes hgo
    · rw [adv_letter, hlv]; rfl
    · rw [adv_letter]
    · rw [adv_letter]; exact .inl rfl
    · intro j _; rw [adv_letter]
  | succ d ih =>
    intro hd s σ r hne hlv ho
    have hlv' : σ.lv = 2 - d := by omega
    have hgo : goes σ.q (lt (2 - d)) σ.lv = true := by
      rcases ho with ho | ⟨ho, h0⟩
      · rw [goes_opn ho, hlv']; simp
      · rw [goes_whl ho, decide_eq_true h0, hlv']; simp
    have K : ∀ (ks : List (Sh d)), (∀ k ∈ ks, ne d k) → ∀ (σ1 : St) (r : List UInt8), σ1.lv = 3 - d → (Opn σ1 ∨ Whl σ1) → (ks ≠ [] ∨ Whl σ1) →
        ∃ σ', run σ1 (ks.flatMap (tS d) ++ r) = run σ' r ∧ σ'.vs = σ1.vs ++ bSs (bS d) ks σ1.vs.length (σ1.ab (3 - d)) ∧ σ'.lv = σ1.lv ∧ Whl σ' ∧ ∀ j, j ≤ 3 - d → σ'.ab j = σ1.ab j := by
      intro ks
      induction ks with
      | nil =>
        intro _ σ1 r _ _ hw
        refine ⟨σ1, rfl, by simp [bSs], rfl, ?_, fun _ _ => rfl⟩
        rcases hw with hw | hw
        · exact absurd rfl hw
        · exact hw
      | cons k ks ihk =>
        intro hk σ1 r h1 ho1 _
        obtain ⟨σ2, a1, a2, a3, a4, a5⟩ := ih (by omega) k σ1 (ks.flatMap (tS d) ++ r) (hk k List.mem_cons_self) h1 (by rcases ho1 with h | h; exact .inl h; exact .inr ⟨h, by omega⟩)
        obtain ⟨σ3, b1, b2, b3, b4, b5⟩ := ihk (fun k hk' => hk k (List.mem_cons_of_mem _ hk')) σ2 r (by rw [a3, h1]) (.inr a4) (.inr a4)
        refine ⟨σ3, ?_, ?_, by rw [b3, a3], b4, fun j hj => by rw [b5 j hj, a5 j (by omega)]⟩
        · rw [List.flatMap_cons, List.append_assoc, a1, b1]
        · rw [b2, a2, bSs, a5 _ (by omega), h1, List.append_assoc, List.length_append]
    obtain ⟨σ3, b1, b2, b3, b4, b5⟩ := K s hne.2 ⟨σ.vs ++ [(σ.ab σ.lv, (σ.lv : Int))], fun j => if j = σ.lv + 1 then (σ.vs.length : Int) else σ.ab j, σ.lv + 1, 40⟩ ([41] ++ r) (by simp only; omega) (.inl (.inr rfl)) (.inl hne.1)
    refine ⟨adv σ3 41, ?_, ?_, ?_, .inr rfl, ?_⟩
    · rw [tS, List.cons_append, run_yes hgo, adv_letter, List.cons_append, run_yes (by rw [goes_letter _ _ _ (by omega)]; rfl), adv_open, List.append_assoc]
      have e : (fun j => if j = σ.lv + 1 then (((σ.vs ++ [(σ.ab σ.lv, (σ.lv : Int))]).length : Nat) : Int) - 1 else σ.ab j) = fun j => if j = σ.lv + 1 then (σ.vs.length : Int) else σ.ab j := by
        funext j
        split
        · simp
        · rfl
      simp only
      rw [e, b1]
      exact run_yes (by rw [goes_whl b4, b3]; simp)
    · rw [adv_shut]
      simp only
      rw [b2, bS]
      simp only
      rw [if_pos (by omega), hlv', List.append_assoc, List.length_append]
      rfl
    · rw [adv_shut]; simp only; rw [b3]; simp
    · intro j hj
      rw [adv_shut]
      simp only
      rw [b5 j (by omega)]
      simp only
      rw [if_neg (by omega)]

/-- The shape of a tree's vertex. -/
def kidsL (vs : List (Int × Int)) (v : Int) : List Int := those (fun x => x.1 == v) vs
def shp (vs : List (Int × Int)) : (d : Nat) → Int → Sh d
  | 0, _ => ()
  | d + 1, v => (kidsL vs v).map (shp vs d)
/-- A tree's text. -/
def tx (vs : List (Int × Int)) (d : Nat) (v : Int) : List UInt8 := tS d (shp vs d v)
/-- The tree, numbered in the turn of the letters. -/
def sm (vs : List (Int × Int)) : List (Int × Int) := bS 3 (shp vs 3 0) 0 (-1)
theorem tx_zero (vs : List (Int × Int)) (v : Int) : tx vs 0 v = [112] := rfl
theorem tx_succ (vs : List (Int × Int)) (d : Nat) (v : Int) : tx vs (d + 1) v = lt (2 - d) :: 40 :: ((kidsL vs v).flatMap (tx vs d) ++ [41]) := by
  unfold tx
  refine Eq.trans (tS_succ d ((kidsL vs v).map (shp vs d))) ?_
  rw [List.flatMap_map]
theorem whole_run (s : Sh 3) (h : ne 3 s) (r : List UInt8) : ∃ σ', run st0 (tS 3 s ++ r) = run σ' r ∧ σ'.vs = bS 3 s 0 (-1) ∧ σ'.lv = 0 ∧ Whl σ' := by
  obtain ⟨σ', a1, a2, a3, a4, _⟩ := run_shape 3 (Nat.le_refl _) s st0 r h rfl (.inl (.inl rfl))
  exact ⟨σ', a1, a2, a3, a4⟩
theorem parse_shape (s : Sh 3) (h : ne 3 s) (hm : may (bS 3 s 0 (-1)) = true) : parse (tS 3 s) = (bS 3 s 0 (-1), 0, 0) := by
  obtain ⟨σ', a1, a2, a3, a4⟩ := whole_run s h []
  rw [List.append_nil] at a1
  have e : run σ' [] = (σ', []) := rfl
  unfold parse
  rw [a1, e, if_pos ⟨rfl, a3, by rw [← hm, ← a2]⟩]
  simp only
  rw [a2]
/-- What is parsed is a shape's text, and the shape's tree. -/
theorem parse_ok {l : List UInt8} (h : (parse l).2.2 = 0) : ∃ s : Sh 3, ne 3 s ∧ l = tS 3 s ∧ may (bS 3 s 0 (-1)) = true ∧ parse l = (bS 3 s 0 (-1), 0, 0) := by
  rw [← parse_same] at h ⊢
  unfold parseV at h ⊢
  split at h
  · rename_i hc
    obtain ⟨h1, h2, h3⟩ := hc
    rw [if_pos ⟨h1, h2, h3⟩]
    obtain ⟨s, a1, a2, a3⟩ := vx_shape 3 (Nat.le_refl _) (-1) [] l h1
    rw [h2, List.append_nil] at a2
    rw [List.nil_append] at a3
    exact ⟨s, a1, a2, by rw [← h3, a3]; rfl, by rw [a3]; rfl⟩
  · cases h
end Go.Proofs.YthbeldmgaioemaaDoor.Tx


/- Layer 3 in plain mathematics: the tree that is numbered in the turn of the letters has the shape that it was made of, and may be, if that has as many below each one as may be. -/
namespace Go.Proofs.YthbeldmgaioemaaDoor.Tx
open Tp

theorem thoseF_append (p : Int × Int → Bool) : ∀ (xs ys : List (Int × Int)) (k : Nat), thoseF p k (xs ++ ys) = thoseF p k xs ++ thoseF p (k + xs.length) ys := by
  intro xs
  induction xs with
  | nil => intro ys k; rfl
  | cons x xs ih =>
    intro ys k
    rw [List.cons_append, thoseF, thoseF, ih, List.length_cons, show k + 1 + xs.length = k + (xs.length + 1) from by omega]
    split <;> rfl
theorem thoseF_none {p : Int × Int → Bool} : ∀ (xs : List (Int × Int)) (k : Nat), (∀ x ∈ xs, p x = false) → thoseF p k xs = [] := by
  intro xs
  induction xs with
  | nil => intro k _; rfl
  | cons x xs ih =>
    intro k h
    rw [thoseF, h x List.mem_cons_self, if_neg Bool.false_ne_true]
    exact ih _ (fun y hy => h y (List.mem_cons_of_mem _ hy))
/-- The first of a block hangs below p; the others within the block. -/
theorem bS_split : ∀ (d : Nat), d ≤ 3 → ∀ (s : Sh d) (b : Nat) (p : Int), ∃ tl, bS d s b p = (p, ((3 - d : Nat) : Int)) :: tl ∧ ∀ x ∈ tl, (b : Int) ≤ x.1 ∧ x.1 < ((b + (bS d s b p).length : Nat) : Int) := by
  intro d
  induction d with
  | zero => intro _ s b p; exact ⟨[], rfl, fun x hx => by cases hx⟩
  | succ d ih =>
    intro hd s b p
    refine ⟨bSs (bS d) s (b + 1) b, by rw [bS_succ d s, show 2 - d = 3 - (d + 1) by omega], ?_⟩
    have K : ∀ (ks : List (Sh d)) (b' : Nat), b < b' → ∀ x ∈ bSs (bS d) ks b' (b : Int), (b : Int) ≤ x.1 ∧ x.1 < ((b' + (bSs (bS d) ks b' (b : Int)).length : Nat) : Int) := by
      intro ks
      induction ks with
      | nil => intro b' _ x hx; cases hx
      | cons k ks ihk =>
        intro b' hb x hx
        rw [bSs, List.length_append]
        rcases List.mem_append.1 (show x ∈ bS d k b' (b : Int) ++ bSs (bS d) ks (b' + (bS d k b' (b : Int)).length) (b : Int) from hx) with hx | hx
        · obtain ⟨tl, e, ht⟩ := ih (by omega) k b' (b : Int)
          rw [e] at hx
          rcases List.mem_cons.1 hx with rfl | hx
          · simp only; omega
          · have := ht x hx
            omega
        · have := ihk _ (by omega) x hx
          omega
    intro x hx
    have := K s (b + 1) (by omega) x hx
    rw [bS_succ d s, List.length_cons]
    omega
theorem bS_pos {d : Nat} (hd : d ≤ 3) (s : Sh d) (b : Nat) (p : Int) : 0 < (bS d s b p).length := by
  obtain ⟨tl, e, _⟩ := bS_split d hd s b p
  rw [e]; simp
/-- Where the blocks of those below one begin. -/
def starts {α : Type} (F : α → Nat → Int → List (Int × Int)) : List α → Nat → Int → List Int
  | [], _, _ => []
  | k :: ks, b, p => (b : Int) :: starts F ks (b + (F k b p).length) p
theorem starts_len {α : Type} (F : α → Nat → Int → List (Int × Int)) : ∀ (ks : List α) (b : Nat) (p : Int), (starts F ks b p).length = ks.length := by
  intro ks
  induction ks with
  | nil => intro b p; rfl
  | cons k ks ih => intro b p; rw [starts, List.length_cons, ih, List.length_cons]
theorem those_starts {d : Nat} (hd : d ≤ 3) (own : Nat) : ∀ (ks : List (Sh d)) (b : Nat), own < b → thoseF (fun x => x.1 == (own : Int)) b (bSs (bS d) ks b (own : Int)) = starts (bS d) ks b own := by
  intro ks
  induction ks with
  | nil => intro b _; rfl
  | cons k ks ih =>
    intro b hb
    obtain ⟨tl, e, ht⟩ := bS_split d hd k b (own : Int)
    rw [bSs, thoseF_append, ih _ (by omega), starts]
    congr 1
    rw [e, thoseF, if_pos (by simp), thoseF_none tl (b + 1) (fun x hx => ?_)]
    · rfl
    · have := ht x hx
      rw [beq_eq_false_iff_ne]
      omega
theorem bSs_range {d : Nat} (hd : d ≤ 3) (own : Int) : ∀ (ks : List (Sh d)) (b : Nat), ∀ x ∈ bSs (bS d) ks b own, x.1 = own ∨ ((b : Int) ≤ x.1 ∧ x.1 < ((b + (bSs (bS d) ks b own).length : Nat) : Int)) := by
  intro ks
  induction ks with
  | nil => intro b x hx; cases hx
  | cons k ks ih =>
    intro b x hx
    rw [bSs, List.length_append]
    rcases List.mem_append.1 (show x ∈ bS d k b own ++ bSs (bS d) ks (b + (bS d k b own).length) own from hx) with hx | hx
    · obtain ⟨tl, e, ht⟩ := bS_split d hd k b own
      rw [e] at hx
      rcases List.mem_cons.1 hx with rfl | hx
      · exact .inl rfl
      · have := ht x hx
        exact .inr (by omega)
    · rcases ih _ x hx with h | h
      · exact .inl h
      · exact .inr (by omega)
/-- A block within a list: its shape, and that each of its vertices may be there. -/
def Placed (d : Nat) (s : Sh d) (T : List (Int × Int)) (b : Nat) (n : Nat) : Prop :=
  shp T d b = s ∧ (wf d s → ∀ j, j < n → filled T (b + j) = true ∧ (0 < j → hangs T (b + j) = true))
theorem wf_succ {d : Nat} {s : List (Sh d)} (h : wf (d + 1) s) : s ≠ [] ∧ s.length ≤ 8 ∧ ∀ k ∈ s, wf d k := h
theorem at_mid {pre mid post : List (Int × Int)} {x : Int × Int} (h : mid[0]? = some x) : (pre ++ (mid ++ post))[pre.length]? = some x := by
  rw [List.getElem?_append_right (Nat.le_refl _), Nat.sub_self, List.getElem?_append_left (List.getElem?_eq_some_iff.1 h).1]
  exact h
theorem placed : ∀ (d : Nat), d ≤ 3 → ∀ (s : Sh d) (pre post : List (Int × Int)) (p : Int), (∀ x ∈ pre, x.1 < pre.length) → p < pre.length →
    (∀ x ∈ post, x.1 < pre.length ∨ ((pre.length + (bS d s pre.length p).length : Nat) : Int) ≤ x.1) →
    Placed d s (pre ++ (bS d s pre.length p ++ post)) pre.length (bS d s pre.length p).length := by
  intro d
  induction d with
  | zero =>
    intro _ s pre post p hpre hp hpost
    refine ⟨rfl, fun _ j hj => ?_⟩
    have hj0 : j = 0 := by
      have : (bS 0 s pre.length p).length = 1 := rfl
      omega
    subst hj0
    refine ⟨?_, fun h => by omega⟩
    unfold filled
    rw [Nat.add_zero, at_mid (x := (p, 3)) rfl]
    rfl
  | succ d ih =>
    intro hd s pre post p hpre hp hpost
    have K : ∀ (ks : List (Sh d)) (pre1 post1 : List (Int × Int)) (own : Nat) (po : Int), (∀ x ∈ pre1, x.1 < pre1.length) → own < pre1.length → pre1[own]? = some (po, ((2 - d : Nat) : Int)) →
        (∀ x ∈ post1, x.1 < pre1.length ∨ ((pre1.length + (bSs (bS d) ks pre1.length (own : Int)).length : Nat) : Int) ≤ x.1) →
        (starts (bS d) ks pre1.length (own : Int)).map (shp (pre1 ++ (bSs (bS d) ks pre1.length (own : Int) ++ post1)) d) = ks
        ∧ ((∀ k ∈ ks, wf d k) → ∀ j, j < (bSs (bS d) ks pre1.length (own : Int)).length → filled (pre1 ++ (bSs (bS d) ks pre1.length (own : Int) ++ post1)) (pre1.length + j) = true ∧ hangs (pre1 ++ (bSs (bS d) ks pre1.length (own : Int) ++ post1)) (pre1.length + j) = true) := by
      intro ks
      induction ks with
      | nil => intro pre1 post1 own po _ _ _ _; exact ⟨rfl, fun _ j hj => absurd hj (by simp [bSs])⟩
      | cons k ks ihk =>
        intro pre1 post1 own po h1 h2 h3 h4
        obtain ⟨tl, e, ht⟩ := bS_split d (by omega) k pre1.length (own : Int)
        have hpos := bS_pos (d := d) (by omega) k pre1.length (own : Int)
        have hr := bSs_range (d := d) (by omega) (own : Int) ks (pre1.length + (bS d k pre1.length (own : Int)).length)
        have hL : (bSs (bS d) (k :: ks) pre1.length (own : Int)).length = (bS d k pre1.length (own : Int)).length + (bSs (bS d) ks (pre1.length + (bS d k pre1.length (own : Int)).length) (own : Int)).length := by rw [bSs, List.length_append]
        have h4' : ∀ x ∈ post1, x.1 < pre1.length ∨ ((pre1.length + (bS d k pre1.length (own : Int)).length + (bSs (bS d) ks (pre1.length + (bS d k pre1.length (own : Int)).length) (own : Int)).length : Nat) : Int) ≤ x.1 := fun x hx => by
          have := h4 x hx
          rw [hL] at this
          omega
        have hlen : (pre1 ++ bS d k pre1.length (own : Int)).length = pre1.length + (bS d k pre1.length (own : Int)).length := List.length_append
        have A := ih (by omega) k pre1 (bSs (bS d) ks (pre1.length + (bS d k pre1.length (own : Int)).length) (own : Int) ++ post1) (own : Int) h1 (by omega) (fun x hx => by
          rcases List.mem_append.1 hx with hx | hx
          · rcases hr x hx with h | h
            · exact .inl (by omega)
            · exact .inr h.1
          · rcases h4' x hx with h | h
            · exact .inl h
            · exact .inr (by omega))
        have B := ihk (pre1 ++ bS d k pre1.length (own : Int)) post1 own po (fun x hx => by
            rw [hlen]
            rcases List.mem_append.1 hx with hx | hx
            · have := h1 x hx; omega
            · rw [e] at hx
              rcases List.mem_cons.1 hx with rfl | hx
              · simp only; omega
              · have := ht x hx; omega)
          (by rw [hlen]; omega) (by rw [List.getElem?_append_left h2]; exact h3) (fun x hx => by
            rw [hlen]
            rcases h4' x hx with h | h
            · exact .inl (by omega)
            · exact .inr h)
        rw [hlen] at B
        have eT : pre1 ++ bS d k pre1.length (own : Int) ++ (bSs (bS d) ks (pre1.length + (bS d k pre1.length (own : Int)).length) (own : Int) ++ post1) = pre1 ++ (bSs (bS d) (k :: ks) pre1.length (own : Int) ++ post1) := by
          rw [bSs]; simp only [List.append_assoc]
        have eT2 : pre1 ++ (bS d k pre1.length (own : Int) ++ (bSs (bS d) ks (pre1.length + (bS d k pre1.length (own : Int)).length) (own : Int) ++ post1)) = pre1 ++ (bSs (bS d) (k :: ks) pre1.length (own : Int) ++ post1) := by
          rw [bSs]; simp only [List.append_assoc]
        rw [eT] at B
        rw [eT2] at A
        obtain ⟨B1, B2⟩ := B
        obtain ⟨A1, A2⟩ := A
        refine ⟨?_, fun hw j hj => ?_⟩
        · rw [starts, List.map_cons, A1, B1]
        · rw [hL] at hj
          by_cases hjk : j < (bS d k pre1.length (own : Int)).length
          · obtain ⟨a1, a2⟩ := A2 (hw k List.mem_cons_self) j hjk
            refine ⟨a1, ?_⟩
            by_cases hj0 : 0 < j
            · exact a2 hj0
            · have hj0 : j = 0 := by omega
              subst hj0
              have hx : (pre1 ++ (bSs (bS d) (k :: ks) pre1.length (own : Int) ++ post1))[pre1.length]? = some ((own : Int), ((3 - d : Nat) : Int)) := at_mid (by rw [bSs, e]; rfl)
              have ho : (pre1 ++ (bSs (bS d) (k :: ks) pre1.length (own : Int) ++ post1))[own]? = some (po, ((2 - d : Nat) : Int)) := by rw [List.getElem?_append_left h2]; exact h3
              unfold hangs hangsX
              rw [Nat.add_zero, hx, if_neg (by omega)]
              simp only [Option.getD_some]
              rw [if_neg (by omega), Int.toNat_natCast, ho, decide_eq_true (by omega)]
              simp only [Option.getD_some, Bool.true_and, beq_iff_eq]
              unfold dec
              split <;> omega
          · obtain ⟨b1, b2⟩ := B2 (fun k' hk' => hw k' (List.mem_cons_of_mem _ hk')) (j - (bS d k pre1.length (own : Int)).length) (by omega)
            rw [show pre1.length + (bS d k pre1.length (own : Int)).length + (j - (bS d k pre1.length (own : Int)).length) = pre1.length + j by omega] at b1 b2
            exact ⟨b1, b2⟩
    have hlen : (pre ++ [(p, ((2 - d : Nat) : Int))]).length = pre.length + 1 := by simp
    have hL : (bS (d + 1) s pre.length p).length = 1 + (bSs (bS d) s (pre.length + 1) (pre.length : Int)).length := by rw [bS_succ d s, List.length_cons, Nat.add_comm]
    have eT : pre ++ [(p, ((2 - d : Nat) : Int))] ++ (bSs (bS d) s (pre.length + 1) (pre.length : Int) ++ post) = pre ++ (bS (d + 1) s pre.length p ++ post) := by
      rw [bS_succ d s]; simp
    obtain ⟨K1, K2⟩ := K s (pre ++ [(p, ((2 - d : Nat) : Int))]) post pre.length p (fun x hx => by
        rw [hlen]
        rcases List.mem_append.1 hx with hx | hx
        · have := hpre x hx; omega
        · rw [List.mem_singleton.1 hx]; simp only; omega)
      (by rw [hlen]; omega) (by rw [List.getElem?_append_right (Nat.le_refl _), Nat.sub_self]; rfl) (fun x hx => by
        rw [hlen]
        rcases hpost x hx with h | h
        · exact .inl (by omega)
        · rw [hL] at h; exact .inr (by omega))
    rw [hlen, eT] at K1 K2
    have hkids : kidsL (pre ++ (bS (d + 1) s pre.length p ++ post)) (pre.length : Int) = starts (bS d) s (pre.length + 1) (pre.length : Int) := by
      unfold kidsL those
      rw [thoseF_append, thoseF_append, thoseF_none pre 0 (fun x hx => by have := hpre x hx; rw [beq_eq_false_iff_ne]; omega), bS_succ d s, thoseF, if_neg (by rw [beq_iff_eq]; omega), Nat.zero_add,
        those_starts (d := d) (by omega) pre.length s (pre.length + 1) (by omega), thoseF_none post _ (fun x hx => by have := hpost x hx; rw [hL] at this; rw [beq_eq_false_iff_ne]; omega)]
      simp
    refine ⟨?_, fun hw j hj => ?_⟩
    · refine Eq.trans ?_ K1
      show (kidsL _ _).map _ = _
      rw [hkids]
    · obtain ⟨w1, w2, w3⟩ := wf_succ hw
      by_cases hj0 : j = 0
      · subst hj0
        refine ⟨?_, fun h => by omega⟩
        have hx : (pre ++ (bS (d + 1) s pre.length p ++ post))[pre.length]? = some (p, ((2 - d : Nat) : Int)) := at_mid (by rw [bS_succ d s]; rfl)
        have hn : kidsN (pre ++ (bS (d + 1) s pre.length p ++ post)) pre.length = List.length s := by
          have : kidsN (pre ++ (bS (d + 1) s pre.length p ++ post)) pre.length = (kidsL (pre ++ (bS (d + 1) s pre.length p ++ post)) (pre.length : Int)).length := rfl
          rw [this, hkids]; exact starts_len (α := Sh d) _ s _ _
        have : 0 < List.length s := List.length_pos_iff.2 w1
        unfold filled
        rw [show pre.length + 0 = pre.length from rfl, hx, hn]
        simp only [Option.getD_some]
        rw [if_neg (by omega), decide_eq_true (by omega), decide_eq_true (by omega)]
        rfl
      · obtain ⟨k1, k2⟩ := K2 w3 (j - 1) (by omega)
        rw [show pre.length + 1 + (j - 1) = pre.length + j by omega] at k1 k2
        exact ⟨k1, fun _ => k2⟩
theorem placed_whole (s : Sh 3) : Placed 3 s (bS 3 s 0 (-1)) 0 (bS 3 s 0 (-1)).length := by
  have := placed 3 (Nat.le_refl _) s [] [] (-1) (fun x hx => by cases hx) (by simp) (fun x hx => by cases hx)
  simpa using this
/-- The shape of the tree that was made of a shape is that shape; its text is that shape's. -/
theorem shp_whole (s : Sh 3) : shp (bS 3 s 0 (-1)) 3 0 = s := (placed_whole s).1
theorem tx_whole (s : Sh 3) : tx (bS 3 s 0 (-1)) 3 0 = tS 3 s := by unfold tx; rw [shp_whole]
theorem sm_whole (s : Sh 3) : sm (bS 3 s 0 (-1)) = bS 3 s 0 (-1) := by unfold sm; rw [shp_whole]
theorem first_whole (s : Sh 3) : (bS 3 s 0 (-1))[0]? = some (-1, 0) := by
  obtain ⟨tl, e, _⟩ := bS_split 3 (Nat.le_refl _) s 0 (-1)
  rw [e]; rfl
theorem tree_whole (s : Sh 3) (hw : wf 3 s) (h64 : (bS 3 s 0 (-1)).length ≤ 64) (h32 : (those (fun x => x.2 == 3) (bS 3 s 0 (-1))).length ≤ 32) : Tree (bS 3 s 0 (-1)) := by
  have h := (placed_whole s).2 hw
  refine ⟨bS_pos (Nat.le_refl _) s 0 (-1), h64, h32, fun k hk => ?_, fun k hk => by have := (h k hk).1; rwa [Nat.zero_add] at this⟩
  by_cases h0 : k = 0
  · subst h0
    unfold hangs hangsX
    rw [first_whole]; rfl
  · have := (h k hk).2 (by omega)
    rwa [Nat.zero_add] at this
/-- The shape of a tree that may be: as many below each one as may be. -/
theorem wf_shp {vs : List (Int × Int)} (h : Tree vs) : ∀ (d : Nat), d ≤ 3 → ∀ (k : Nat) (x : Int × Int), vs[k]? = some x → x.2 = ((3 - d : Nat) : Int) → wf d (shp vs d k) := by
  intro d
  induction d with
  | zero => intro _ k x _ _; trivial
  | succ d ih =>
    intro hd k x hx hl
    obtain ⟨k8, k0⟩ := h.kids hx
    have hk : kidsN vs k = (kidsL vs k).length := rfl
    have e : shp vs (d + 1) k = (kidsL vs k).map (shp vs d) := rfl
    rw [e]
    refine ⟨?_, ?_, ?_⟩
    · intro h0
      have h0' : (kidsL vs k).map (shp vs d) = [] := h0
      have : (kidsL vs k).length = 0 := by rw [List.map_eq_nil_iff.1 h0']; rfl
      rw [← hk] at this
      have := k0.1 this
      omega
    · refine Nat.le_trans (Nat.le_of_eq (show ((kidsL vs k).map (shp vs d)).length = kidsN vs k by rw [List.length_map, hk])) k8
    · intro s hs
      obtain ⟨z, hz, rfl⟩ := List.mem_map.1 (show s ∈ (kidsL vs k).map (shp vs d) from hs)
      obtain ⟨j, y, rfl, hy, hp⟩ := mem_those.1 hz
      obtain ⟨_, u, hu, hl2⟩ := h.kid hy (by simpa using hp)
      rw [hx] at hu
      injection hu with hu
      subst hu
      exact ih (by omega) j y hy (by omega)
end Go.Proofs.YthbeldmgaioemaaDoor.Tx

