/- Layer 3 in plain mathematics: a text read byte by byte, as far as it goes; and a text read vertex by vertex: they come to the same. -/
import Derived.Test.YtdhcnmcfgicbjaaTree
namespace Go.Proofs.Ytdhcnmcfgicbjaa.Tx

/-- The letter of a level. -/
def lt : Nat → UInt8 | 0 => 109 | 1 => 110 | 2 => 99 | _ => 112
/-- How far a text has been read: the vertices so far; who is above those of each level; the level; the byte before. -/
structure St where
  vs : List (Int × Int)
  ab : Nat → Int
  lv : Nat
  q : UInt8
def st0 : St := ⟨[], fun j => if j = 0 then -1 else 0, 0, 0⟩
def goes (q c : UInt8) (l : Nat) : Bool :=
  if q = 0 ∨ q = 40 then c == lt l
  else if q = 109 ∨ q = 110 ∨ q = 99 then c == 40
  else decide (0 < l) && (c == lt l || c == 41)
def adv (σ : St) (c : UInt8) : St :=
  if c = 40 then ⟨σ.vs, fun j => if j = σ.lv + 1 then (σ.vs.length : Int) - 1 else σ.ab j, σ.lv + 1, 40⟩
  else if c = 41 then ⟨σ.vs, σ.ab, σ.lv - 1, 41⟩
  else ⟨σ.vs ++ [(σ.ab σ.lv, (σ.lv : Int))], σ.ab, σ.lv, c⟩
/-- As far as it goes: what it came to, and what is left. -/
def run (σ : St) : List UInt8 → St × List UInt8
  | [] => (σ, [])
  | c :: cs => if goes σ.q c σ.lv then run (adv σ c) cs else (σ, c :: cs)
theorem run_yes {σ : St} {c : UInt8} {cs : List UInt8} (h : goes σ.q c σ.lv = true) : run σ (c :: cs) = run (adv σ c) cs := by rw [run, if_pos h]
theorem run_no {σ : St} {c : UInt8} {cs : List UInt8} (h : goes σ.q c σ.lv = false) : run σ (c :: cs) = (σ, c :: cs) := by rw [run, if_neg (by rw [h]; exact Bool.false_ne_true)]
/-- What a text is parsed to: the vertices, the place, the error. -/
def parse (l : List UInt8) : List (Int × Int) × Nat × Int :=
  if (run st0 l).2 = [] ∧ (run st0 l).1.lv = 0 ∧ Tp.may (run st0 l).1.vs = true then ((run st0 l).1.vs, 0, 0)
  else ([], l.length - (run st0 l).2.length, 2)

def Opn (σ : St) : Prop := σ.q = 0 ∨ σ.q = 40
def Whl (σ : St) : Prop := σ.q = 112 ∨ σ.q = 41
theorem goes_opn {σ : St} (h : Opn σ) (c : UInt8) (l : Nat) : goes σ.q c l = (c == lt l) := by
  unfold goes; exact if_pos h
theorem goes_whl {σ : St} (h : Whl σ) (c : UInt8) (l : Nat) : goes σ.q c l = (decide (0 < l) && (c == lt l || c == 41)) := by
  unfold goes
  rcases h with h | h <;> rw [h] <;> rfl
theorem goes_letter (c : UInt8) (k l : Nat) (hk : k ≤ 2) : goes (lt k) c l = (c == 40) := by
  rcases (show k = 0 ∨ k = 1 ∨ k = 2 by omega) with rfl | rfl | rfl <;> rfl
theorem lt_no40 (k : Nat) : lt k ≠ 40 := by
  unfold lt; split <;> decide
theorem lt_no41 (k : Nat) : lt k ≠ 41 := by
  unfold lt; split <;> decide
theorem adv_letter (σ : St) (k : Nat) : adv σ (lt k) = ⟨σ.vs ++ [(σ.ab σ.lv, (σ.lv : Int))], σ.ab, σ.lv, lt k⟩ := by
  unfold adv; rw [if_neg (lt_no40 k), if_neg (lt_no41 k)]
theorem adv_open (σ : St) : adv σ 40 = ⟨σ.vs, fun j => if j = σ.lv + 1 then (σ.vs.length : Int) - 1 else σ.ab j, σ.lv + 1, 40⟩ := rfl
theorem adv_shut (σ : St) : adv σ 41 = ⟨σ.vs, σ.ab, σ.lv - 1, 41⟩ := rfl

/-- What a vertex was read to: the vertices, what is left, whether all of it was there. -/
structure Got where
  t : List (Int × Int)
  l : List UInt8
  is : Bool
def more (V : List (Int × Int) → List UInt8 → Got) (c0 : UInt8) : Nat → Got → Got
  | 0, g => g
  | f + 1, g => if g.is = true ∧ g.l.head? = some c0 then more V c0 f (V g.t g.l) else g
def shut (g : Got) : Got :=
  if g.is = true then if g.l.head? = some 41 then ⟨g.t, g.l.tail, true⟩ else ⟨g.t, g.l, false⟩ else g
/-- A vertex of level 3 - d below p, read from a text. -/
def vx : Nat → Int → List (Int × Int) → List UInt8 → Got
  | 0, p, t, l => if l.head? = some 112 then ⟨t ++ [(p, 3)], l.tail, true⟩ else ⟨t, l, false⟩
  | d + 1, p, t, l =>
    if l.head? = some (lt (2 - d)) then
      if l.tail.head? = some 40 then
        shut (more (vx d t.length) (lt (3 - d)) l.length (vx d t.length (t ++ [(p, ((2 - d : Nat) : Int))]) l.tail.tail))
      else ⟨t ++ [(p, ((2 - d : Nat) : Int))], l.tail, false⟩
    else ⟨t, l, false⟩

theorem more_len {V : List (Int × Int) → List UInt8 → Got} {c0 : UInt8} (hV : ∀ t l, (V t l).l.length ≤ l.length) : ∀ (f : Nat) (g : Got), (more V c0 f g).l.length ≤ g.l.length := by
  intro f
  induction f with
  | zero => intro g; exact Nat.le_refl _
  | succ f ih =>
    intro g
    rw [more]
    split
    · exact Nat.le_trans (ih _) (hV _ _)
    · exact Nat.le_refl _
theorem tail_le (l : List UInt8) : l.tail.length ≤ l.length := by rw [List.length_tail]; omega
theorem shut_len (g : Got) : (shut g).l.length ≤ g.l.length := by
  unfold shut
  split
  · split
    · exact tail_le _
    · exact Nat.le_refl _
  · exact Nat.le_refl _
theorem vx_len : ∀ (d : Nat) (p : Int) (t : List (Int × Int)) (l : List UInt8), (vx d p t l).l.length ≤ l.length := by
  intro d
  induction d with
  | zero => intro p t l; rw [vx]; split <;> simp
  | succ d ih =>
    intro p t l
    rw [vx]
    split
    · split
      · exact Nat.le_trans (shut_len _) (Nat.le_trans (more_len (fun t l => ih _ _ _) _ _) (Nat.le_trans (ih _ _ _) (Nat.le_trans (tail_le _) (tail_le _))))
      · exact tail_le _
    · exact Nat.le_refl _
theorem head_cons {l : List UInt8} {c : UInt8} (h : l.head? = some c) : l = c :: l.tail := by
  cases l with
  | nil => cases h
  | cons a as => injection h with h; subst h; rfl
theorem vx_less {d : Nat} (hd : d ≤ 3) (p : Int) (t : List (Int × Int)) {l : List UInt8} (h : l.head? = some (lt (3 - d))) : (vx d p t l).l.length < l.length := by
  have hl := head_cons h
  have hn : l.tail.length < l.length := by rw [hl]; simp
  cases d with
  | zero => rw [vx, if_pos (show l.head? = some 112 from h)]; exact hn
  | succ d =>
    rw [vx, if_pos (by rw [h]; congr 2; omega)]
    split
    · exact Nat.lt_of_le_of_lt (Nat.le_trans (shut_len _) (Nat.le_trans (more_len (fun t l => vx_len _ _ _ _) _ _) (Nat.le_trans (vx_len _ _ _ _) (tail_le _)))) hn
    · exact hn

/-- What the reading of a vertex that began at σ, l has come to. -/
def Came (σ : St) (l : List UInt8) (lv : Nat) (ab : Nat → Int) (g : Got) : Prop :=
  (g.is = true → ∃ σ', run σ l = run σ' g.l ∧ σ'.vs = g.t ∧ σ'.lv = lv ∧ Whl σ' ∧ ∀ j, j ≤ lv → σ'.ab j = ab j)
  ∧ (g.is = false → ∃ σ', run σ l = (σ', g.l) ∧ (g.l = [] → σ'.lv = 0 → σ'.vs.length ≤ 1))
theorem more_came {d : Nat} (hd : d ≤ 2) {own : Int} (hV : ∀ (σ : St) (l : List UInt8), σ.lv = 3 - d → Whl σ → l.head? = some (lt σ.lv) → σ.ab σ.lv = own → Came σ l σ.lv σ.ab (vx d own σ.vs l))
    {σ : St} {l : List UInt8} {ab : Nat → Int} (hown : ab (3 - d) = own) : ∀ (f : Nat) (g : Got), g.l.length ≤ f → Came σ l (3 - d) ab g →
      Came σ l (3 - d) ab (more (vx d own) (lt (3 - d)) f g) ∧ ¬ ((more (vx d own) (lt (3 - d)) f g).is = true ∧ (more (vx d own) (lt (3 - d)) f g).l.head? = some (lt (3 - d))) := by
  intro f
  induction f with
  | zero =>
    intro g hf hg
    refine ⟨hg, ?_⟩
    rintro ⟨_, h⟩
    have e : g.l = [] := List.length_eq_zero_iff.1 (by omega)
    rw [more, e] at h
    cases h
  | succ f ih =>
    intro g hf hg
    rw [more]
    split
    · rename_i h
      obtain ⟨hi, hh⟩ := h
      have hlt := vx_less (d := d) (by omega) own g.t hh
      refine ih _ (by omega) ?_
      obtain ⟨σ', e1, e2, e3, e4, e5⟩ := hg.1 hi
      have K := hV σ' g.l e3 e4 (by rw [e3]; exact hh) (by rw [e3, e5 _ (Nat.le_refl _), hown])
      rw [e2] at K
      refine ⟨fun hi' => ?_, fun hi' => ?_⟩
      · obtain ⟨σ2, f1, f2, f3, f4, f5⟩ := K.1 hi'
        exact ⟨σ2, e1.trans f1, f2, by rw [f3, e3], f4, fun j hj => by rw [f5 j (by omega), e5 j hj]⟩
      · obtain ⟨σ2, f1, f2⟩ := K.2 hi'
        exact ⟨σ2, e1.trans f1, f2⟩
    · rename_i h
      exact ⟨hg, h⟩
theorem vx_came : ∀ (d : Nat), d ≤ 3 → ∀ (σ : St) (l : List UInt8), σ.lv = 3 - d → (Opn σ ∨ (Whl σ ∧ 0 < σ.lv ∧ l.head? = some (lt σ.lv))) → (σ.lv = 0 → σ.vs = []) →
    Came σ l σ.lv σ.ab (vx d (σ.ab σ.lv) σ.vs l) := by
  intro d
  induction d with
  | zero =>
    intro _ σ l hlv ho _
    have hgo : ∀ c, l.head? = some c → goes σ.q c σ.lv = (c == 112) := by
      intro c hc
      rcases ho with ho | ⟨hw, h0, hh⟩
      · rw [goes_opn ho, hlv]; rfl
      · rw [hc] at hh
        injection hh with hh
        subst hh
        rw [goes_whl hw, hlv]; rfl
    rw [vx]
    split
    · rename_i h
      refine ⟨fun _ => ?_, fun h => by cases h⟩
      refine ⟨adv σ 112, ?_, ?_, ?_, ?_, ?_⟩
      · rw [head_cons h]
        exact run_yes (by rw [hgo _ h]; rfl)
      · rw [show (112 : UInt8) = lt 3 from rfl, adv_letter, hlv]; rfl
      · rw [show (112 : UInt8) = lt 3 from rfl, adv_letter]
      · rw [show (112 : UInt8) = lt 3 from rfl, adv_letter]; exact .inl rfl
      · intro j _; rw [show (112 : UInt8) = lt 3 from rfl, adv_letter]
    · rename_i h
      refine ⟨(fun h => by cases h), fun _ => ?_⟩
      cases l with
      | nil => exact ⟨σ, rfl, fun _ h0 => by omega⟩
      | cons c cs =>
        refine ⟨σ, run_no ?_, fun h => by cases h⟩
        rw [hgo c rfl]
        exact beq_eq_false_iff_ne.2 (fun e => h (by rw [e]; rfl))
  | succ d ih =>
    intro hd3 σ l hlv ho hz
    have hlv' : σ.lv = 2 - d := by omega
    have hgo : ∀ c, l.head? = some c → goes σ.q c σ.lv = (c == lt (2 - d)) := by
      intro c hc
      rcases ho with ho | ⟨hw, h0, hh⟩
      · rw [goes_opn ho, hlv']
      · rw [hc] at hh
        injection hh with hh
        subst hh
        rw [goes_whl hw, decide_eq_true h0, hlv']; simp
    rw [vx]
    split
    · rename_i h
      have e1 : run σ l = run ⟨σ.vs ++ [(σ.ab σ.lv, (σ.lv : Int))], σ.ab, σ.lv, lt (2 - d)⟩ l.tail := by
        conv => lhs; rw [head_cons h]
        rw [run_yes (by rw [hgo _ h]; simp), adv_letter]
      have hgo2 := fun c => goes_letter c (2 - d) σ.lv (by omega)
      split
      · rename_i h2
        have e2 : run σ l = run ⟨σ.vs ++ [(σ.ab σ.lv, (σ.lv : Int))], fun j => if j = σ.lv + 1 then (σ.vs.length : Int) else σ.ab j, σ.lv + 1, 40⟩ l.tail.tail := by
          rw [e1]
          conv => lhs; rw [head_cons h2]
          rw [run_yes (by rw [hgo2]; rfl), adv_open]
          congr 2
          funext j
          split
          · simp
          · rfl
        have K0 := ih (by omega) ⟨σ.vs ++ [(σ.ab σ.lv, (σ.lv : Int))], fun j => if j = σ.lv + 1 then (σ.vs.length : Int) else σ.ab j, σ.lv + 1, 40⟩ l.tail.tail (by simp only; omega) (.inl (.inr rfl)) (by simp)
        simp only [if_true] at K0
        have K : Came σ l (3 - d) (fun j => if j = σ.lv + 1 then (σ.vs.length : Int) else σ.ab j) (vx d σ.vs.length (σ.vs ++ [(σ.ab σ.lv, ((2 - d : Nat) : Int))]) l.tail.tail) := by
          rw [hlv'] at K0 e2 ⊢
          have e3 : 2 - d + 1 = 3 - d := by omega
          rw [e3] at K0 e2 ⊢
          refine ⟨fun hi => ?_, fun hi => ?_⟩
          · obtain ⟨σ', f1, f2⟩ := K0.1 hi
            exact ⟨σ', e2.trans f1, f2⟩
          · obtain ⟨σ', f1, f2⟩ := K0.2 hi
            exact ⟨σ', e2.trans f1, f2⟩
        have hl2 : (vx d σ.vs.length (σ.vs ++ [(σ.ab σ.lv, ((2 - d : Nat) : Int))]) l.tail.tail).l.length ≤ l.length := Nat.le_trans (vx_len _ _ _ _) (Nat.le_trans (tail_le _) (tail_le _))
        obtain ⟨M, hno⟩ := more_came (d := d) (by omega) (own := (σ.vs.length : Int)) (fun σ1 l1 a1 a2 a3 a4 => by
          have := ih (by omega) σ1 l1 a1 (.inr ⟨a2, by omega, a3⟩) (fun h => by omega)
          rw [a4] at this
          exact this) (σ := σ) (l := l) (ab := fun j => if j = σ.lv + 1 then (σ.vs.length : Int) else σ.ab j) (by rw [if_pos (by omega)]) l.length _ hl2 K
        generalize more (vx d σ.vs.length) (lt (3 - d)) l.length (vx d σ.vs.length (σ.vs ++ [(σ.ab σ.lv, ((2 - d : Nat) : Int))]) l.tail.tail) = g at M hno
        unfold shut
        split
        · rename_i hi
          obtain ⟨σ', f1, f2, f3, f4, f5⟩ := M.1 hi
          split
          · rename_i h41
            refine ⟨fun _ => ⟨adv σ' 41, ?_, ?_, ?_, ?_, ?_⟩, fun h => by cases h⟩
            · rw [f1]
              conv => lhs; rw [head_cons h41]
              exact run_yes (by rw [goes_whl f4, decide_eq_true (by omega)]; simp)
            · exact f2
            · rw [adv_shut]; simp only; omega
            · exact .inr rfl
            · intro j hj
              rw [adv_shut]
              simp only
              rw [f5 j (by omega)]
              exact if_neg (by omega)
          · rename_i h41
            refine ⟨(fun h => by cases h), fun _ => ⟨σ', ?_, fun _ h0 => by omega⟩⟩
            rw [f1]
            cases hgl : g.l with
            | nil => rfl
            | cons c cs =>
              refine run_no ?_
              rw [hgl] at h41 hno
              rw [goes_whl f4, f3]
              have k1 : (c == lt (3 - d)) = false := beq_eq_false_iff_ne.2 (fun e => hno ⟨hi, by rw [e]; rfl⟩)
              have k2 : (c == 41) = false := beq_eq_false_iff_ne.2 (fun e => h41 (by rw [e]; rfl))
              rw [k1, k2]; simp
        · rename_i hi
          refine ⟨fun h => absurd h hi, fun h => M.2 h⟩
      · rename_i h2
        refine ⟨(fun h => by cases h), fun _ => ⟨⟨σ.vs ++ [(σ.ab σ.lv, (σ.lv : Int))], σ.ab, σ.lv, lt (2 - d)⟩, ?_, fun _ h0 => by rw [hz h0]; simp⟩⟩
        rw [e1]
        simp only
        generalize l.tail = r at h2
        cases r with
        | nil => rfl
        | cons c cs =>
          refine run_no ?_
          rw [hgo2]
          exact beq_eq_false_iff_ne.2 (fun e => h2 (by rw [e]; rfl))
    · rename_i h
      refine ⟨(fun h => by cases h), fun _ => ?_⟩
      cases l with
      | nil => exact ⟨σ, rfl, fun _ h0 => by rw [hz h0]; simp⟩
      | cons c cs =>
        refine ⟨σ, run_no ?_, fun h => by cases h⟩
        rw [hgo c rfl]
        exact beq_eq_false_iff_ne.2 (fun e => h (by rw [e]; rfl))
/-- The document's own way to read a text. -/
def parseV (l : List UInt8) : List (Int × Int) × Nat × Int :=
  if (vx 3 (-1) [] l).is = true ∧ (vx 3 (-1) [] l).l = [] ∧ Tp.may (vx 3 (-1) [] l).t = true then ((vx 3 (-1) [] l).t, 0, 0)
  else ([], l.length - (vx 3 (-1) [] l).l.length, 2)
theorem parse_same (l : List UInt8) : parseV l = parse l := by
  obtain ⟨h1, h2⟩ := vx_came 3 (Nat.le_refl _) st0 l rfl (.inl (.inl rfl)) (fun _ => rfl)
  simp only [show st0.ab st0.lv = -1 from rfl, show st0.vs = [] from rfl] at h1 h2
  unfold parseV parse
  generalize vx 3 (-1) [] l = g at h1 h2
  cases hi : g.is
  · obtain ⟨σ', f1, f2⟩ := h2 hi
    rw [f1, if_neg (by simp), if_neg]
    rintro ⟨a, b, c⟩
    have := ((Tp.tree_iff _).1 c).two
    have := f2 a b
    simp only at *
    omega
  · obtain ⟨σ', f1, f2, f3, f4, f5⟩ := h1 hi
    have f6 : run σ' g.l = (σ', g.l) := by
      cases hgl : g.l with
      | nil => rfl
      | cons c cs => exact run_no (by rw [goes_whl f4, f3]; rfl)
    rw [f1, f6]
    simp only
    rw [f2, f3]
    simp [st0]
end Go.Proofs.Ytdhcnmcfgicbjaa.Tx

