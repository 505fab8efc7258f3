/- Contracts and plain mathematics, put together by program (wip/merge.py) out of: WKeeps WLoc YTell ZOf ZOnes ZSet ZTz ZCnt. -/
import Derived.Test.YtcoccegmkcdeiaaDoorM8
import Derived.Test.YtcoccegmkcdeiaaDoorM7
import Derived.Test.YtcoccegmkcdeiaaDoorM0
import Derived.Test.YtcoccegmkcdeiaaDoorM6
import Derived.Test.YtcoccegmkcdeiaaDoorM1
import Derived.Laws.Bits128
/- Nothing is lost by stealing; what may be stays so; where who is told stood. -/
namespace Go.Proofs.YtcoccegmkcdeiaaDoor.Jp
set_option linter.unusedVariables false

variable {r r' : Rn} {k : Nat} {far g d : Int}
theorem ring_of (hk : k < r.rings.length) : ∃ x, r.rings[k]? = some x ∧ ringAt r k = x := ⟨_, List.getElem?_eq_getElem hk, ringAt_some (List.getElem?_eq_getElem hk)⟩
theorem half_mem {x : Int × List Int} {z : Int} (h : z ∈ (Rp.half x).2) : z ∈ Rp.all x := (Rp.perm_half x).mem_iff.1 (List.mem_append_right _ h)
theorem Sto.pos (h : Sto r k far r' g d) (hm : May r) : (g = 0 ∧ d = -1 ∧ r' = r ∧ victims r k far = [] ∧ (far < 3 ∨ firsts r (nodeOf r k) = Option.none)) ∨ (1 ≤ g ∧ 1 ≤ d ∧ d ≤ far) := by
  cases h with
  | ring q x g t hx hq hb h1 hf hv =>
    have : g ∈ Rp.all x := half_mem (by rw [hb]; exact List.mem_cons_self ..)
    exact .inr ⟨hm.once.1 g (mem_all.2 (.inl ⟨x, List.mem_of_getElem? hx, this⟩)), h1, hf⟩
  | row m g t hl hm' hf hv hfi => exact .inr ⟨hm.once.1 g (mem_all.2 (.inr ⟨_, List.mem_of_getElem? hl, List.mem_cons_self ..⟩)), by omega, hf⟩
  | none hv hn => exact .inl ⟨rfl, rfl, rfl, hv, hn⟩
theorem Sto.perm (h : Sto r k far r' g d) (ht : Thief r k) (hk : k < r.rings.length) (hg : g ≠ 0) : (g :: all r').Perm (all r) := by
  rw [List.perm_iff_count]
  intro z
  cases h with
  | ring q x g t hx hq hb h1 hf hv =>
    obtain ⟨y, hy, hy2⟩ := ring_of hk
    have ha : Rp.all y = [] := by have := ht.ring; rw [show ((k : Int).toNat) = k from rfl, hy2] at this; exact this
    have c1 := count_ringed (y := (Rp.half x).1) hx z
    have hk2 : (ringed r q (Rp.half x).1).rings[k]? = some y := by
      show (r.rings.set q (Rp.half x).1)[k]? = _
      rw [List.getElem?_set_ne hq]
      exact hy
    have c2 := count_ringed (y := (0, t)) hk2 z
    have c3 := (List.perm_iff_count.1 (Rp.perm_half x)) z
    rw [hb, List.count_append] at c3
    rw [ha, all_zero'] at c2
    simp only [List.count_cons, List.count_nil] at c2 c3 ⊢
    omega
  | row m g t hl hm' hf hv hfi =>
    have c1 := count_rowed (t := t) hl z
    simp only [List.count_cons] at c1 ⊢
    omega
  | none hv hn => exact absurd rfl hg
theorem Sto.tree (h : Sto r k far r' g d) : r'.tree = r.tree ∧ r'.size = r.size ∧ r'.on = r.on ∧ r'.rings.length = r.rings.length ∧ r'.rows.length = r.rows.length := by
  cases h with
  | ring q x g t hx hq hb h1 hf hv => exact ⟨rfl, rfl, rfl, by simp [ringed], rfl⟩
  | row m g t hl hm' hf hv hfi => exact ⟨rfl, rfl, rfl, rfl, by simp [rowed]⟩
  | none hv hn => exact ⟨rfl, rfl, rfl, rfl, rfl⟩
theorem Sto.may (h : Sto r k far r' g d) (ht : Thief r k) (hk : k < r.rings.length) : May r' := by
  have hm := ht.may
  rcases h.pos hm with ⟨_, _, e, _⟩ | ⟨h1, _⟩
  · rw [e]; exact hm
  have honce := once_tail hm.once (h.perm ht hk (by omega))
  obtain ⟨e1, e2, e3, e4, e5⟩ := h.tree
  refine ⟨by rw [e1]; exact hm.tree, by rw [e2]; exact hm.low, by rw [e2]; exact hm.high, by rw [e4, e1]; exact hm.rings, by rw [e5, e1]; exact hm.rows, by rw [e3]; exact hm.some, by rw [e3, e4]; exact hm.few, fun p y hy => ?_, honce⟩
  have hon : ∀ q, onP r' q = onP r q := fun q => by unfold onP; rw [e3]
  rw [e2, hon]
  have hyo := ring_once honce (List.mem_of_getElem? hy)
  cases h with
  | ring q x g t hx hq hb h1 hf hv =>
    have hs := may_size hm.low (hm.ring q x hx).1
    obtain ⟨l1, l2, l3⟩ := Rp.half_len x
    rw [hb, List.length_cons] at l2
    have hqon : onP r q = true := by
      rcases (hm.ring q x hx).2 with h' | h'
      · have := half_mem (x := x) (z := g) (by rw [hb]; exact List.mem_cons_self ..)
        rw [h'] at this
        cases this
      · exact h'
    have hy' : ((r.rings.set q (Rp.half x).1).set k (0, t))[p]? = some y := hy
    by_cases hp : k = p
    · subst hp
      rw [List.getElem?_set_self (by simpa using hk)] at hy'
      injection hy' with hy'
      subst hy'
      exact ⟨may_of hm.low (by simp only; omega) hyo, .inr ht.on⟩
    · rw [List.getElem?_set_ne hp] at hy'
      by_cases hq' : q = p
      · subst hq'
        rw [List.getElem?_set_self (List.getElem?_eq_some_iff.1 hx).1] at hy'
        injection hy' with hy'
        subst hy'
        exact ⟨may_of hm.low (by omega) hyo, .inr hqon⟩
      · rw [List.getElem?_set_ne hq'] at hy'
        exact hm.ring p y hy'
  | row m g t hl hm' hf hv hfi => exact hm.ring p y hy
  | none hv hn => exact hm.ring p y hy
/-- Where who is told stood. -/
theorem Sto.stood (h : Sto r k far r' g d) (hm : May r) (hg : g ≠ 0) : (∃ q : Nat, whr r g = ((q : Int), -1) ∧ d = Dp.far r.tree k q) ∨ (3 ≤ far ∧ d = 3 ∧ ∃ m : Nat, whr r g = (-1, (m : Int))) := by
  cases h with
  | ring q x g t hx hq hb h1 hf hv =>
    have hin : g ∈ Rp.all x := half_mem (by rw [hb]; exact List.mem_cons_self ..)
    exact .inl ⟨q, whr_ring hx (has_iff.2 hin) (fun j hj y hy => has_no.2 (fun h' => by have := once_ring hm.once hx hy hin h'; omega)), rfl⟩
  | row m g t hl hm' hf hv hfi =>
    refine .inr ⟨hf, rfl, m, whr_row ?_ hl (has_iff.2 (List.mem_cons_self ..)) ?_⟩
    · intro y hy
      obtain ⟨q, hq⟩ := List.mem_iff_getElem?.1 hy
      exact has_no.2 (fun h' => once_both hm.once hq hl h' (List.mem_cons_self ..))
    · intro j hj y hy
      exact has_no.2 (fun h' => by have := once_row hm.once hl hy (List.mem_cons_self ..) h'; omega)
  | none hv hn => exact absurd rfl hg
/-- As far as all: somebody is told, just if somebody stands anywhere. -/
theorem Sto.all_some (h : Sto r k far r' g d) (ht : Thief r k) (hk : k < r.rings.length) (h3 : 3 ≤ far) : g ≠ 0 ↔ all r ≠ [] := by
  have hm := ht.may
  constructor
  · intro hg e
    have := (h.perm ht hk hg).length_eq
    rw [e] at this
    simp at this
  · intro hne hg
    rcases h.pos hm with ⟨_, _, _, hv, hn⟩ | ⟨h1, _⟩
    · apply hne
      have hfi : firsts r (nodeOf r k) = Option.none := hn.resolve_left (by omega)
      rw [List.eq_nil_iff_forall_not_mem]
      intro z hz
      rcases mem_all.1 hz with ⟨x, hx, hzx⟩ | ⟨l, hl, hzl⟩
      · obtain ⟨q, hq⟩ := List.mem_iff_getElem?.1 hx
        have hql := (List.getElem?_eq_some_iff.1 hq).1
        by_cases e : q = k
        · subst e
          have := ht.ring
          rw [show ((q : Int).toNat) = q from rfl, ringAt_some hq] at this
          rw [this] at hzx
          cases hzx
        · have hin := (mem_victims (r := r) (p := k) (far := far) (q := q) hm (by omega) (by omega)).2 ⟨by omega, by omega, by omega, (by rw [show ((q : Int).toNat) = q from rfl, ringAt_some hq]; intro e; rw [e] at hzx; cases hzx), by have := (Dp.far_bounds r.tree k q).2; omega⟩
          rw [hv] at hin
          cases hin
      · obtain ⟨m, hm'⟩ := List.mem_iff_getElem?.1 hl
        by_cases e : m = nodeOf r k
        · have := ht.row
          rw [show ((k : Int).toNat) = k from rfl, ← e, rowAt_some hm'] at this
          rw [this] at hzl
          cases hzl
        · have := firsts_none (node_lt hm hk) hfi hm' e
          rw [this] at hzl
          cases hzl
    · omega
/-- Nearer: the same one, or nobody. -/
theorem near_same (ht : Thief r k) (hk : k < r.rings.length) {e : Int} (he : e < 3) (h : (stealOn r k e).2.1 ≠ 0) : (stealOn r k e).2.1 = (stealOn r k 3).2.1 ∧ (stealOn r k e).2.2 = (stealOn r k 3).2.2 := by
  have hp := victims_prefix (r := r) (p := k) (d := e) (e := 3) (by omega)
  cases ev : victims r k e with
  | nil =>
    exfalso
    apply h
    unfold stealOn
    rw [ev]
    simp only
    rw [if_pos he]
  | cons q l =>
    rw [ev] at hp
    obtain ⟨t, ht'⟩ := hp
    unfold stealOn
    rw [ev, ← ht']
    exact ⟨rfl, rfl⟩
theorem near_no (ht : Thief r k) (hk : k < r.rings.length) {e : Int} (he : e < 3) (h : (stealOn r k e).2.1 = 0) : (stealOn r k 3).2.1 = 0 ∨ e < (stealOn r k 3).2.2 := by
  have hm := ht.may
  have hs := sto ht hk e
  have hv : victims r k e = [] := by
    rcases hs.pos hm with ⟨_, _, _, hv, _⟩ | ⟨h1, _⟩
    · exact hv
    · omega
  have hs3 := sto ht hk 3
  generalize (stealOn r k 3).1 = a at hs3
  generalize (stealOn r k 3).2.1 = g3 at hs3 ⊢
  generalize (stealOn r k 3).2.2 = d3 at hs3 ⊢
  cases hs3 with
  | ring q x g t hx hq hb h1 hf hv3 =>
    right
    refine Int.not_le.1 (fun hle => ?_)
    obtain ⟨l, hl⟩ := hv3
    obtain ⟨_, _, _, hne, ha, _, _⟩ := victim_at (r := r) (p := k) (far := 3) (q := q) (by rw [hl]; exact List.mem_cons_self ..)
    have hin := (mem_victims (r := r) (p := k) (far := e) (q := q) hm (by omega) (by omega)).2 ⟨by omega, by have := (List.getElem?_eq_some_iff.1 hx).1; omega, hne, ha, hle⟩
    rw [hv] at hin
    cases hin
  | row m g t hl hm' hf hv hfi => right; omega
  | none hv hn => left; rfl
/-- Of the first victim. -/
theorem steal_first (ht : Thief r k) (hk : k < r.rings.length) {q : Int} {l : List Int} (hv : victims r k far = q :: l) : ∃ (j : Nat) (x : Int × List Int) (g : Int) (t : List Int), q = j ∧ j < r.rings.length ∧ j ≠ k ∧ r.rings[j]? = some x ∧ (Rp.half x).2 = g :: t ∧ stealOn r k far = (ringed (ringed r j (Rp.half x).1) k (0, t), g, Dp.far r.tree k j) := by
  obtain ⟨hm, _, ⟨j, rfl, hj⟩, hne, ha, hf, h1⟩ := victim_at (r := r) (p := k) (far := far) (q := q) (by rw [hv]; exact List.mem_cons_self ..)
  obtain ⟨x, hx, hx2⟩ := ring_of hj
  rw [show ((j : Int).toNat) = j from rfl, hx2] at ha
  obtain ⟨g, t, hb⟩ := half_told ha
  refine ⟨j, x, g, t, rfl, hj, by omega, hx, hb, ?_⟩
  unfold stealOn
  rw [hv]
  simp only
  rw [show ((j : Int).toNat) = j from rfl, hx2, hb]
  rfl
end Go.Proofs.YtcoccegmkcdeiaaDoor.Jp


/- Who is a thief, as find.Local tells; what turns nothing. -/
namespace Go.Proofs.YtcoccegmkcdeiaaDoor.Jp
set_option linter.unusedVariables false

theorem thief_loc {r : Rn} {p : Int} (hm : May r) (ho : onP r p = true) : Thief r p ↔ (loc r p 0).2.2 = 0 := by
  obtain ⟨k, rfl, hk⟩ := onP_lt hm ho
  rw [loc_on hm ho]
  have hw := way hm hk 0
  constructor
  · intro h
    have h1 := h.ring
    have h2 := h.row
    rw [show ((k : Int).toNat) = k from rfl] at h1 h2
    generalize (locOn r k 0).1 = a at hw
    generalize (locOn r k 0).2.1 = b at hw
    generalize (locOn r k 0).2.2 = c at hw ⊢
    cases hw with
    | row g t hl hc => rw [rowAt_some hl] at h2; cases h2
    | next g t hx hg hc => rw [ringAt_some hx, all_next hg] at h1; cases h1
    | ring g t hx hc => rw [ringAt_some hx, all_zero'] at h1; cases h1
    | none hx hl => rfl
  · intro h
    rcases hw.pos hm with ⟨_, _, _, hx, hl⟩ | ⟨_, h1⟩
    · exact ⟨hm, ho, by rw [show ((k : Int).toNat) = k from rfl, ringAt_some hx]; rfl, by rw [show ((k : Int).toNat) = k from rfl, rowAt_some hl]⟩
    · exact absurd h h1
theorem rowed_same {r : Rn} {m : Nat} {l : List Int} (h : r.rows[m]? = some l) : rowed r m l = r := by
  obtain ⟨h1, h2⟩ := List.getElem?_eq_some_iff.1 h
  unfold rowed
  rw [← h2, List.set_getElem_self]
/-- The half of a ring that may be has room in another one. -/
theorem half_short {r : Rn} (hm : May r) {q : Nat} {x : Int × List Int} (hx : r.rings[q]? = some x) : ((Rp.half x).2.length : Int) < 1 + r.size := by
  have h1 := may_size hm.low (hm.ring q x hx).1
  have h3 := hm.low
  unfold Rp.half
  by_cases h : x.2.length = 0
  · rw [if_pos h]
    have := Rp.all_length x
    simp only
    omega
  · rw [if_neg h]
    simp only [List.length_take]
    omega
theorem firsts_at {r : Rn} {n i m : Nat} (h1 : 1 ≤ i) (hi : i < r.rows.length) (hm : m = (n + i) % r.rows.length) (hb : ∀ j, 1 ≤ j → j < i → rowAt r ((n + j) % r.rows.length) = []) (hne : rowAt r m ≠ []) : firsts r n = some m := by
  subst hm
  unfold firsts round
  rw [List.find?_map]
  have : (List.range (r.rows.length - 1)).find? ((fun m => !(rowAt r m).isEmpty) ∘ fun j => (n + (j + 1)) % r.rows.length) = some (i - 1) := by
    rw [List.find?_range_eq_some]
    refine ⟨?_, List.mem_range.2 (by omega), fun j hj => ?_⟩
    · show (!(rowAt r ((n + (i - 1 + 1)) % r.rows.length)).isEmpty) = true
      rw [show i - 1 + 1 = i by omega, Bool.not_eq_true', List.isEmpty_eq_false_iff]
      exact hne
    · show (!(!(rowAt r ((n + (j + 1)) % r.rows.length)).isEmpty)) = true
      rw [hb (j + 1) (by omega) (by omega)]
      rfl
  rw [this]
  show some ((n + (i - 1 + 1)) % r.rows.length) = _
  rw [show i - 1 + 1 = i by omega]
theorem firsts_no {r : Rn} {n : Nat} (hb : ∀ j, 1 ≤ j → j < r.rows.length → rowAt r ((n + j) % r.rows.length) = []) : firsts r n = none := by
  unfold firsts round
  rw [List.find?_eq_none]
  intro m hm
  obtain ⟨j, hj, rfl⟩ := List.mem_map.1 hm
  rw [hb (j + 1) (by omega) (by have := List.mem_range.1 hj; omega)]
  decide
end Go.Proofs.YtcoccegmkcdeiaaDoor.Jp


/- What a call leaves that tells Runs and two numbers. -/
namespace Go.Proofs.YtcoccegmkcdeiaaDoor
open Go.RowKit
set_option linter.unusedVariables false

theorem RM.rowAt2 {F : Nat → Prop} {w : World} {d : Ad} {r : Jp.Rn} (h : RM F w d r) {i : Nat} {x : List Int} (hx : r.rows[i]? = some x) :
    ∃ b off A n c, d.S = some ⟨b, off, none⟩ ∧ b < w.heap.size ∧ w.cell? ⟨b, off + i, none⟩ = some (.slice A n c) ∧ Row w A n c x ∧ (x ≠ [] → ∀ ad, A = some ad → F ad.block) := by
  obtain ⟨gs, h1, h2, h3⟩ := h.rows
  rw [h2, List.getElem?_map] at hx
  cases he : gs[i]? with
  | none => rw [he] at hx; cases hx
  | some e =>
    rw [he] at hx
    injection hx with hx
    subst hx
    obtain ⟨b, off, e1, hb, hc⟩ := h1.cell i e he
    exact ⟨b, off, e.A, e.n, e.c, e1, hb, by have := hc 0 _ rfl; rw [Nat.mul_one] at this; exact this, h1.rows e (List.mem_of_getElem? he), h3.2 e (List.mem_of_getElem? he)⟩
/-- What a call leaves that tells Runs and two numbers. -/
def TellJG (F : Nat → Prop) (w0 : World) (p : Jp.Rn × Int × Int) (e : Ending) (w' : World) : Prop := ∃ d, e = .returned (.tuple #[jv d p.1, .int .i64 p.2.1, .int .i64 p.2.2]) ∧ RM (More F w0) w' d p.1 ∧ Below w0.heap.size w0 w'
theorem TellJG.is {F : Nat → Prop} {w0 w' : World} {d : Ad} {r : Jp.Rn} {g k : Int} {p : Jp.Rn × Int × Int} (hp : p = (r, g, k)) (h : RM (More F w0) w' d r) (hb : Below w0.heap.size w0 w') : TellJG F w0 p (.returned (.tuple #[jv d r, .int .i64 g, .int .i64 k])) w' := by
  subst hp
  exact ⟨d, rfl, h, hb⟩
theorem far5 {w : World} {b i X : Nat} {u0 u1 u2 u3 u4 v : Value} (hne : b ≠ X) (h : w.cell? ⟨b, i, none⟩ = some v) : (((((w.setCell ⟨X, 0, none⟩ u0).setCell ⟨X, 1, none⟩ u1).setCell ⟨X, 2, none⟩ u2).setCell ⟨X, 3, none⟩ u3).setCell ⟨X, 4, none⟩ u4).cell? ⟨b, i, none⟩ = some v :=
  farcell hne (farcell hne (farcell hne (farcell hne (farcell hne h))))
end Go.Proofs.YtcoccegmkcdeiaaDoor


/- bits.Of by its contract: the bits of all numbers that can be members. -/
namespace Go.Proofs.YtcoccegmkcdeiaaDoor
open Go.RowKit
set_option linter.unusedVariables false

theorem wrap_pow (m : Nat) (h : m < 64) : IntKind.u64.wrap ((2 : Int) ^ m) = ((2 ^ m : Nat) : Int) := by
  have h1 : 2 ^ m < 18446744073709551616 := by have := Nat.pow_lt_pow_right (a := 2) (by decide) h; omega
  rw [IntKind.wrap_u64, show (2 : Int) ^ m = ((2 ^ m : Nat) : Int) by rw [Int.natCast_pow]; rfl, Int.emod_eq_of_lt (Int.natCast_nonneg _) (by generalize 2 ^ m = q at h1; omega)]
theorem or_one (s m : Nat) (hs : s < 18446744073709551616) (h : m < 64) : bits .or .u64 (s : Int) (IntKind.u64.wrap ((2 : Int) ^ m)) = ((s ||| Zp.one (m : Int) : Nat) : Int) := by
  have h1 : 2 ^ m < 18446744073709551616 := by have := Nat.pow_lt_pow_right (a := 2) (by decide) h; omega
  rw [wrap_pow m h, bits_or_u64_nat _ _ hs h1, show Zp.one (m : Int) = 2 ^ m by unfold Zp.one; rw [if_pos (by omega), Int.toNat_natCast]]
theorem of_any (A : Option Addr) (n c : Nat) (zs : List Int) (w : World) (h : Row w A n c zs) :
    Calls Tryd.prog 53 #[.slice A n c] w fun e w' => e = .returned (.int .u64 (Zp.ofL zs : Nat)) ∧ w' = w := by
  have h1 := h.cap
  have h2 := h.most
  have H := Lib.hid h
  clear h
  go_enter Tryd.func53, Tryd.ntmps53
  go_wp2
  go_loop [3, 8] (fun s i => ∃ k : Nat, k ≤ n ∧ i = .int .i64 k ∧ s = .int .u64 (Zp.ofL (zs.take k) : Nat))
    (fun _ i => n - (intOf i).toNat)
  case atStart => exact ⟨0, Nat.zero_le _, rfl, rfl⟩
  case round =>
    obtain ⟨k, hk, rfl, rfl⟩ := hrel
    by_cases hlt : k < n
    · obtain ⟨x, hx⟩ : ∃ x, zs[k]? = some x := ⟨_, List.getElem?_eq_getElem (by have := H.out.len; omega)⟩
      obtain ⟨b, off, hA, hbk, hc⟩ := H.out.row k x hx
      subst hA
      have hs : zs.take (k + 1) = zs.take k ++ [x] := by rw [List.take_add_one, hx]; rfl
      have HS := Lib.hid (show Zp.ofL (zs.take (k + 1)) = Zp.ofL (zs.take k) ||| Zp.one x by rw [hs, Zp.ofL_snoc])
      have hlt64 := Zp.ofL_lt (zs.take k)
      generalize Zp.ofL (zs.take k) = s at HS hlt64
      clear hx hs
      by_cases hx0 : 0 ≤ x
      · by_cases hx1 : x < 64
        · obtain ⟨m, rfl⟩ := Int.eq_ofNat_of_zero_le hx0
          have hm : m < 64 := by omega
          go_wp2
          go_round
          case rel =>
            refine ⟨k + 1, by omega, by go_num, ?_⟩
            rw [HS.out, or_one s m hlt64 hm]
          case measure => simp [intOf]; omega
        · go_wp2
          go_round
          case rel => exact ⟨k + 1, by omega, by go_num, by rw [HS.out, show Zp.one x = 0 from if_neg (by omega), Nat.or_zero]⟩
          case measure => simp [intOf]; omega
      · go_wp2
        go_round
        case rel => exact ⟨k + 1, by omega, by go_num, by rw [HS.out, show Zp.one x = 0 from if_neg (by omega), Nat.or_zero]⟩
        case measure => simp [intOf]; omega
    · go_wp2
      go_ret
      have e := H.out.len
      rw [List.take_of_length_le (by omega)]
      exact ⟨rfl, rfl⟩
end Go.Proofs.YtcoccegmkcdeiaaDoor


/- How many members a set has, in plain mathematics: the bits of a number of 64, added up in pairs, in fours, in bytes. -/
namespace Go.Proofs.YtcoccegmkcdeiaaDoor.Zp

def cnt (k x : Nat) : Nat := (memTo k x).length
theorem cnt_zero (x : Nat) : cnt 0 x = 0 := rfl
theorem cnt_succ (k x : Nat) : cnt (k + 1) x = cnt k x + x / 2 ^ k % 2 := by
  unfold cnt
  rw [memTo_succ, List.length_append]
  congr 1
  rw [Nat.testBit_eq_decide_div_mod_eq]
  by_cases h : x / 2 ^ k % 2 = 1
  · rw [decide_eq_true h, if_pos rfl, h]; rfl
  · rw [decide_eq_false h, if_neg (by simp), List.length_nil]; omega
theorem cnt_le (k x : Nat) : cnt k x ≤ k := memTo_len k x
theorem cnt_split (j x : Nat) : cnt (8 + j) x = cnt 8 (x % 256) + cnt j (x / 256) := by
  induction j with
  | zero =>
    rw [cnt_zero, Nat.add_zero, Nat.add_zero]
    unfold cnt memTo bitsTo
    rw [show (List.range 8).filter (fun i => x.testBit i) = (List.range 8).filter (fun i => (x % 256).testBit i) from List.filter_congr fun i hi => by
      have := List.mem_range.1 hi
      rw [show (256 : Nat) = 2 ^ 8 from rfl, Nat.testBit_mod_two_pow, decide_eq_true this, Bool.true_and]]
  | succ j ih =>
    rw [← Nat.add_assoc, cnt_succ (8 + j), ih, cnt_succ j, Nat.add_assoc]
    have e : x / 2 ^ (8 + j) = x / 256 / 2 ^ j := by rw [Nat.pow_add, ← Nat.div_div_eq_div_mul]
    rw [e]
def g1 (b : Nat) : Nat := (b / 2 &&& 85) + (b &&& 85)
def g2 (c : Nat) : Nat := (c / 4 &&& 51) + (c &&& 51)
def g3 (c : Nat) : Nat := (c / 16 + c) &&& 15
theorem byte_ok : ∀ b, b < 256 → g1 b < 256 ∧ g2 (g1 b) < 256 ∧ g2 (g1 b) % 16 ≤ 4 ∧ g2 (g1 b) / 16 ≤ 4 ∧ g3 (g2 (g1 b)) = cnt 8 b := by decide +kernel
theorem lo85 : ∀ e, e < 2 → ∀ c, c < 128 → (128 * e + c) &&& 85 = c &&& 85 := by decide +kernel
theorem lo51 : ∀ e, e < 4 → ∀ c, c < 64 → (64 * e + c) &&& 51 = c &&& 51 := by decide +kernel
theorem lo15 (e c : Nat) : (16 * e + c) &&& 15 = c &&& 15 := by
  rw [show (15 : Nat) = 2 ^ 4 - 1 from rfl, Nat.and_two_pow_sub_one_eq_mod, Nat.and_two_pow_sub_one_eq_mod]; omega
def mk (d : Nat) : Nat → Nat
  | 0 => 0
  | k + 1 => 256 * mk d k + d
theorem mk_succ (d k : Nat) : mk d (k + 1) = 256 * mk d k + d := rfl
theorem mk85 : mk 85 8 = 6148914691236517205 := by decide +kernel
theorem mk51 : mk 51 8 = 3689348814741910323 := by decide +kernel
theorem mk15 : mk 15 8 = 1085102592571150095 := by decide +kernel
theorem and256 (a b c d : Nat) (hb : b < 256) (hd : d < 256) : (256 * a + b) &&& (256 * c + d) = 256 * (a &&& c) + (b &&& d) := by
  have h1 := Nat.and_div_two_pow (a := 256 * a + b) (b := 256 * c + d) (n := 8)
  have h2 := Nat.and_mod_two_pow (a := 256 * a + b) (b := 256 * c + d) (n := 8)
  have h3 := Nat.div_add_mod ((256 * a + b) &&& (256 * c + d)) 256
  rw [show (2 : Nat) ^ 8 = 256 from rfl] at h1 h2
  rw [show (256 * a + b) / 256 = a by omega, show (256 * c + d) / 256 = c by omega] at h1
  rw [show (256 * a + b) % 256 = b by omega, show (256 * c + d) % 256 = d by omega] at h2
  rw [← h3, h1, h2]
def Y1 (k x : Nat) : Nat := (x / 2 &&& mk 85 k) + (x &&& mk 85 k)
def Y2 (k x : Nat) : Nat := (x / 4 &&& mk 51 k) + (x &&& mk 51 k)
def Y3 (k x : Nat) : Nat := (x / 16 + x) &&& mk 15 k
theorem Y1_succ (k x b : Nat) (hb : b < 256) : Y1 (k + 1) (256 * x + b) = 256 * Y1 k x + g1 b := by
  unfold Y1 g1
  rw [mk_succ, show (256 * x + b) / 2 = 256 * (x / 2) + (128 * (x % 2) + b / 2) by omega, and256 _ _ _ _ (by omega) (by omega), and256 _ _ _ _ hb (by omega), lo85 _ (by omega) _ (by omega)]
  omega
theorem Y2_succ (k x b : Nat) (hb : b < 256) : Y2 (k + 1) (256 * x + b) = 256 * Y2 k x + g2 b := by
  unfold Y2 g2
  rw [mk_succ, show (256 * x + b) / 4 = 256 * (x / 4) + (64 * (x % 4) + b / 4) by omega, and256 _ _ _ _ (by omega) (by omega), and256 _ _ _ _ hb (by omega), lo51 _ (by omega) _ (by omega)]
  omega
theorem Y3_succ (k x b : Nat) (hx : x % 16 ≤ 4) (h1 : b % 16 ≤ 4) (h2 : b / 16 ≤ 4) : Y3 (k + 1) (256 * x + b) = 256 * Y3 k x + g3 b := by
  unfold Y3 g3
  rw [mk_succ, show (256 * x + b) / 16 + (256 * x + b) = 256 * (x / 16 + x) + (16 * (x % 16) + (b / 16 + b)) by omega, and256 _ _ _ _ (by omega) (by omega), lo15]
theorem Y2_low (k x : Nat) : Y2 k (Y1 k x) % 16 ≤ 4 := by
  cases k with
  | zero => simp [Y2, mk]
  | succ k =>
    obtain ⟨h1, h2, h3, _⟩ := byte_ok (x % 256) (by omega)
    rw [show Y1 (k + 1) x = 256 * Y1 k (x / 256) + g1 (x % 256) by rw [← Y1_succ _ _ _ (by omega)]; congr 1; omega, Y2_succ _ _ _ h1]
    omega
def S (k x : Nat) : Nat := Y3 k (Y2 k (Y1 k x))
theorem S_succ (k x : Nat) : S (k + 1) x = 256 * S k (x / 256) + cnt 8 (x % 256) := by
  obtain ⟨h1, h2, h3, h4, h5⟩ := byte_ok (x % 256) (by omega)
  unfold S
  rw [show Y1 (k + 1) x = 256 * Y1 k (x / 256) + g1 (x % 256) by rw [← Y1_succ _ _ _ (by omega)]; congr 1; omega, Y2_succ _ _ _ h1, Y3_succ _ _ _ (Y2_low _ _) h3 h4, h5]
theorem S_zero (x : Nat) : S 0 x = 0 := by simp [S, Y3, mk]
theorem fold_up (c0 c1 c2 c3 c4 c5 c6 c7 y3 y4 y5 y6 : Nat) (h0 : c0 ≤ 8) (h1 : c1 ≤ 8) (h2 : c2 ≤ 8) (h3 : c3 ≤ 8) (h4 : c4 ≤ 8) (h5 : c5 ≤ 8) (h6 : c6 ≤ 8) (h7 : c7 ≤ 8)
    (e3 : y3 = 256 * (256 * (256 * (256 * (256 * (256 * (256 * c7 + c6) + c5) + c4) + c3) + c2) + c1) + c0) (e4 : y4 = y3 + y3 / 256) (e5 : y5 = y4 + y4 / 65536) (e6 : y6 = y5 + y5 / 4294967296) :
    y6 % 128 = c0 + c1 + c2 + c3 + c4 + c5 + c6 + c7 ∧ y6 < 9223372036854775808 := by
  have d4 : y4 = 256 * (256 * (256 * (256 * (256 * (256 * (256 * c7 + (c6 + c7)) + (c5 + c6)) + (c4 + c5)) + (c3 + c4)) + (c2 + c3)) + (c1 + c2)) + (c0 + c1) := by omega
  have d5 : y5 = 256 * (256 * (256 * (256 * (256 * (256 * (256 * c7 + (c6 + c7)) + (c5 + c6 + c7)) + (c4 + c5 + c6 + c7)) + (c3 + c4 + c5 + c6)) + (c2 + c3 + c4 + c5)) + (c1 + c2 + c3 + c4)) + (c0 + c1 + c2 + c3) := by clear e3; omega
  clear e3 e4 d4 e5
  have q : y5 / 4294967296 = 256 * (256 * (256 * c7 + (c6 + c7)) + (c5 + c6 + c7)) + (c4 + c5 + c6 + c7) := by omega
  rw [q] at e6
  clear q
  have d6 : y6 = 256 * (256 * (256 * (256 * (256 * (256 * (256 * c7 + (c6 + c7)) + (c5 + c6 + c7)) + (c4 + c5 + c6 + c7)) + (c3 + c4 + c5 + c6 + c7)) + (c2 + c3 + c4 + c5 + c6 + c7)) + (c1 + c2 + c3 + c4 + c5 + c6 + c7)) + (c0 + c1 + c2 + c3 + c4 + c5 + c6 + c7) := by omega
  clear e6 d5
  omega
/-- The bits of a number of 64, by the steps of the library's text. -/
theorem ones_up (x y1 y2 y3 y4 y5 y6 : Nat) (e1 : y1 = (x / 2 &&& 6148914691236517205) + (x &&& 6148914691236517205)) (e2 : y2 = (y1 / 4 &&& 3689348814741910323) + (y1 &&& 3689348814741910323))
    (e3 : y3 = (y2 / 16 + y2) &&& 1085102592571150095) (e4 : y4 = y3 + y3 / 256) (e5 : y5 = y4 + y4 / 65536) (e6 : y6 = y5 + y5 / 4294967296) :
    y6 % 128 = (mem x).length ∧ y6 < 9223372036854775808 := by
  have hS : y3 = S 8 x := by
    unfold S Y3 Y2 Y1
    rw [mk85, mk51, mk15, e3, e2, e1]
  have hc : (mem x).length = cnt 64 x := rfl
  rw [hc, show cnt 64 x = cnt 8 (x % 256) + cnt 56 (x / 256) from cnt_split 56 x, show ∀ x, cnt 56 x = cnt 8 (x % 256) + cnt 48 (x / 256) from cnt_split 48, show ∀ x, cnt 48 x = cnt 8 (x % 256) + cnt 40 (x / 256) from cnt_split 40,
    show ∀ x, cnt 40 x = cnt 8 (x % 256) + cnt 32 (x / 256) from cnt_split 32, show ∀ x, cnt 32 x = cnt 8 (x % 256) + cnt 24 (x / 256) from cnt_split 24, show ∀ x, cnt 24 x = cnt 8 (x % 256) + cnt 16 (x / 256) from cnt_split 16,
    show ∀ x, cnt 16 x = cnt 8 (x % 256) + cnt 8 (x / 256) from cnt_split 8, show ∀ x, cnt 8 (x / 256) = cnt 8 (x / 256 % 256) + cnt 0 (x / 256 / 256) from fun x => cnt_split 0 _, cnt_zero]
  rw [S_succ 7, S_succ 6, S_succ 5, S_succ 4, S_succ 3, S_succ 2, S_succ 1, S_succ 0, S_zero, Nat.mul_zero, Nat.zero_add] at hS
  have r := fold_up _ _ _ _ _ _ _ _ y3 y4 y5 y6 (cnt_le 8 _) (cnt_le 8 _) (cnt_le 8 _) (cnt_le 8 _) (cnt_le 8 _) (cnt_le 8 _) (cnt_le 8 _) (cnt_le 8 _) hS e4 e5 e6
  clear hS e1 e2 e3 e4 e5 e6 hc
  omega
theorem y_bounds (x y1 y2 y3 : Nat) (e1 : y1 = (x / 2 &&& 6148914691236517205) + (x &&& 6148914691236517205)) (e2 : y2 = (y1 / 4 &&& 3689348814741910323) + (y1 &&& 3689348814741910323)) (e3 : y3 = (y2 / 16 + y2) &&& 1085102592571150095) :
    y1 ≤ 12297829382473034410 ∧ y2 ≤ 7378697629483820646 ∧ y3 ≤ 1085102592571150095 := by
  have a1 := Nat.and_le_right (n := x / 2) (m := 6148914691236517205)
  have a2 := Nat.and_le_right (n := x) (m := 6148914691236517205)
  have a3 := Nat.and_le_right (n := y1 / 4) (m := 3689348814741910323)
  have a4 := Nat.and_le_right (n := y1) (m := 3689348814741910323)
  have a5 := Nat.and_le_right (n := y2 / 16 + y2) (m := 1085102592571150095)
  refine ⟨?_, ?_, ?_⟩
  · rw [e1]; exact Nat.le_trans (Nat.add_le_add a1 a2) (by decide)
  · rw [e2]; exact Nat.le_trans (Nat.add_le_add a3 a4) (by decide)
  · rw [e3]; exact a5
/-! Joined, and one more. -/
theorem cnt_joins (a b : Nat) : ∀ k, cnt k (a ||| b) + cnt k (a &&& b) = cnt k a + cnt k b := by
  intro k
  unfold cnt
  induction k with
  | zero => rfl
  | succ k ih =>
    simp only [memTo_succ, List.length_append, Nat.testBit_or, Nat.testBit_and]
    cases a.testBit k <;> cases b.testBit k <;> simp <;> omega
theorem cnt_wth (x : Nat) (n : Int) : ∀ k, cnt k (wth x n) = cnt k x + if 0 ≤ n ∧ n < k ∧ n < 64 ∧ x.testBit n.toNat = false then 1 else 0 := by
  intro k
  unfold cnt
  induction k with
  | zero => rw [if_neg (by omega)]; rfl
  | succ k ih =>
    simp only [memTo_succ, List.length_append, wth_bit, ih]
    by_cases hk : (k : Int) = n
    · subst hk
      rw [if_neg (by omega)]
      by_cases h64 : k < 64
      · cases h : x.testBit k
        · simp [h64, h]; omega
        · simp [h64, h]
      · rw [if_neg (c := 0 ≤ (k : Int) ∧ _) (by omega)]
        simp [h64]
    · have e : (0 ≤ n ∧ n < ((k + 1 : Nat) : Int) ∧ n < 64 ∧ x.testBit n.toNat = false) ↔ (0 ≤ n ∧ n < (k : Int) ∧ n < 64 ∧ x.testBit n.toNat = false) := by
        constructor
        · rintro ⟨h1, h2, h3⟩; exact ⟨h1, by omega, h3⟩
        · rintro ⟨h1, h2, h3⟩; exact ⟨h1, by omega, h3⟩
      simp only [e, hk, false_and, decide_false, Bool.or_false]
      omega
theorem len_wth (x : Nat) (n : Int) : (mem (wth x n)).length = (mem x).length + if 0 ≤ n ∧ n < 64 ∧ has x n = false then 1 else 0 := by
  have h := cnt_wth x n 64
  unfold cnt at h
  unfold mem
  rw [h]
  congr 1
  have e : (0 ≤ n ∧ n < ((64 : Nat) : Int) ∧ n < 64 ∧ x.testBit n.toNat = false) ↔ (0 ≤ n ∧ n < 64 ∧ has x n = false) := by
    constructor
    · rintro ⟨h1, h2, h3, h4⟩
      obtain ⟨k, rfl⟩ := Int.eq_ofNat_of_zero_le h1
      refine ⟨h1, h3, ?_⟩
      rw [has_bit]; rw [Int.toNat_natCast] at h4; rw [h4]; simp
    · rintro ⟨h1, h2, h3⟩
      obtain ⟨k, rfl⟩ := Int.eq_ofNat_of_zero_le h1
      rw [has_bit] at h3
      refine ⟨h1, h2, h2, ?_⟩
      rw [Int.toNat_natCast]
      have : k < 64 := by omega
      simpa [this] using h3
  simp only [e]
theorem len_joins (a b : Nat) : (mem (a ||| b)).length + (mem (a &&& b)).length = (mem a).length + (mem b).length := cnt_joins a b 64
end Go.Proofs.YtcoccegmkcdeiaaDoor.Zp


/- Has, With, Without, from by their contracts. -/
namespace Go.Proofs.YtcoccegmkcdeiaaDoor
open Go.RowKit
set_option linter.unusedVariables false

theorem andnot_one (s : Nat) (n : Int) (hs : s < 18446744073709551616) : bits .andNot .u64 (s : Int) (Zp.one n : Nat) = ((Zp.wout s n : Nat) : Int) := by
  rw [u64_andNot_nat _ _ hs (Zp.one_lt n)]; rfl
theorem has_and (s : Nat) (n : Int) (hs : s < 18446744073709551616) : (bits .and .u64 (s : Int) (Zp.one n : Nat) != 0) = Zp.has s n := by
  rw [bits_and_u64_nat _ _ hs (Zp.one_lt n)]
  unfold Zp.has
  rw [Bool.eq_iff_iff, bne_iff_ne, decide_eq_true_eq]
  omega
theorem shifted (s m : Nat) (hs : s < 18446744073709551616) : IntKind.u64.wrap ((s : Int) / 2 ^ m * 2 ^ m) = ((s / 2 ^ m * 2 ^ m : Nat) : Int) := by
  have h1 : s / 2 ^ m * 2 ^ m < 18446744073709551616 := Nat.lt_of_le_of_lt (Nat.div_mul_le_self _ _) hs
  rw [IntKind.wrap_u64, show (s : Int) / 2 ^ m * 2 ^ m = ((s / 2 ^ m * 2 ^ m : Nat) : Int) by rw [Int.natCast_mul, Int.natCast_ediv, Int.natCast_pow]; rfl, Int.emod_eq_of_lt (Int.natCast_nonneg _) (by generalize s / 2 ^ m * 2 ^ m = q at h1; omega)]
theorem has_any (s : Nat) (n : Int) (w : World) (hs : s < 18446744073709551616) :
    Calls Tryd.prog 20 #[.int .u64 s, .int .i64 n] w fun e w' => e = .returned (.bool (Zp.has s n)) ∧ Below w.heap.size w w' := by
  have HR := Lib.hid (row_lit w [n] (by simp))
  have HB := Lib.hid (below_new w (.cells #[.int .i64 n] 3))
  go_enter Tryd.func20, Tryd.ntmps20
  go_wp2_with fail
  refine (of_any _ 1 1 [n] _ HR.out).mono ?_
  rintro e w1 ⟨rfl, rfl⟩
  rw [Zp.ofL_one]
  go_wp2_with fail
  go_ret
  refine ⟨?_, HB.out⟩
  rw [has_and _ _ hs]; rfl
theorem with_any (s : Nat) (n : Int) (w : World) (hs : s < 18446744073709551616) :
    Calls Tryd.prog 33 #[.int .u64 s, .int .i64 n] w fun e w' => e = .returned (.int .u64 (Zp.wth s n : Nat)) ∧ Below w.heap.size w w' := by
  have HR := Lib.hid (row_lit w [n] (by simp))
  have HB := Lib.hid (below_new w (.cells #[.int .i64 n] 3))
  go_enter Tryd.func33, Tryd.ntmps33
  go_wp2_with fail
  refine (of_any _ 1 1 [n] _ HR.out).mono ?_
  rintro e w1 ⟨rfl, rfl⟩
  rw [Zp.ofL_one]
  go_wp2_with fail
  go_ret
  refine ⟨?_, HB.out⟩
  rw [bits_or_u64_nat _ _ hs (Zp.one_lt n)]; rfl
theorem without_any (s : Nat) (n : Int) (w : World) (hs : s < 18446744073709551616) :
    Calls Tryd.prog 39 #[.int .u64 s, .int .i64 n] w fun e w' => e = .returned (.int .u64 (Zp.wout s n : Nat)) ∧ Below w.heap.size w w' := by
  have HR := Lib.hid (row_lit w [n] (by simp))
  have HB := Lib.hid (below_new w (.cells #[.int .i64 n] 3))
  go_enter Tryd.func39, Tryd.ntmps39
  go_wp2_with fail
  refine (of_any _ 1 1 [n] _ HR.out).mono ?_
  rintro e w1 ⟨rfl, rfl⟩
  rw [Zp.ofL_one]
  go_wp2_with fail
  go_ret
  refine ⟨?_, HB.out⟩
  rw [andnot_one _ _ hs]; rfl
end Go.Proofs.YtcoccegmkcdeiaaDoor


/- The library's TrailingZeros64 and OnesCount64 by their contracts; least, Count, Next. -/
namespace Go.Proofs.YtcoccegmkcdeiaaDoor
open Go.RowKit
set_option linter.unusedVariables false

/-- The library's table, as its initialiser lays it. -/
def Tab (w : World) : Prop := ∀ j, j < 64 → w.cell? ⟨0, j, none⟩ = some (.int .u8 (Lib.deBruijn64tab.getD j 0 : Nat))
theorem Tab.lt {w : World} (h : Tab w) : 0 < w.heap.size := World.block_lt_of_cell? _ _ (h 0 (by decide))
theorem Tab.step {w w' : World} (h : Tab w) (hb : Below w.heap.size w w') : Tab w' := fun j hj => keepcell hb (h j hj)
set_option maxHeartbeats 1000000 in
theorem tz_core (x k idx : Nat) (w : World) (hx0 : ((x : Int) == 0) = false)
    (key : IntKind.u64.wrap (bits BinOp.and IntKind.u64 (x : Int) (IntKind.u64.wrap (-(x : Int))) * 285870213051353865) / 288230376151711744 = (idx : Int))
    (hi : idx < 64) (hk : k < 64) (hcell : w.cell? ⟨0, idx, none⟩ = some (.int .u8 k)) :
    Calls Tryd.prog 82 #[.int .u64 x] w fun e w' => e = .returned (.int .i64 k) ∧ w' = w := by
  go_enter Tryd.func82, Tryd.ntmps82
  go_wp2_with (simp only [key])
  go_ret
  exact ⟨rfl, rfl⟩
theorem tz_key (x a : Nat) (hx : x < 18446744073709551616) (hx0 : x ≠ 0) (hlow : x &&& (18446744073709551616 - x) = a) :
    IntKind.u64.wrap (bits BinOp.and IntKind.u64 (x : Int) (IntKind.u64.wrap (-(x : Int))) * 285870213051353865) / 288230376151711744 = ((a * 285870213051353865 % 18446744073709551616 / 288230376151711744 : Nat) : Int) := by
  have e1 : IntKind.u64.wrap (-(x : Int)) = ((18446744073709551616 - x : Nat) : Int) := by rw [IntKind.wrap_u64]; omega
  rw [e1, bits_and_u64_nat x _ hx (by omega), hlow, IntKind.wrap_u64]
  omega
/-- The least member of a set that has one. -/
theorem tz_any (x : Nat) (w : World) (hx : x < 18446744073709551616) (hx0 : x ≠ 0) (hT : Tab w) :
    Calls Tryd.prog 82 #[.int .u64 x] w fun e w' => e = .returned (.int .i64 (Lib.ctz 64 x : Nat)) ∧ w' = w := by
  obtain ⟨hlow, hk⟩ := Lib.lowest_bit 64 x hx0 hx
  obtain ⟨hi, htab⟩ := Lib.deBruijn64_at _ hk
  have hcell := hT _ hi
  rw [htab] at hcell
  exact tz_core x _ _ w (by simp; omega) (tz_key x _ hx hx0 hlow) hi hk hcell
theorem least_any (x : Nat) (w : World) (hx : x < 18446744073709551616) (hx0 : x ≠ 0) (hT : Tab w) :
    Calls Tryd.prog 78 #[.int .u64 x] w fun e w' => e = .returned (.int .i64 (Lib.ctz 64 x : Nat)) ∧ w' = w := by
  go_enter Tryd.func78, Tryd.ntmps78
  go_wp2_with fail
  refine (tz_any x _ hx hx0 hT).mono ?_
  rintro e w1 ⟨rfl, rfl⟩
  go_wp2_with fail
  go_ret
  exact ⟨rfl, rfl⟩
end Go.Proofs.YtcoccegmkcdeiaaDoor


/- The library's OnesCount64 by its contract; Count. -/
namespace Go.Proofs.YtcoccegmkcdeiaaDoor
open Go.RowKit
set_option linter.unusedVariables false

theorem and_lit (a m : Nat) (ha : a < 18446744073709551616) (hm : m < 18446744073709551616) (z t : Int) (hz : z = (a : Int)) (ht : t = (m : Int)) : bits .and .u64 z t = ((a &&& m : Nat) : Int) := by
  subst hz ht; exact bits_and_u64_nat a m ha hm
theorem wrap_nat (a : Nat) (ha : a < 18446744073709551616) (z : Int) (hz : z = (a : Int)) : IntKind.u64.wrap z = (a : Int) := by
  subst hz; rw [IntKind.wrap_u64]; omega
theorem wrap_small (y : Nat) (h : y < 9223372036854775808) : wrap64 (y : Int) = (y : Int) := by
  have h1 : (0 : Int) ≤ (y : Int) + 9223372036854775808 := by omega
  have h2 : (y : Int) + 9223372036854775808 < 18446744073709551616 := by omega
  unfold wrap64
  rw [Int.emod_eq_of_lt h1 h2, Int.add_sub_cancel]
set_option maxHeartbeats 4000000 in
theorem ones_any (x : Nat) (w : World) (hx : x < 18446744073709551616) :
    Calls Tryd.prog 41 #[.int .u64 x] w fun e w' => e = .returned (.int .i64 ((Zp.mem x).length : Nat)) ∧ w' = w := by
  obtain ⟨y1, e1⟩ : ∃ y1, y1 = (x / 2 &&& 6148914691236517205) + (x &&& 6148914691236517205) := ⟨_, rfl⟩
  obtain ⟨y2, e2⟩ : ∃ y2, y2 = (y1 / 4 &&& 3689348814741910323) + (y1 &&& 3689348814741910323) := ⟨_, rfl⟩
  obtain ⟨y3, e3⟩ : ∃ y3, y3 = (y2 / 16 + y2) &&& 1085102592571150095 := ⟨_, rfl⟩
  obtain ⟨y4, e4⟩ : ∃ y4, y4 = y3 + y3 / 256 := ⟨_, rfl⟩
  obtain ⟨y5, e5⟩ : ∃ y5, y5 = y4 + y4 / 65536 := ⟨_, rfl⟩
  obtain ⟨y6, e6⟩ : ∃ y6, y6 = y5 + y5 / 4294967296 := ⟨_, rfl⟩
  obtain ⟨b1, b2, b3⟩ := Zp.y_bounds x y1 y2 y3 e1 e2 e3
  obtain ⟨r1, r2⟩ := Zp.ones_up x y1 y2 y3 y4 y5 y6 e1 e2 e3 e4 e5 e6
  have b0 : y2 / 16 + y2 < 18446744073709551616 := by clear r1 e1 e2 e3; omega
  have k1 : IntKind.u64.wrap (bits .and .u64 ((x : Int) / 2) 6148914691236517205 + bits .and .u64 (x : Int) 6148914691236517205) = (y1 : Int) := by
    rw [and_lit (x / 2) 6148914691236517205 (by omega) (by decide) ((x : Int) / 2) 6148914691236517205 (by omega) rfl, and_lit x 6148914691236517205 hx (by decide) (x : Int) 6148914691236517205 rfl rfl]
    exact wrap_nat y1 (by omega) _ (by rw [e1]; rfl)
  have k2 : IntKind.u64.wrap (bits .and .u64 ((y1 : Int) / 4) 3689348814741910323 + bits .and .u64 (y1 : Int) 3689348814741910323) = (y2 : Int) := by
    rw [and_lit (y1 / 4) 3689348814741910323 (by omega) (by decide) ((y1 : Int) / 4) 3689348814741910323 (by omega) rfl, and_lit y1 3689348814741910323 (by omega) (by decide) (y1 : Int) 3689348814741910323 rfl rfl]
    exact wrap_nat y2 (by omega) _ (by rw [e2]; rfl)
  have k3 : bits .and .u64 (IntKind.u64.wrap ((y2 : Int) / 16 + (y2 : Int))) 1085102592571150095 = (y3 : Int) := by
    rw [wrap_nat (y2 / 16 + y2) b0 _ (by omega), and_lit (y2 / 16 + y2) 1085102592571150095 b0 (by decide) ((y2 / 16 + y2 : Nat) : Int) 1085102592571150095 rfl rfl, e3]
  clear e1 e2 e3
  have k4 : IntKind.u64.wrap ((y3 : Int) + (y3 : Int) / 256) = (y4 : Int) := wrap_nat y4 (by omega) _ (by omega)
  have k5 : IntKind.u64.wrap ((y4 : Int) + (y4 : Int) / 65536) = (y5 : Int) := wrap_nat y5 (by omega) _ (by omega)
  have k6 : IntKind.u64.wrap ((y5 : Int) + (y5 : Int) / 4294967296) = (y6 : Int) := wrap_nat y6 (by omega) _ (by omega)
  have R := Lib.hid (show bits .and .i64 (wrap64 (y6 : Int)) 127 = ((Zp.mem x).length : Nat) by
    rw [i64_and127, ← r1, wrap_small y6 r2]; rfl)
  clear e4 e5 e6 r1 r2 b1 b2 b3 b0
  go_enter Tryd.func41, Tryd.ntmps41
  go_wp2_with (simp only [k1])
  go_ret
  exact ⟨by rw [R.out]; rfl, rfl⟩
theorem count_any (x : Nat) (w : World) (hx : x < 18446744073709551616) :
    Calls Tryd.prog 12 #[.int .u64 x] w fun e w' => e = .returned (.int .i64 ((Zp.mem x).length : Nat)) ∧ w' = w := by
  go_enter Tryd.func12, Tryd.ntmps12
  go_wp2_with fail
  refine (ones_any x _ hx).mono ?_
  rintro e w1 ⟨rfl, rfl⟩
  go_wp2_with fail
  go_ret
  exact ⟨rfl, rfl⟩
end Go.Proofs.YtcoccegmkcdeiaaDoor

