/- Rows of numbers with their capacity; appends that make new memory. -/
import Derived.Test.YtceboejhdgjgoaaInts
import Derived.Test.YtceboejhdgjgoaaIn
import Derived.Test.YtceboejhdgjgoaaRPlain
import Derived.Test.YtceboejhdgjgoaaKeep
import Derived.ArgAppend
import Derived.Deep.RegionLawGrows
import Derived.Deep.RegionHeld3
import Derived.Deep.AppendLies
import Derived.Deep.DeepCutAuto
import Derived.Maps.AppendAt
import Derived.Laws.AppendOwn
import Derived.Laws.OwnMore
namespace Go.Proofs.Ytceboejhdgjgoaa
open Go.RowKit
set_option linter.unusedVariables false

/-- A slice of numbers, with its capacity. -/
structure Row (w : World) (A : Option Addr) (n c : Nat) (zs : List Int) : Prop where
  len : zs.length = n
  cap : n ≤ c
  most : c ≤ 9223372036854775807
  nil : A = none → c = 0
  row : IRow w w.heap.size A zs
theorem Row.below {w w' : World} {A : Option Addr} {n c : Nat} {zs : List Int} (h : Row w A n c zs) (hb : Below w.heap.size w w') : Row w' A n c zs :=
  ⟨h.len, h.cap, h.most, h.nil, (h.row.below hb).more hb.size⟩
theorem Row.nothing (w : World) : Row w none 0 0 [] := ⟨rfl, Nat.le_refl _, by omega, fun _ => rfl, fun i z h => by simp at h⟩
theorem Row.of_own {w : World} {base n : Nat} {e : TypeId} {v : Value} {zs : List Int} (h : w.ownsRow base e 1 v n (zs.map (Value.int .i64))) : ∃ A c, v = .slice A n c ∧ Row w A n c zs := by
  have hl := own_len h
  rcases h.2 with ⟨rfl, rfl⟩ | ⟨g, cap, cur, rfl, _, _, h1, h2, _⟩
  · exact ⟨_, _, rfl, hl, Nat.le_refl _, by omega, (fun _ => rfl), IRow.of_own h⟩
  · exact ⟨_, _, rfl, hl, h1, by unfold maxLen at h2; omega, (fun e => by cases e), IRow.of_own h⟩
/-- The address and the cells of a row that has a member. -/
theorem Row.cells {w : World} {A : Option Addr} {n c : Nat} {zs : List Int} (h : Row w A n c zs) (hn : 0 < n) : ∃ b off, A = some ⟨b, off, none⟩ ∧ b < w.heap.size ∧ ∀ j z, zs[j]? = some z → w.cell? ⟨b, off + j, none⟩ = some (.int .i64 z) := by
  obtain ⟨z0, h0⟩ : ∃ z, zs[0]? = some z := ⟨_, List.getElem?_eq_getElem (by rw [h.len]; exact hn)⟩
  obtain ⟨b, off, rfl, hb, _⟩ := h.row 0 z0 h0
  refine ⟨b, off, rfl, hb, fun j z hj => ?_⟩
  obtain ⟨b', off', e, _, hc⟩ := h.row j z hj
  injection e with e
  injection e with e1 e2
  subst e1 e2
  exact hc
theorem Row.drop {w : World} {b off n c : Nat} {zs : List Int} (h : Row w (some ⟨b, off, none⟩) n c zs) (k : Nat) (hk : k ≤ n) : Row w (some ⟨b, off + k, none⟩) (n - k) (c - k) (zs.drop k) := by
  refine ⟨by rw [List.length_drop, h.len], by have := h.cap; omega, by have := h.most; omega, fun e => (by cases e), fun i z hi => ?_⟩
  rw [List.getElem?_drop] at hi
  obtain ⟨b', off', e, hb, hc⟩ := h.row _ _ hi
  injection e with e
  injection e with e1 e2
  subst e1 e2
  exact ⟨_, _, rfl, hb, by rw [Nat.add_assoc]; exact hc⟩
theorem Row.take {w : World} {A : Option Addr} {n c : Nat} {zs : List Int} (h : Row w A n c zs) (k : Nat) (hk : k ≤ n) : Row w A k c (zs.take k) := by
  refine ⟨by rw [List.length_take, h.len]; omega, by have := h.cap; omega, h.most, h.nil, fun i z hi => ?_⟩
  rw [List.getElem?_take] at hi
  split at hi
  · exact h.row i z hi
  · cases hi
theorem Row.drew {w : World} {A : Option Addr} {n c : Nat} {zs : List Int} (h : Row w A n c zs) : Row w.drew A n c zs := ⟨h.len, h.cap, h.most, h.nil, h.row⟩
theorem Row.slice {w : World} {b off n c : Nat} {zs : List Int} (h : Row w (some ⟨b, off, Option.none⟩) n c zs) (k : Nat) (hk : k ≤ n) : Row w (if c = k then some ⟨b, off, Option.none⟩ else some ⟨b, off + k, Option.none⟩) (n - k) (c - k) (zs.drop k) := by
  by_cases e : c = k
  · rw [if_pos e]
    have h1 := h.cap
    have h2 : n - k = 0 := by omega
    have h3 : c - k = 0 := by omega
    rw [h2, h3, List.drop_of_length_le (by rw [h.len]; omega)]
    exact ⟨rfl, Nat.le_refl _, by omega, fun _ => rfl, fun i z hi => by simp at hi⟩
  · rw [if_neg e]
    exact h.drop k hk
theorem Row.icells {w : World} {b off n c : Nat} {zs : List Int} (h : Row w (some ⟨b, off, none⟩) n c zs) : ∀ j u, (zs.map (Value.int .i64))[j]? = some u → w.cell? ((⟨b, off, none⟩ : Addr).add j) = some u := by
  intro j u hj
  rw [List.getElem?_map] at hj
  cases hz : zs[j]? with
  | none => rw [hz] at hj; cases hj
  | some z =>
    rw [hz] at hj
    injection hj with hj
    subst hj
    obtain ⟨b', off', e, _, hc⟩ := h.row j z hz
    injection e with e
    injection e with e1 e2
    subst e1 e2
    rw [add_lit']
    exact hc
theorem Row.set {W : World} {X j n c : Nat} {A : Option Addr} {zs : List Int} {u : Value} (h : Row W A n c zs) (ha : From (X + 1) A) : Row (W.setCell ⟨X, j, Option.none⟩ u) A n c zs := by
  refine ⟨h.len, h.cap, h.most, h.nil, fun i z hi => ?_⟩
  obtain ⟨b, off, e, hb, hc⟩ := h.row i z hi
  have hne := ha _ e
  simp only at hne
  exact ⟨b, off, e, by simpa [World.setCell] using hb, (World.cell?_setCell_other _ _ _ _ (fun e => by injection e with e; omega)).trans hc⟩
theorem Row.from {w W : World} {A : Option Addr} {n c : Nat} {zs : List Int} (h : Row w A n c zs) (hb : Below w.heap.size w W) : Row W A n c zs := h.below hb
theorem Row.of_own' {w : World} {base n : Nat} {e : TypeId} {v : Value} {zs : List Int} (h : w.ownsRow base e 1 v n (zs.map (Value.int .i64))) : ∃ A c, v = .slice A n c ∧ Row w A n c zs ∧ From base A := by
  obtain ⟨A, c, rfl, hr⟩ := Row.of_own h
  refine ⟨A, c, rfl, hr, fun ad e => ?_⟩
  subst e
  exact (h.lt _ rfl).1
/-- What a call leaves that has made a row. -/
def MadeR (w0 : World) (zs : List Int) (e : Ending) (w' : World) : Prop :=
  ∃ A n c, e = .returned (.slice A n c) ∧ Row w' A n c zs ∧ From w0.heap.size A ∧ Below w0.heap.size w0 w'
/-- What a call leaves that has made a row, with the memory that it owns. -/
def MadeO (w0 : World) (zs : List Int) (e : Ending) (w' : World) : Prop :=
  ∃ v n, e = .returned v ∧ w'.ownsRow w0.heap.size 3 1 v n (zs.map (Value.int .i64)) ∧ Below w0.heap.size w0 w'
theorem MadeO.madeR {w0 w' : World} {zs : List Int} {e : Ending} (h : MadeO w0 zs e w') : MadeR w0 zs e w' := by
  obtain ⟨v, n, rfl, ho, hb⟩ := h
  obtain ⟨A, c, rfl, hr, hf⟩ := Row.of_own' ho
  exact ⟨A, n, c, rfl, hr, hf, hb⟩
end Go.Proofs.Ytceboejhdgjgoaa

