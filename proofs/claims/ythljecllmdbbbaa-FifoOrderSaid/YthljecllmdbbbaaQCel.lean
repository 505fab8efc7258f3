/- What the laws of layer 5 carry from call to call. -/
import Derived.Test.YthljecllmdbbbaaQShown
import Derived.Test.YthljecllmdbbbaaBFrame
import Derived.Test.YthljecllmdbbbaaQCel5
namespace Go.Proofs.Ythljecllmdbbbaa
open Go.RowKit
set_option linter.unusedVariables false

theorem all_row (b m : Nat) (q : List (List Int)) (k : Int) (w : World) (h : Ar w b m q) :
    Calls Try.prog 20 #[.pointer (some ⟨b, 0, none⟩), .int .i64 k] w (MadeR w (Qp.all q k)) := (all_any b m q k w h).mono fun _ _ h => h.madeR
theorem turned_lt {b m : Nat} {q : List (List Int)} {w w' : World} {v : Value} {e : Ending} (h : Turned b m q w v e w') : w.heap.size ≤ w'.heap.size := h.2.2.size
theorem nodup_one {m : Int} {l : List Int} (h : Qp.Ok m [l]) : l.Nodup := h.nodup 0 l rfl
theorem all_one (l : List Int) : Qp.all [l] 0 = l := rfl
theorem has_one (g : Int) (h1 : 1 ≤ g) (h2 : g ≤ 64) (k n : Nat) (hk : k < n) : (Qp.hasL (k : Int) (n : Int) && Qp.hasN g 64) = true := by
  rw [Bool.and_eq_true, Qp.hasL_iff, Qp.hasN_iff]; omega
/-- Pushed: there already, or the last one then. -/
theorem push_there {q : List (List Int)} {k : Nat} {g : Int} (hk : k < q.length) (h1 : 1 ≤ g) (h2 : g ≤ 64) (ho : 0 ≤ Qp.of q g) : Qp.push q 64 k g = (q, 5) := by
  unfold Qp.push
  rw [if_pos (has_one g h1 h2 k _ hk), if_pos ho]
theorem push_last {q : List (List Int)} {k : Nat} {g : Int} {l : List Int} (hl : q[k]? = some l) (h1 : 1 ≤ g) (h2 : g ≤ 64) (ho : Qp.of q g < 0) : Qp.push q 64 k g = (q.set k (l ++ [g]), 0) := by
  have hk := (List.getElem?_eq_some_iff.1 hl).1
  unfold Qp.push
  rw [if_pos (has_one g h1 h2 k _ hk), if_neg (by omega)]
  simp [List.getD_eq_getElem?_getD, hl]
theorem of_one {m : Int} {l : List Int} (h : Qp.Ok m [l]) {g : Int} (hg : g ∈ l) : Qp.of [l] g = 0 := Qp.of_eq h (i := 0) rfl hg
theorem of_gone {m : Int} {q : List (List Int)} (h : Qp.Ok m q) (g : Int) : Qp.of (Qp.drop q g) g = -1 := by rw [Qp.of_drop h, if_pos rfl]
theorem stands_one {m : Int} {l : List Int} (h : Qp.Ok m [l]) {g : Int} (hg : g ∈ l) : Qp.stands [l] g = true := by unfold Qp.stands; rw [of_one h hg]; rfl
theorem but_length {l : List Int} {g : Int} (hn : l.Nodup) (hg : g ∈ l) : (Qp.but g l).length + 1 = l.length := by
  obtain ⟨a, c, rfl⟩ := List.append_of_mem hg
  rw [Qp.but_mid hn]
  simp
  omega
theorem ints_row (A B : Option Addr) (n m c d : Nat) (zs ys : List Int) (w : World) (he : zs = ys) (h : Row w A n c zs) (hb : Row w B m d ys) :
    Calls Try.prog 19 #[.slice A n c, .slice B m d] w fun e w' => e = .returned (.bool true) ∧ Below w.heap.size w w' := by
  subst he
  have e1 := h.len
  have e2 := hb.len
  obtain rfl : n = m := by omega
  have h1 := h.cap
  have h2 := h.most
  exact ints_same A B n c d zs w (Lib.hid e1) (by omega) h.row hb.row
theorem Ar.grown {W W' : World} {b m : Nat} {q : List (List Int)} {row : Option Nat} (h : Ar W b m q) (hg : W.grownBy W' row) (hr : some b ≠ row) : Ar W' b m q := h.keep (hg.block b h.lt hr)
theorem Row.step {W W' : World} {A : Option Addr} {n c : Nat} {l : List Int} (h : Row W A n c l) (hb : Below W.heap.size W W') : Row W' A n c l := h.below hb
end Go.Proofs.Ythljecllmdbbbaa

