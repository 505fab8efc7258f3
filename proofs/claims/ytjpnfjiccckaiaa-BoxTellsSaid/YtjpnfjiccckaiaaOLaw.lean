/- The mailboxes that a law keeps in its variables: four cells each, and their rows. -/
import Derived.Test.YtjpnfjiccckaiaaORecv
namespace Go.Proofs.Ytjpnfjiccckaiaa
open Go.RowKit
open Mp (Bo)
set_option linter.unusedVariables false

/-- A mailbox in a variable, with its rows. -/
structure BI (W : World) (b : Nat) (A1 : Option Addr) (n1 c1 : Nat) (A2 : Option Addr) (n2 c2 : Nat) (A3 : Option Addr) (n3 c3 : Nat) (x : Bo) : Prop where
  cel : Q4 W b (.int .i64 x.room) (.slice A1 n1 c1) (.slice A2 n2 c2) (.slice A3 n3 c3)
  tri : Tri W A1 n1 c1 A2 n2 c2 A3 n3 c3 x
theorem BI.step {W W' : World} {b : Nat} {A1 A2 A3 : Option Addr} {n1 c1 n2 c2 n3 c3 : Nat} {x : Bo} (h : BI W b A1 n1 c1 A2 n2 c2 A3 n3 c3 x) (hb : Below W.heap.size W W') : BI W' b A1 n1 c1 A2 n2 c2 A3 n3 c3 x := ⟨h.cel.step hb, h.tri.step hb⟩
theorem BI.new {W : World} {A1 A2 A3 : Option Addr} {n1 c1 n2 c2 n3 c3 : Nat} {x : Bo} (T : TypeId) (h : Tri W A1 n1 c1 A2 n2 c2 A3 n3 c3 x) : BI (W.alloc (.cells #[.int .i64 x.room, .slice A1 n1 c1, .slice A2 n2 c2, .slice A3 n3 c3] T)) W.heap.size A1 n1 c1 A2 n2 c2 A3 n3 c3 x := ⟨Q4.new _ _ _ _ _ _, h.alloc _⟩
theorem Tri.nothing (W : World) (r : Int) : Tri W none 0 0 none 0 0 none 0 0 ⟨r, [], [], []⟩ := ⟨Row.nothing W, PR.nothing W, Row.nothing W⟩
/-- What was there at the call is as it was. -/
structure Bl (w W : World) : Prop where
  b : Below w.heap.size w W
theorem Bl.step {w W W' : World} (h : Bl w W) (hb : Below W.heap.size W W') : Bl w W' := ⟨h.b.trans (hb.mono h.b.size)⟩
theorem below_then4 {W W' : World} (hb : Below W.heap.size W W') (x y z u : Value) (T : TypeId) : Below W.heap.size W (W'.alloc (.cells #[x, y, z, u] T)) := below_then hb _
theorem mod_nat (m : Nat) {z : Int} (h : 0 ≤ z) (hm : 0 < m) : ∃ r : Nat, z.tmod m = r ∧ z % m = r ∧ r < m := by
  obtain ⟨n, rfl⟩ := Int.eq_ofNat_of_zero_le h
  exact ⟨n % m, by rw [Int.tmod_eq_emod_of_nonneg h]; rfl, rfl, Nat.mod_lt _ hm⟩
theorem st_len (r a n : Nat) : (Mp.st r a n).msgs.length = min r (n - a) ∧ (Mp.st r a n).send.length = n - a - r ∧ (Mp.st r a n).recv.length = 0 := by simp [Mp.st]
theorem st_send (r i : Nat) : Mp.snd (Mp.st r 0 i) ((i : Int) + 1) ((i : Int) + 1) = (Mp.st r 0 (i + 1), 0, decide (i + 1 ≤ r)) := Mp.st_send r i
theorem st_recv (r a n : Nat) (h : a < n) : Mp.rcv (Mp.st r a n) 100 = (Mp.st r (a + 1) n, (a : Int) + 1, if r + (a + 1) ≤ n then (r : Int) + ((a : Int) + 1) else 0, true) := by
  have e : ((r + (a + 1) : Nat) : Int) = (r : Int) + ((a : Int) + 1) := by omega
  rw [Mp.st_recv r a n h, e]
  rfl
theorem st_room (r a n : Nat) : (Mp.st r a n).room = (r : Int) := rfl
/-- The variable is written anew. -/
theorem BI.put {W : World} {b : Nat} {x y z u : Value} {A1 A2 A3 : Option Addr} {n1 c1 n2 c2 n3 c3 : Nat} {x' : Bo} (h : Q4 W b x y z u) (t : Tri W A1 n1 c1 A2 n2 c2 A3 n3 c3 x') (f1 : From (b + 1) A1) (f2 : From (b + 1) A2) (f3 : From (b + 1) A3) :
    BI ((((W.setCell ⟨b, 0, none⟩ (.int .i64 x'.room)).setCell ⟨b, 1, none⟩ (.slice A1 n1 c1)).setCell ⟨b, 2, none⟩ (.slice A2 n2 c2)).setCell ⟨b, 3, none⟩ (.slice A3 n3 c3)) b A1 n1 c1 A2 n2 c2 A3 n3 c3 x' := ⟨h.put _ _ _ _, t.put f1 f2 f3⟩
theorem Tri.grown {W W' : World} {A1 A2 A3 : Option Addr} {n1 c1 n2 c2 n3 c3 : Nat} {b : Bo} {row : Option Nat} {B : Nat} (h : Tri W A1 n1 c1 A2 n2 c2 A3 n3 c3 b) (hg : W.grownBy W' row) (f1 : From B A1) (f2 : From B A2) (f3 : From B A3) (hr : ∀ k, row = some k → k < B) : Tri W' A1 n1 c1 A2 n2 c2 A3 n3 c3 b :=
  ⟨h.m.grown hg (fun ad e e' => by have h1 := f1 ad e; have h2 := hr _ e'.symm; omega), h.s.grown hg (fun ad e e' => by have h1 := f2 ad e; have h2 := hr _ e'.symm; omega), h.r.grown hg (fun ad e e' => by have h1 := f3 ad e; have h2 := hr _ e'.symm; omega)⟩
end Go.Proofs.Ytjpnfjiccckaiaa

