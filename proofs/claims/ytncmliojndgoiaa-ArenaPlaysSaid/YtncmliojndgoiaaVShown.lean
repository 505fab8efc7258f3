/- The document's example at the head of all statements: it is as shown. What the laws of layer 8 carry from call to call. -/
import Derived.Test.YtncmliojndgoiaaVFree
namespace Go.Proofs.Ytncmliojndgoiaa
open Go.RowKit
set_option linter.unusedVariables false

/-- The arena that a call has made: it lies in memory of the call's own; what was there at the call is as it was. -/
structure VC (w wr : World) (b : Nat) (F : Nat → Prop) (a : Vp.Ar) (t : Int) : Prop where
  ar : VAr wr b F a t
  low : ∀ k, F k → w.heap.size ≤ k
  below : Below w.heap.size w wr
theorem VC.step {w wr w' : World} {b : Nat} {F : Nat → Prop} {a : Vp.Ar} {t : Int} (h : VC w wr b F a t) (hb : Below wr.heap.size wr w') : VC w w' b F a t := ⟨h.ar.step hb, h.low, h.below.trans (hb.mono h.below.size)⟩
theorem VC.took {w wr w' : World} {b : Nat} {F : Nat → Prop} {a a' : Vp.Ar} {t t' : Int} {v : Value} {e : Ending} (h : VC w wr b F a t) (ht : VTurn1 b F a' t' wr v e w') : VC w w' b F a' t' := ⟨ht.2.1, h.low, ht.2.2.below h.below h.low h.below.size⟩
theorem VC.freed {w wr w' : World} {b : Nat} {F F' : Nat → Prop} {a a' : Vp.Ar} {t t' : Int} (h : VC w wr b F a t) (h1 : VAr w' b F' a' t') (h2 : Kept F wr w') (h3 : ∀ k, F' k → F k ∨ wr.heap.size ≤ k) : VC w w' b F' a' t' :=
  ⟨h1, fun k hk => (h3 k hk).elim (h.low k) (fun hk => Nat.le_trans h.below.size hk), h2.below h.below h.low h.below.size⟩
theorem VC.new {w w1 w' : World} {n : Nat} {e : Ending} (hb : Below w.heap.size w w1) (h : NewV n w1 e w') : VC w w' (w1.heap.size + 1) (fun k => k = w1.heap.size ∨ k = w1.heap.size + 1) (Vp.new n) 0 :=
  ⟨h.2.1, fun k hk => by have := hb.size; omega, hb.trans (h.2.2.mono hb.size)⟩
theorem gen_new (n : Nat) (g : Int) : Vp.gen (Vp.new n) g = 0 := by
  by_cases h : g < 1
  · unfold Vp.gen; rw [if_pos (.inl h)]
  · exact (Vp.Ok.new n).none g (by omega)
theorem shown_any (w : World) : Calls Try.prog 9 #[] w fun e w' => e = .returned (.bool true) ∧ Below w.heap.size w w' := by
  go_enter Try.func9, Try.ntmps9
  go_wp2_with fail
  refine (new_yes 3 w (by omega) (by omega)).mono ?_
  intro e w1 hn
  have C1 := Lib.hid (VC.new (Below.refl _ w) hn)
  obtain ⟨rfl, hx⟩ := hn
  clear hx
  generalize w.heap.size + 1 = b at C1 ⊢
  generalize (fun k => k = w.heap.size ∨ k = b) = F at C1
  go_wp2_with fail
  refine (take_any b F _ 0 w1 C1.out.ar (by omega)).mono ?_
  intro e w2 ht
  have C2 := Lib.hid (C1.out.took ht)
  obtain ⟨rfl, hx⟩ := ht
  clear hx
  rw [show (Vp.take (Vp.new 3)).1 = ⟨3, [1], [], [0, 1, 0, 0]⟩ from rfl] at C2
  rw [show tookV (Vp.new 3) = .tuple #[.int .i64 1, .int .i64 1, .bool true] from rfl]
  go_wp2_with fail
  refine (take_any b F _ _ w2 C2.out.ar (by omega)).mono ?_
  intro e w3 ht
  have C3 := Lib.hid (C2.out.took ht)
  obtain ⟨rfl, hx⟩ := ht
  clear hx
  rw [show (Vp.take ⟨3, [1], [], [0, 1, 0, 0]⟩).1 = ⟨3, [1, 2], [], [0, 1, 1, 0]⟩ from rfl] at C3
  rw [show tookV ⟨3, [1], [], [0, 1, 0, 0]⟩ = .tuple #[.int .i64 2, .int .i64 1, .bool true] from rfl]
  go_wp2_with fail
  refine (free_any b F _ _ 1 w3 C3.out.ar (by unfold In64; omega)).mono ?_
  rintro e w4 ⟨rfl, F4, h1, h2, h3⟩
  have C4 := Lib.hid (C3.out.freed h1 h2 h3)
  rw [show (Vp.free ⟨3, [1, 2], [], [0, 1, 1, 0]⟩ 1).1 = ⟨3, [2], [1], [0, 1, 1, 0]⟩ from rfl] at C4
  rw [show (([1, 2] : List Int).contains 1) = true from rfl]
  clear h1 h2 h3
  go_wp2_with fail
  refine (take_any b F4 _ _ w4 C4.out.ar (by omega)).mono ?_
  intro e w5 ht
  have C5 := Lib.hid (C4.out.took ht)
  obtain ⟨rfl, hx⟩ := ht
  clear hx
  rw [show (Vp.take ⟨3, [2], [1], [0, 1, 1, 0]⟩).1 = ⟨3, [2, 1], [], [0, 2, 1, 0]⟩ from rfl] at C5
  rw [show tookV ⟨3, [2], [1], [0, 1, 1, 0]⟩ = .tuple #[.int .i64 1, .int .i64 2, .bool true] from rfl]
  go_wp2_with fail
  refine (count_any b F4 _ _ w5 C5.out.ar).mono ?_
  rintro e w6 ⟨rfl, rfl⟩
  go_wp2_with fail
  go_ret
  exact ⟨rfl, C5.out.below⟩
end Go.Proofs.Ytncmliojndgoiaa

