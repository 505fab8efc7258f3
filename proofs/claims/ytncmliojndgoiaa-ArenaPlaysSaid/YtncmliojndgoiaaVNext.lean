/- Live, Gen, Count, next: what they answer, by their contracts. -/
import Derived.Test.YtncmliojndgoiaaVMem
namespace Go.Proofs.Ytncmliojndgoiaa
open Go.RowKit
set_option linter.unusedVariables false

/-- One step forward: the arena stands in a world that has grown. -/
theorem live_any (b : Nat) (F : Nat → Prop) (a : Vp.Ar) (t g : Int) (w : World) (h : VAr w b F a t) (hg : In64 g) :
    Calls Try.prog 16 #[.pointer (some ⟨b, 0, none⟩), .int .i64 g] w fun e w' => e = .returned (.bool (a.live.contains g)) ∧ Below w.heap.size w w' := by
  obtain ⟨k, m, v, G, h1, h2, h3, h4, h5, h6, h7, h8, h9⟩ := h.mem
  obtain ⟨D, hD, hh, hs⟩ := h3
  have c3 := h2.m
  have HC := Lib.hid (hh g)
  have hkey := key_of hg
  clear h h1 h2 h4 h5 h6 h7 h8 h9 hh hs
  go_enter Try.func16, Try.ntmps16
  go_wp2_with (first | (at_lookup; refine wpList_lookup_own_unit _ rfl _ _ 49 rfl 3 53 keyint Try.underlying49 (zeroUnit _) m 64 D rfl hD _ _ rfl hkey ?_) | go_in)
  go_ret
  exact ⟨ret_bool HC.out, below_new _ _⟩
theorem live_nil (g : Int) (w : World) : Calls Try.prog 16 #[.pointer none, .int .i64 g] w fun e w' => e = .returned (.bool false) ∧ w = w' := by
  go_enter Try.func16, Try.ntmps16
  go_wp2_with fail
  go_ret
  exact ⟨rfl, rfl⟩
theorem gen_any (b : Nat) (F : Nat → Prop) (a : Vp.Ar) (t g : Int) (w : World) (h : VAr w b F a t) :
    Calls Try.prog 18 #[.pointer (some ⟨b, 0, none⟩), .int .i64 g] w fun e w' => e = .returned (.int .i64 (Vp.gen a g)) ∧ w = w' := by
  obtain ⟨k, m, v, G, h1, h2, h3, h4, h5, h6, h7, h8, h9⟩ := h.mem
  have hl := h1.gens
  have hm := h.room64
  have c0 := h2.r
  by_cases g1 : g < 1
  · have HC := Lib.hid (show Vp.gen a g = 0 by unfold Vp.gen; rw [if_pos (.inl g1)])
    clear h h1 h2 h3 h4 h5 h6 h7 h8 h9 hl hm
    go_enter Try.func18, Try.ntmps18
    go_wp2_with fail
    go_ret
    exact ⟨ret_int HC.out.symm, rfl⟩
  · by_cases g2 : (a.room : Int) < g
    · have HC := Lib.hid (show Vp.gen a g = 0 by unfold Vp.gen; rw [if_pos (.inr (by omega))])
      clear h h1 h2 h3 h4 h5 h6 h7 h8 h9 hl hm
      go_enter Try.func18, Try.ntmps18
      go_wp2_with fail
      go_ret
      exact ⟨ret_int HC.out.symm, rfl⟩
    · obtain ⟨j, rfl⟩ : ∃ j : Nat, g = j := ⟨g.toNat, by omega⟩
      have c := h2.g j (by omega)
      have HC := Lib.hid (show Vp.gen a j = G j by unfold Vp.gen; rw [if_neg (by omega), h6 j (by omega)]; rfl)
      have hj : (j : Int) < 65 := by omega
      clear h h1 h2 h3 h4 h5 h6 h7 h8 h9
      go_enter Try.func18, Try.ntmps18
      go_wp2_with fail
      go_ret
      exact ⟨ret_int HC.out.symm, rfl⟩
theorem gen_nil (g : Int) (w : World) : Calls Try.prog 18 #[.pointer none, .int .i64 g] w fun e w' => e = .returned (.int .i64 0) ∧ w = w' := by
  go_enter Try.func18, Try.ntmps18
  go_wp2_with fail
  go_ret
  exact ⟨rfl, rfl⟩
theorem count_any (b : Nat) (F : Nat → Prop) (a : Vp.Ar) (t : Int) (w : World) (h : VAr w b F a t) :
    Calls Try.prog 20 #[.pointer (some ⟨b, 0, none⟩)] w fun e w' => e = .returned (.int .i64 a.live.length) ∧ w = w' := by
  obtain ⟨k, m, v, G, h1, h2, h3, h4, h5, h6, h7, h8, h9⟩ := h.mem
  obtain ⟨D, hD, hh, hs⟩ := h3
  have c3 := h2.m
  have HC := Lib.hid hs
  clear h h1 h2 h4 h5 h6 h7 h8 h9 hh hs
  go_enter Try.func20, Try.ntmps20
  go_wp2_with (first | (at_len; refine wpList_len_own _ rfl _ 49 rfl 3 53 Try.underlying49 unitElem m 64 D rfl hD ?_) | go_in)
  go_ret
  exact ⟨ret_int (by rw [HC.out]), rfl⟩
theorem count_nil (w : World) : Calls Try.prog 20 #[.pointer none] w fun e w' => e = .returned (.int .i64 0) ∧ w = w' := by
  go_enter Try.func20, Try.ntmps20
  go_wp2_with fail
  go_ret
  exact ⟨rfl, rfl⟩
theorem next_nil (w : World) : Calls Try.prog 21 #[.pointer none] w fun e w' => e = .returned (.int .i64 0) ∧ w = w' := by
  go_enter Try.func21, Try.ntmps21
  go_wp2_with fail
  go_ret
  exact ⟨rfl, rfl⟩
/-- Somebody was freed: the last one is told, and struck off. -/
theorem next_freed (b m : Nat) (r k : Int) (g c : Nat) (n : Nat) (z : Int) (G : Nat → Int) (w : World) (h : VRaw w b m r k (.slice (some ⟨g, 0, none⟩) (n + 1) c) G) (hz : w.cell? ⟨g, n, none⟩ = some (.int .i64 z)) (hn : n + 1 ≤ c) (hc : c ≤ 9223372036854775807) :
    Calls Try.prog 21 #[.pointer (some ⟨b, 0, none⟩)] w fun e w' => e = .returned (.int .i64 z) ∧ w' = w.setCell ⟨b, 2, none⟩ (.slice (some ⟨g, 0, none⟩) n c) := by
  have c2 := h.f
  have f2 := h.z 2
  clear h
  go_enter Try.func21, Try.ntmps21
  go_wp2_with fail
  go_ret
  exact ⟨rfl, rfl⟩
/-- Nobody was freed, and one is left that never lived. -/
theorem next_new (b m : Nat) (r k : Nat) (A : Option Addr) (c : Nat) (G : Nat → Int) (w : World) (h : VRaw w b m r k (.slice A 0 c) G) (hk : k < r) (hr : r ≤ 64) :
    Calls Try.prog 21 #[.pointer (some ⟨b, 0, none⟩)] w fun e w' => e = .returned (.int .i64 (k + 1)) ∧ ∃ q, w' = (w.drewN q).setCell ⟨b, 1, none⟩ (.int .i64 (k + 1)) := by
  have c0 := h.r
  have c1 := h.k
  have c2 := h.f
  have f1 := h.z 1
  have hkr : ((k : Int) == (r : Int)) = false := by rw [beq_eq_false_iff_ne]; omega
  clear h
  go_enter Try.func21, Try.ntmps21
  go_wp2_with fail
  go_quiet (fail)
  go_wp2_with fail
  go_ret
  exact ⟨rfl, _, rfl⟩
/-- All live. -/
theorem next_none (b m : Nat) (r : Nat) (A : Option Addr) (c : Nat) (G : Nat → Int) (w : World) (h : VRaw w b m r r (.slice A 0 c) G) (hr : r ≤ 64) :
    Calls Try.prog 21 #[.pointer (some ⟨b, 0, none⟩)] w fun e w' => e = .returned (.int .i64 0) ∧ ∃ q, w' = w.drewN q := by
  have c0 := h.r
  have c1 := h.k
  have c2 := h.f
  clear h
  go_enter Try.func21, Try.ntmps21
  go_wp2_with fail
  go_quiet (fail)
  go_wp2_with fail
  go_ret
  exact ⟨rfl, _, rfl⟩
end Go.Proofs.Ytncmliojndgoiaa

