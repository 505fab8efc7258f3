/- sem.row, anybody, and first with it, by their contracts. -/
import Derived.Test.YtlcgadcbeoljbaaRApp
import Derived.Test.YtlcgadcbeoljbaaSPlain
namespace Go.Proofs.Ytlcgadcbeoljbaa
open Go.RowKit
set_option linter.unusedVariables false

theorem own_base2 {w : World} {b1 b2 n size : Nat} {e : TypeId} {v : Value} {xs : List Value} (h : w.ownsRow b1 e size v n xs) (hb : b2 ≤ b1) : w.ownsRow b2 e size v n xs := by
  refine ⟨h.1, ?_⟩
  rcases h.2 with h0 | ⟨g, cap, cur, e1, hg, h3⟩
  · exact .inl h0
  · exact .inr ⟨g, cap, cur, e1, Nat.le_trans hb hg, h3⟩
theorem row_own (A : Option Addr) (n c : Nat) (zs : List Int) (w : World) (h : Row w A n c zs) (hn : n ≤ 1000000) :
    Calls Try.prog 18 #[.slice A n c] w (MadeO w zs) := by
  go_enter Try.func18, Try.ntmps18
  go_wp2_with (at_builtin; refine wpList_append_row rfl _ _ rfl w.heap.size (.slice none 0 0) 0 [] rfl (World.ownsRow_nil _ _ _ _) A n c zs rfl h (by omega) (Nat.le_refl _) ?_)
  intro v1 w1 ho1 hg1
  have hb1 : Below w.heap.size w w1 := (Below.refl _ _).grown hg1 (Nat.le_refl _) (fun k hk => by simp [Value.ownBlock] at hk)
  clear hg1
  go_wp2_with fail
  go_ret
  exact ⟨v1, n, rfl, ho1, hb1⟩
theorem anybody_any (z : Int) (w : World) :
    Calls Try.prog 17 #[.int .i64 z] w fun e w' => e = .returned (.bool true) ∧ w' = w := by
  go_enter Try.func17, Try.ntmps17
  go_wp2_with fail
  go_ret
  exact ⟨rfl, rfl⟩
/-- Of a row the first one, and whether there is one. -/
theorem first_all (A : Option Addr) (n c : Nat) (zs : List Int) (w : World) (h : Row w A n c zs) :
    Calls Try.prog 16 #[.slice A n c, .func (.func 17) #[] #[]] w fun e w' => e = .returned (.tuple #[.int .i64 (zs.headD 0), .bool (decide (0 < n))]) ∧ Below w.heap.size w w' := by
  have h1 := h.cap
  have h2 := h.most
  have hlen := h.len
  have hcf : ∀ (args : Array Value) (W : World), (callFunc 17 args).run Try.prog W = .ok (.enter 17 args) W := fun _ _ => by kernel_rfl
  by_cases h0 : n = 0
  · subst h0
    obtain rfl : zs = [] := List.length_eq_zero_iff.1 hlen
    go_enter Try.func16, Try.ntmps16
    go_wp2_with fail
    go_loopw [11] (fun i wr => i = .int .i64 0 ∧ wr = w) (fun _ _ => 0)
    case atStart => exact ⟨rfl, rfl⟩
    case round =>
      obtain ⟨rfl, rfl⟩ := hrel
      go_wp2_with fail
      refine bodyPost_ret (v := .tuple #[.int .i64 0, .bool false]) (by simp [results, Try.results16, go_sem]) rfl ?_
      exact ⟨rfl, Below.refl _ _⟩
  · obtain ⟨z, t, rfl⟩ : ∃ z t, zs = z :: t := by cases zs with | nil => exact absurd hlen.symm h0 | cons z t => exact ⟨z, t, rfl⟩
    obtain ⟨b, off, rfl, hbk, hcs⟩ := h.cells (by omega)
    have hc0 := hcs 0 z rfl
    have n0 : (0 : Int) < (n : Int) := by omega
    have n1 : 0 < n := by omega
    have e1 : decide (0 < n) = true := by simpa using n1
    rw [e1, List.headD_cons]
    rw [Nat.add_zero] at hc0
    clear hcs hlen e1
    go_enter Try.func16, Try.ntmps16
    go_wp2_with fail
    go_loopw [11] (fun i wr => i = .int .i64 0 ∧ wr = w) (fun _ _ => 0)
    case atStart => exact ⟨rfl, rfl⟩
    case round =>
      obtain ⟨rfl, rfl⟩ := hrel
      go_wp2_with fail
      refine (anybody_any z _).mono ?_
      rintro e w1 ⟨rfl, rfl⟩
      go_wp2_with fail
      refine bodyPost_ret (v := .tuple #[.int .i64 z, .bool true]) (by simp [results, Try.results16, go_sem]) rfl ?_
      exact ⟨rfl, Below.refl _ _⟩
end Go.Proofs.Ytlcgadcbeoljbaa

