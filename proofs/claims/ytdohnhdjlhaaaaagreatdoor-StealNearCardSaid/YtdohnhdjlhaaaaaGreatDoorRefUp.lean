/- The document's own answer for what lies above a vertex comes to the plain function that topo.Up comes to. -/
import Derived.Test.YtdohnhdjlhaaaaaGreatDoorM0
namespace Go.Proofs.YtdohnhdjlhaaaaaGreatDoor
open Go.RowKit
set_option linter.unusedVariables false

theorem refUp_in (A : Option Addr) (n c : Nat) (vs : List (Int × Int)) (level : Int) (m : Nat) : ∀ (v : Int) (w : World), v < m →
    Hid (vs.length = n) → n ≤ 9223372036854775807 → VRow w w.heap.size A vs →
    Calls Tryz.prog 74 #[.slice A n c, .int .i64 v, .int .i64 level] w fun e w' => e = .returned (.int .i64 (Tp.up vs level n v)) ∧ w = w' := by
  have out : ∀ (v : Int) (w : World), n ≤ 9223372036854775807 → ¬ (0 ≤ v ∧ v < n) →
      Calls Tryz.prog 74 #[.slice A n c, .int .i64 v, .int .i64 level] w fun e w' => e = .returned (.int .i64 (Tp.up vs level n v)) ∧ w = w' := by
    intro v w hl hin
    have H : Hid (Tp.up vs level n v = -1) := Lib.hid (Tp.up_out hin)
    by_cases h0 : 0 ≤ v
    · have h1 : ¬ v < n := fun h => hin ⟨h0, h⟩
      have h2 : (n : Int) ≤ v := by omega
      have h3 : ¬ v < 0 := by omega
      clear hin h1
      go_enter Tryz.func74, Tryz.ntmps74
      go_wp2_with fail
      go_ret
      exact ⟨by rw [H.out]; rfl, rfl⟩
    · have h3 : v < 0 := by omega
      clear hin h0
      go_enter Tryz.func74, Tryz.ntmps74
      go_wp2_with fail
      go_ret
      exact ⟨by rw [H.out]; rfl, rfl⟩
  induction m with
  | zero => intro v w hm hn hl hv; exact out v w hl (by omega)
  | succ m ih =>
    intro v w hm hn hl hv
    by_cases hin : 0 ≤ v ∧ v < n
    · obtain ⟨h0, h1⟩ := hin
      obtain ⟨j, rfl⟩ := Int.eq_ofNat_of_zero_le h0
      obtain ⟨x, hx⟩ : ∃ x, vs[j]? = some x := ⟨_, List.getElem?_eq_getElem (by have := hn.out; omega)⟩
      obtain ⟨b, off, hA, hbk, hc1, hc2⟩ := hv j x hx
      subst hA
      have h3 : ¬ (n : Int) ≤ (j : Int) := by omega
      have h4 : ¬ (j : Int) < 0 := by omega
      have ih' : Hid (∀ (v : Int) (w : World), v < m → _) := ih
      clear ih out
      cases hp : (x.2 == level)
      · by_cases hge : (j : Int) ≤ x.1
        · have H : Hid (Tp.up vs level n j = -1) := Lib.hid (by rw [Tp.up_step (by omega) hx (by simpa using hp), Tp.up_out (by omega)])
          clear hx ih'
          go_enter Tryz.func74, Tryz.ntmps74
          go_wp2_with fail
          go_ret
          exact ⟨by rw [H.out]; rfl, rfl⟩
        · have H : Hid (Tp.up vs level n j = Tp.up vs level n x.1) := Lib.hid (by
            rw [Tp.up_step (by omega) hx (by simpa using hp)]
            exact Tp.up_bound (by omega) (by omega) (by have := hn.out; omega))
          clear hx
          go_enter Tryz.func74, Tryz.ntmps74
          go_wp2_with fail
          refine (ih'.out x.1 _ (by omega) hn hl hv).mono ?_
          rintro e w' ⟨rfl, rfl⟩
          go_wp2_with fail
          go_ret
          exact ⟨by rw [H.out]; rfl, rfl⟩
      · have H : Hid (Tp.up vs level n j = j) := Lib.hid (Tp.up_hit (by omega) hx (by simpa using hp))
        clear hx ih'
        go_enter Tryz.func74, Tryz.ntmps74
        go_wp2_with fail
        go_ret
        exact ⟨by rw [H.out]; rfl, rfl⟩
    · exact out v w hl hin
theorem refUp_any (A : Option Addr) (n c : Nat) (vs : List (Int × Int)) (v level : Int) (w : World)
    (hn : Hid (vs.length = n)) (hl : n ≤ 9223372036854775807) (hv : VRow w w.heap.size A vs) :
    Calls Tryz.prog 74 #[.slice A n c, .int .i64 v, .int .i64 level] w fun e w' => e = .returned (.int .i64 (Tp.up vs level n v)) ∧ w = w' :=
  refUp_in A n c vs level (v + 1).toNat v w (by omega) hn hl hv
end Go.Proofs.YtdohnhdjlhaaaaaGreatDoor

