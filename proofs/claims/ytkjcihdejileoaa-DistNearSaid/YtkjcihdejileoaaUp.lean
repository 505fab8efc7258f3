/- topo.Up comes to a plain function of the vertices. -/
import Derived.Test.YtkjcihdejileoaaBase
import Derived.Test.YtkjcihdejileoaaPlain
namespace Go.Proofs.Ytkjcihdejileoaa
open Go.RowKit
set_option linter.unusedVariables false

set_option maxHeartbeats 1600000 in
/-- The world stays as it was, but for what is drawn. -/
theorem up_quiet (A : Option Addr) (n c : Nat) (vs : List (Int × Int)) (v level : Int) (w : World) (B : Nat)
    (hn : Hid (vs.length = n)) (hl : n ≤ 9223372036854775807) (hv : VRow w B A vs) :
    Calls Try.prog 29 #[.slice A n c, .int .i64 v, .int .i64 level] w fun e w' => e = .returned (.int .i64 (Tp.up vs level n v)) ∧ ∃ q, w' = w.drewN q := by
  go_enter Try.func29, Try.ntmps29
  go_wp2
  go_loopw [1, 7] (fun u i wr => ∃ (b : Nat) (v' : Int), b ≤ n ∧ i = .int .i64 b ∧ u = .int .i64 v' ∧ Hid (Tp.up vs level n v = Tp.up vs level b v') ∧ Hid (∃ q, wr = w.drewN q))
    (fun _ i _ => (intOf i).toNat)
  case atStart => exact ⟨n, v, Nat.le_refl _, rfl, rfl, Lib.hid rfl, Lib.hid ⟨0, rfl⟩⟩
  case round =>
    obtain ⟨k, v', hk, rfl, rfl, hup, hbe⟩ := hrel
    have hvr : VRow wr B A vs := by
      obtain ⟨q, e⟩ := hbe.out
      rw [e]; exact hv
    by_cases hin : 0 ≤ v' ∧ v' < k
    · obtain ⟨h0, h1⟩ := hin
      obtain ⟨j, rfl⟩ := Int.eq_ofNat_of_zero_le h0
      obtain ⟨x, hx⟩ : ∃ x, vs[j]? = some x := ⟨_, List.getElem?_eq_getElem (by have := hn.out; omega)⟩
      obtain ⟨b, off, hA, hbk, hc1, hc2⟩ := hvr j x hx
      subst hA
      cases hp : (x.2 == level)
      · have H : Hid (Tp.up vs level n v = Tp.up vs level j x.1) := Lib.hid (by rw [hup.out, Tp.up_step (by omega) hx (by simpa using hp)])
        clear hx
        go_wp2
        go_quiet (fail)
        go_wp2
        go_roundw
        case rel =>
          refine ⟨j, x.1, by omega, rfl, rfl, H, ?_⟩
          obtain ⟨q, e⟩ := hbe.out
          exact Lib.hid ⟨_, by rw [e, World.drewN_drewN]⟩
        case measure => simp [intOf]; omega
      · have H : Hid (Tp.up vs level n v = j) := Lib.hid (by rw [hup.out, Tp.up_hit (by omega) hx (by simpa using hp)])
        clear hx
        go_wp2
        go_ret
        exact ⟨by rw [H.out]; rfl, hbe.out⟩
    · have H : Hid (Tp.up vs level n v = -1) := Lib.hid (by rw [hup.out, Tp.up_out hin])
      by_cases h0 : 0 ≤ v'
      · have h1 : ¬ v' < k := fun h => hin ⟨h0, h⟩
        clear hin
        go_wp2
        go_ret
        exact ⟨by rw [H.out]; rfl, hbe.out⟩
      · clear hin
        go_wp2
        go_ret
        exact ⟨by rw [H.out]; rfl, hbe.out⟩
theorem up_any (A : Option Addr) (n c : Nat) (vs : List (Int × Int)) (v level : Int) (w : World)
    (hn : Hid (vs.length = n)) (hl : n ≤ 9223372036854775807) (hv : VRow w w.heap.size A vs) :
    Calls Try.prog 29 #[.slice A n c, .int .i64 v, .int .i64 level] w fun e w' => e = .returned (.int .i64 (Tp.up vs level n v)) ∧ Below w.heap.size w w' :=
  (up_quiet A n c vs v level w _ hn hl hv).mono fun _ _ ⟨he, q, hq⟩ => ⟨he, by rw [hq]; exact below_drewN (Below.refl _ _) q⟩

end Go.Proofs.Ytkjcihdejileoaa

