/- The closures of dist.Near: how far one is, how many steps off, and which of two is ahead; by contracts. -/
import Derived.Test.YtkjcihdejileoaaDFar
import Derived.Test.YtkjcihdejileoaaDSort
import Derived.Sort.Grow
namespace Go.Proofs.Ytkjcihdejileoaa
open Go.RowKit Go.Sort
set_option linter.unusedVariables false

theorem isNaN_any (x : Int) (w : World) : Calls Try.prog 43 #[.int .i64 x] w fun e w' => e = .returned (.bool false) ∧ w' = w := by
  have h : (x != x) = false := by simp
  go_enter Try.func43, Try.ntmps43
  go_wp2
  go_ret
  exact ⟨rfl, rfl⟩
theorem compare_any (x y : Int) (w : World) : Calls Try.prog 35 #[.int .i64 x, .int .i64 y] w fun e w' => e = .returned (.int .i64 (Dp.cmpI x y)) ∧ w' = w := by
  by_cases h1 : x < y
  · have H : Hid (Dp.cmpI x y = -1) := Lib.hid (by unfold Dp.cmpI; rw [if_pos h1])
    go_enter Try.func35, Try.ntmps35
    go_wp2_with (go_at_call 43; refine (isNaN_any _ _).mono ?_; rintro e w' ⟨rfl, rfl⟩)
    go_ret
    exact ⟨by rw [H.out]; rfl, rfl⟩
  · by_cases h2 : y < x
    · have H : Hid (Dp.cmpI x y = 1) := Lib.hid (by unfold Dp.cmpI; rw [if_neg h1, if_pos h2])
      go_enter Try.func35, Try.ntmps35
      go_wp2_with (go_at_call 43; refine (isNaN_any _ _).mono ?_; rintro e w' ⟨rfl, rfl⟩)
      go_ret
      exact ⟨by rw [H.out]; rfl, rfl⟩
    · have H : Hid (Dp.cmpI x y = 0) := Lib.hid (by unfold Dp.cmpI; rw [if_neg h1, if_neg h2])
      go_enter Try.func35, Try.ntmps35
      go_wp2_with (go_at_call 43; refine (isNaN_any _ _).mono ?_; rintro e w' ⟨rfl, rfl⟩)
      go_ret
      exact ⟨by rw [H.out]; rfl, rfl⟩
theorem or_any (b off c : Nat) (x y : Int) (w : World) (h1 : w.cell? ⟨b, off, none⟩ = some (.int .i64 x)) (h2 : w.cell? ⟨b, off + 1, none⟩ = some (.int .i64 y)) :
    Calls Try.prog 34 #[.slice (some ⟨b, off, none⟩) 2 c] w fun e w' => e = .returned (.int .i64 (Dp.orI x y)) ∧ w' = w := by
  go_enter Try.func34, Try.ntmps34
  go_wp2
  go_loop [8] (fun i => ∃ k : Nat, k ≤ 2 ∧ i = .int .i64 k ∧ Hid ((0 < k → x = 0) ∧ (1 < k → y = 0))) (fun i => 2 - (intOf i).toNat)
  case atStart => exact ⟨0, by omega, rfl, Lib.hid ⟨fun h => absurd h (by omega), fun h => absurd h (by omega)⟩⟩
  case round =>
    obtain ⟨k, hk, rfl, hno⟩ := hrel
    match k, hk with
    | 0, _ =>
      cases hx : (x != 0)
      · have hx0 : x = 0 := by simpa using hx
        have H : Hid ((0 < 1 → x = 0) ∧ (1 < 1 → y = 0)) := Lib.hid ⟨fun _ => hx0, fun h => absurd h (by omega)⟩
        clear hx0
        go_wp2
        go_round
        case rel => exact ⟨1, by omega, by go_num, H⟩
        case measure => simp [intOf]
      · have H : Hid (Dp.orI x y = x) := Lib.hid (by unfold Dp.orI; rw [if_neg (by simpa using hx)])
        go_wp2
        go_ret
        exact ⟨by rw [H.out]; rfl, rfl⟩
    | 1, _ =>
      have hx0 := hno.out.1 (by omega)
      have H : Hid (Dp.orI x y = y) := Lib.hid (by unfold Dp.orI; rw [if_pos hx0])
      clear hx0
      cases hy : (y != 0)
      · have hy0 : y = 0 := by simpa using hy
        have H2 : Hid ((0 < 2 → x = 0) ∧ (1 < 2 → y = 0)) := Lib.hid ⟨fun _ => hno.out.1 (by omega), fun _ => hy0⟩
        clear hy0
        go_wp2
        go_round
        case rel => exact ⟨2, by omega, by go_num, H2⟩
        case measure => simp [intOf]
      · go_wp2
        go_ret
        exact ⟨by rw [H.out]; rfl, rfl⟩
    | 2, _ =>
      have H : Hid (Dp.orI x y = 0) := Lib.hid (by unfold Dp.orI; rw [if_pos (hno.out.1 (by omega))]; exact hno.out.2 (by omega))
      go_wp2
      go_ret
      exact ⟨by rw [H.out]; rfl, rfl⟩

set_option maxHeartbeats 1000000 in
theorem farOf_quiet (A A1 : Option Addr) (n c m c1 : Nat) (vs : List (Int × Int)) (p q : Int) (bT bP bp : Nat) (w : World) (B : Nat)
    (hn : Hid (vs.length = n)) (hl : n ≤ 9223372036854775807) (hv : VRow w B A vs) (hI : IRow w B A1 (procsIf vs)) (hm : Hid (Dp.procsN vs = m)) (hml : m ≤ 64)
    (cT : w.cell? ⟨bT, 0, none⟩ = some (.slice A n c)) (cP : w.cell? ⟨bP, 0, none⟩ = some (.slice A1 m c1)) (cp : w.cell? ⟨bp, 0, none⟩ = some (.int .i64 p))
    (p0 : 0 ≤ p) (p1 : p < m) (q0 : 0 ≤ q) (q1 : q < m) :
    Calls Try.prog 30 #[.int .i64 q, .pointer (some ⟨bT, 0, none⟩), .pointer (some ⟨bP, 0, none⟩), .pointer (some ⟨bp, 0, none⟩)] w fun e w' => e = .returned (.int .i64 (Dp.far vs p q)) ∧ ∃ k, w' = w.drewN k := by
  have HF : Hid (Dp.far vs p q = Dp.farV vs (Dp.proc vs p) (Dp.proc vs q)) := Lib.hid (isP_far (isP_iff.2 (by rw [hm.out]; omega)) (isP_iff.2 (by rw [hm.out]; omega)))
  obtain ⟨i, rfl⟩ := Int.eq_ofNat_of_zero_le p0
  obtain ⟨j, rfl⟩ := Int.eq_ofNat_of_zero_le q0
  have him : i < m := by omega
  have hjm : j < m := by omega
  have pi := proc_of (vs := vs) (i := i) (by rw [hm.out]; exact him)
  have pj := proc_of (vs := vs) (i := j) (by rw [hm.out]; exact hjm)
  obtain ⟨pb1, po1, hA1, _, hca⟩ := hI i _ pi
  obtain ⟨pb2, po2, hA2, _, hcb⟩ := hI j _ pj
  subst hA1
  injection hA2 with hA2
  injection hA2 with e1 e2
  subst e1 e2
  generalize Dp.proc vs i = x at *
  generalize Dp.proc vs j = y at *
  have G : Hid (∀ k, Calls Try.prog 26 #[.slice A n c, .int .i64 x, .int .i64 y] (w.drewN k) fun e w' => e = .returned (.int .i64 (Dp.farV vs x y)) ∧ ∃ q', w' = (w.drewN k).drewN q') :=
    Lib.hid (fun k => apart_quiet A n c vs x y (w.drewN k) _ hn hl hv)
  clear pi pj hI p0 p1 q0 q1
  go_enter Try.func30, Try.ntmps30
  go_wp2_with fail
  go_quiet ((go_at_call 26; (with_reducible exact Calls.quiet_of (G.out _))))
  go_wp2_with fail
  go_ret
  exact ⟨by rw [HF.out]; rfl, _, rfl⟩

theorem stepsOf_any (m : Nat) (p q : Int) (bp bN : Nat) (w : World) (hml : m ≤ 64)
    (cp : w.cell? ⟨bp, 0, none⟩ = some (.int .i64 p)) (cN : w.cell? ⟨bN, 0, none⟩ = some (.int .i64 m))
    (p0 : 0 ≤ p) (p1 : p < m) (q0 : 0 ≤ q) (q1 : q < m) :
    Calls Try.prog 31 #[.int .i64 q, .pointer (some ⟨bp, 0, none⟩), .pointer (some ⟨bN, 0, none⟩)] w fun e w' => e = .returned (.int .i64 (Dp.steps p m q)) ∧ w' = w := by
  have s3 : ¬ m = 0 := by omega
  have H : Hid (Dp.steps p m q = (q - p + (m : Int)) % (m : Int)) := Lib.hid rfl
  go_enter Try.func31, Try.ntmps31
  go_wp2
  go_ret
  exact ⟨by rw [H.out]; rfl, rfl⟩
end Go.Proofs.Ytkjcihdejileoaa

