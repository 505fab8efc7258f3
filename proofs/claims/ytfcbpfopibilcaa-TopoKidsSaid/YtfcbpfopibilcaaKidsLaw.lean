/- TopoKids: of a tree that may be each vertex but the first one lies below just one; processors have none below; as many lie below all together as there are, less one: the call answers true and changes nothing that was there; for every input. -/
import Derived.Test.YtfcbpfopibilcaaShown
import Derived.Test.YtfcbpfopibilcaaTree
import Derived.Test.YtfcbpfopibilcaaFrame
namespace Go.Proofs.Ytfcbpfopibilcaa.topoKids
open Go.ChangeShapes Go.WideShapes Go.ChangeAt Go.RowKit
set_option linter.unusedVariables false

set_option maxHeartbeats 4000000 in
set_option maxRecDepth 100000 in
theorem walk (A : Option Addr) (n c : Nat) (vs : List (Int × Int)) (w : World)
    (hn : Hid (vs.length = n)) (hl : n ≤ 9223372036854775807) (hf : Hid (Fit vs)) (hv : VRow w w.heap.size A vs) :
    Calls Try.prog 5 #[.slice A n c] w fun e w' => e = .returned (.bool true) ∧ Below w.heap.size w w' := by
  go_enter Try.func5, Try.ntmps5
  go_wp2_with fail
  refine (shown_any _).mono ?_
  rintro e w1 ⟨rfl, hb1⟩
  have hv1 := (hv.below hb1).more hb1.size
  go_wp2_with fail
  refine (check_any _ n c vs _ hn hl hf hv1).mono ?_
  rintro e w2 ⟨he, hb2⟩
  have hbe2 := hb1.trans (hb2.mono hb1.size)
  clear hb1 hb2 hv1
  cases hm : Tp.may vs
  · rw [hm] at he
    have he' : e = .returned (.int .i64 2) := he
    subst he'
    clear hm he
    go_wp2_with fail
    go_ret
    exact ⟨rfl, hbe2⟩
  · rw [hm] at he
    have he' : e = .returned (.int .i64 0) := he
    subst he'
    have T := (Tp.tree_iff vs).1 hm
    have h64 : n ≤ 64 := by have := T.few; have := hn.out; omega
    have h1n : 1 ≤ n := by have := T.pos; have := hn.out; omega
    clear hm he
    go_wp2_with fail
    go_loopw [4, 5] (fun s i wr => ∃ k m : Nat, k ≤ n ∧ m ≤ n ∧ i = .int .i64 k ∧ s = .int .i64 m ∧ Hid (Tp.belowN vs k = m) ∧ Below w.heap.size w wr) (fun _ i _ => n - (intOf i).toNat)
    case atStart => exact ⟨0, 0, Nat.zero_le _, Nat.zero_le _, rfl, rfl, Lib.hid (Tp.belowN_zero vs), hbe2⟩
    case round =>
      obtain ⟨k, m, hk, hmn, rfl, rfl, hbm, hbe⟩ := hrel
      by_cases hlt : k < n
      · obtain ⟨x, hx⟩ : ∃ x, vs[k]? = some x := ⟨_, List.getElem?_eq_getElem (by have := hn.out; omega)⟩
        obtain ⟨b, off, hA, hbk, _, _⟩ := hv k x hx
        subst hA
        have HX : Hid (vs[k]? = some x) := hx
        obtain ⟨k8, k3⟩ := T.kids hx
        have hvr := (hv.below hbe).more hbe.size
        have hs := Tp.belowN_succ vs k
        have hsl := Tp.belowN_le vs (k + 1)
        rw [hn.out] at hsl
        rw [hbm.out] at hs
        clear hx
        obtain ⟨wo, rfl⟩ : ∃ wo : World, wo = wr := ⟨_, rfl⟩
        go_wp2_with fail
        refine (kids_any _ n c vs k _ hn hl (by omega) hvr).mono ?_
        rintro e w3 ⟨A3, c3, rfl, hI3, hb3⟩
        have hbe3 := hbe.trans (hb3.mono hbe.size)
        obtain ⟨b1, off1, hA, _, hc1, hc2⟩ := (hv.below hbe3) k x HX.out
        injection hA with hA
        injection hA with hb' ho'
        subst hb' ho'
        have hkn : (Tp.those (kidsP k) vs).length = Tp.kidsN vs k := rfl
        rw [hkn]
        have HKN := Lib.hid hkn
        clear hkn hb3
        generalize Tp.kidsN vs k = r at k8 k3 hs HKN ⊢
        have HS : Hid (Tp.belowN vs (k + 1) = m + r) := Lib.hid hs
        rw [hs] at hsl
        clear hs
        have t8 : decide (8 < r) = false := by simp; omega
        have t9 : decide ((8 : Int) < (r : Int)) = false := by simp; omega
        have hnx : Hid (∀ j, j < r → ∃ (q : Nat) (y : Int × Int), (Tp.those (kidsP k) vs)[j]? = some (q : Int) ∧ vs[q]? = some y ∧ y.1 = k ∧ k < q ∧ q < n) := Lib.hid (fun j hj => by
          obtain ⟨z, hz⟩ : ∃ z, (Tp.those (kidsP k) vs)[j]? = some z := ⟨_, List.getElem?_eq_getElem (by have := HKN.out; omega)⟩
          obtain ⟨q, y, e, hy, hp⟩ := Tp.mem_those.1 (List.mem_of_getElem? hz)
          have hp' : y.1 = k := by simpa [kidsP] using hp
          have hq := (List.getElem?_eq_some_iff.1 hy).1
          rw [hn.out] at hq
          exact ⟨q, y, by rw [hz, e], hy, hp', (T.kid hy hp').1, hq⟩)
        have hmain : ∀ (b0 : Bool), ((r : Int) == 0) = b0 → (x.2 == 3) = b0 → Hid (((r : Int) == 0) = b0 ∧ (x.2 == 3) = b0) := fun b0 h1 h2 => Lib.hid ⟨h1, h2⟩
        obtain ⟨b0, hb0⟩ : ∃ b0, Hid (((r : Int) == 0) = b0 ∧ (x.2 == 3) = b0) := by
          by_cases e : x.2 = 3
          · exact ⟨true, Lib.hid ⟨by rw [beq_iff_eq]; have := k3.2 e; omega, by rw [beq_iff_eq]; exact e⟩⟩
          · exact ⟨false, Lib.hid ⟨by rw [beq_eq_false_iff_ne]; intro h; exact e (k3.1 (by omega)), by rw [beq_eq_false_iff_ne]; exact e⟩⟩
        clear k3 hmain
        cases b0 <;> obtain ⟨f1, f2⟩ := hb0.out <;> clear hb0
        all_goals
          go_wp2_with fail
          go_loopw [7] (fun i wr => ∃ j : Nat, j ≤ r ∧ i = .int .i64 j ∧ Below w.heap.size w wr ∧ Hid (IRow wr w3.heap.size A3 (Tp.those (kidsP k) vs))) (fun i _ => r - (intOf i).toNat)
          case atStart => exact ⟨0, Nat.zero_le _, rfl, hbe3, Lib.hid hI3⟩
          case round =>
            obtain ⟨j, hj, rfl, hbj, hIj⟩ := hrel
            by_cases hjr : j < r
            · obtain ⟨q, y, hz, hy, hyk, hkq, hqn⟩ := hnx.out j hjr
              obtain ⟨pb, po, hA, _, hcz⟩ := hIj.out j q hz
              obtain ⟨b1, off1, hA', _, hd1, hd2⟩ := (hv.below hbj) q y hy
              subst hA
              injection hA' with hA'
              injection hA' with hb' ho'
              subst hb' ho'
              rw [hyk] at hd1
              clear hz hy hyk
              go_wp2_with fail
              go_roundw
              case rel => exact ⟨j + 1, by omega, by go_num, hbj, hIj⟩
              case measure => simp [intOf]; omega
            · go_wp2_with fail
              go_roundw
              case rel => exact ⟨k + 1, m + r, by omega, by omega, by go_num, by go_num, HS, hbj⟩
              case measure => simp [intOf]; omega
      · have hmm : m = n - 1 := by
          have := T.belowN
          rw [hn.out, show n = k from by omega, hbm.out] at this
          omega
        have fin : ((m : Int) == (n : Int) - 1) = true := by rw [beq_iff_eq]; omega
        go_wp2_with fail
        go_ret
        refine ⟨?_, hbe⟩
        first | rfl | exact ret_bool (by simp; omega)
set_option maxRecDepth 100000 in
theorem lifted (os : Os) (started : os.Started) (H : Type) (enc : TypeId × Value → H) :
    ReturnsInHanded {} Try.checked os 5 .any (Rows.topoKidsSpec.pre6 enc Try.prog Try.f5 Rows.topoKidsRow.domain false) (Rows.topoKidsSpec.post enc Try.prog Try.f5 false true false false) := by
  refine returnsInHanded_of_change (C := Try.checked) own started (by kernel_rfl) Try.func5
    (ChangeSpec.witness6 (enc := enc) (C := Try.checked) false ⟨#[], #[.slice none 0 0], []⟩ 8 (by kernel_rfl) (by kernel_rfl) (by kernel_rfl) (by kernel_rfl)) ?_
  intro W base args ds gs before hval0 hW hcnd _
  have hval : ∀ (j : Nat) t v, Try.f5.params[j]? = some t → args[j]? = some v → Value.okWide Try.prog W .any base t v := hval0
  have hW' := hW
  obtain ⟨p, q, hA0, hV, rfl, hfz, hnd⟩ := hW
  have hA : DataW.TrodAll enc Try.prog W 0 (fun _ => true) true Try.f5.params.toList args.toList ds p := hA0
  rw [Try.params5] at hA hval
  obtain ⟨v0, vs0, d0, ds0, p0, q0, hargs, rfl, rfl, h0, r0⟩ := trodAll_cons hA
  obtain ⟨rfl, rfl, rfl⟩ := trodAll_nil r0
  obtain rfl : args = #[v0] := by cases args; simp_all
  obtain ⟨rfl, rfl⟩ := trodVars_none hV
  obtain ⟨a0, len0, cap0, rfl⟩ := okWide_slice Try.underlying22 (hval 0 22 v0 rfl rfl)
  have k0 := h0
  have lt0 : ∀ x ∈ p0, x.block < W.heap.size := by obtain ⟨m, hm⟩ := k0; exact DataW.trod_lt m _ _ _ hm
  obtain ⟨hl0, hc0, z0, hn0, hf0, hr0⟩ : len0 ≤ 9223372036854775807 ∧ (len0 ≤ cap0 ∧ cap0 ≤ 9223372036854775807) ∧ ∃ vs : List (Int × Int), vs.length = len0 ∧ Fit vs ∧ VRow W W.heap.size a0 vs := by
    obtain ⟨fuel, hf⟩ := h0
    exact open_vs (by simpa [Value.cells] using hf)
  clear hA0 hval0
  refine (walk a0 len0 cap0 z0 W (Lib.hid hn0) hl0 (Lib.hid hf0) hr0).mono fun e W' ⟨he, bel⟩ => ?_
  subst he
  exact ⟨_, rfl, _, _, _, [], _, [], hW', trodAll_mk1 (shut_bool Try.underlying4 _), (trodAll_cons_mk (Below.trod laidOut (by kernel_rfl) (of_decide_eq_true (by kernel_rfl)) k0 bel lt0) trodAll_mk0), rfl, bel.frame _, fun h => by cases h⟩
theorem over : Rows.topoKidsRow.holds Try.pinned (OpenSpec.ofChange Rows.topoKidsSpec) :=
  OpenClaim.holds_of_wide 5 Try.f5 rfl rfl rfl rfl rfl rfl rfl ⟨rfl, rfl, rfl, rfl, rfl⟩ rfl rfl rfl rfl rfl (by kernel_rfl) Try.func5 (by kernel_rfl)
    (of_decide_eq_true (by kernel_rfl)) (by unfold Func.isWrapper; first | (rw [if_pos (by decide +kernel)]; kernel_rfl) | (rw [if_neg (by decide +kernel)]; exact ⟨rfl, rfl⟩))
    (fun os started H enc _ => lifted os started H enc)
theorem proved : Rows.TopoKidsSaid := over
end Go.Proofs.Ytfcbpfopibilcaa.topoKids

