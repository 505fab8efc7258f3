/- TopoAbove: of a tree that may be each vertex lies below the first one, and below one of each level above its own; there are a processor and a node: the call answers true and changes nothing that was there; for every input. -/
import Derived.Test.YtfcbpfopibilcaaShown
import Derived.Test.YtfcbpfopibilcaaTree
import Derived.Test.YtfcbpfopibilcaaFrame
namespace Go.Proofs.Ytfcbpfopibilcaa.topoAbove
open Go.ChangeShapes Go.WideShapes Go.ChangeAt Go.RowKit
set_option linter.unusedVariables false

theorem those_pos {p : Int × Int → Bool} {vs : List (Int × Int)} (h : ∃ (j : Nat) (y : Int × Int), vs[j]? = some y ∧ p y = true) : 1 ≤ (Tp.those p vs).length := by
  obtain ⟨j, y, hy, hp⟩ := h
  exact List.length_pos_of_mem (Tp.mem_those.2 ⟨j, y, rfl, hy, hp⟩)

set_option maxHeartbeats 4000000 in
set_option maxRecDepth 100000 in
theorem walk (A : Option Addr) (n c : Nat) (vs : List (Int × Int)) (w : World)
    (hn : Hid (vs.length = n)) (hl : n ≤ 9223372036854775807) (hf : Hid (Fit vs)) (hv : VRow w w.heap.size A vs) :
    Calls Try.prog 4 #[.slice A n c] w fun e w' => e = .returned (.bool true) ∧ Below w.heap.size w w' := by
  go_enter Try.func4, Try.ntmps4
  go_wp2_with fail
  refine (shown_any _).mono ?_
  rintro e w1 ⟨rfl, hb1⟩
  have hv1 := (hv.below hb1).more hb1.size
  go_wp2_with fail
  refine (check_any _ n c vs _ hn hl hf hv1).mono ?_
  rintro e w2 ⟨he, hb2⟩
  have hbe2 := hb1.trans (hb2.mono hb1.size)
  clear hb1 hb2 hv1
  cases hm : Tp.may vs
  · rw [hm] at he
    have he' : e = .returned (.int .i64 2) := he
    subst he'
    clear hm he
    go_wp2_with fail
    go_ret
    exact ⟨rfl, hbe2⟩
  · rw [hm] at he
    have he' : e = .returned (.int .i64 0) := he
    subst he'
    have T := (Tp.tree_iff vs).1 hm
    have h64 : n ≤ 64 := by have := T.few; have := hn.out; omega
    clear hm he
    go_wp2_with fail
    go_loopw [4] (fun i wr => ∃ k : Nat, k ≤ n ∧ i = .int .i64 k ∧ Below w.heap.size w wr) (fun i _ => n - (intOf i).toNat)
    case atStart => exact ⟨0, Nat.zero_le _, rfl, hbe2⟩
    case round =>
      obtain ⟨k, hk, rfl, hbe⟩ := hrel
      by_cases hlt : k < n
      · obtain ⟨x, hx⟩ : ∃ x, vs[k]? = some x := ⟨_, List.getElem?_eq_getElem (by have := hn.out; omega)⟩
        obtain ⟨b, off, hA, hbk, _, _⟩ := hv k x hx
        subst hA
        have HX : Hid (vs[k]? = some x) := hx
        clear hx
        obtain ⟨wo, rfl⟩ : ∃ wo : World, wo = wr := ⟨_, rfl⟩
        go_wp2_with fail
        go_loopw [5] (fun i wr => ∃ l : Nat, l ≤ 4 ∧ i = .int .i64 l ∧ Below w.heap.size w wr) (fun i _ => 4 - (intOf i).toNat)
        case atStart => exact ⟨0, Nat.zero_le _, rfl, hbe⟩
        case round =>
          obtain ⟨l, hl4, rfl, hbi⟩ := hrel
          have hvi := (hv.below hbi).more hbi.size
          by_cases hl3 : l ≤ 3
          · go_wp2_with fail
            refine (up_any _ n c vs k l _ hn hl hvi).mono ?_
            rintro e w3 ⟨he, hb3⟩
            have hbi3 := hbi.trans (hb3.mono hbi.size)
            obtain ⟨u1, u2⟩ := T.up l k x HX.out
            rw [hn.out] at u1 u2
            obtain ⟨b', off', hA, _, hc1, hc2⟩ := (hv.below hbi3) k x HX.out
            injection hA with hA
            injection hA with hb' ho'
            subst hb' ho'
            by_cases hgt : x.2 < l
            · rw [u1 hgt] at he
              subst he
              clear u1 u2 hb3
              have d1 : decide (x.2 < (l : Int)) = true := by simpa using hgt
              have d2 : decide ((l : Int) ≤ x.2) = false := by simp; omega
              have d3 : ((-1 : Int) != -1) = false := rfl
              go_wp2_with fail
              go_roundw
              case rel => exact ⟨l + 1, by omega, by go_num, hbi3⟩
              case measure => simp [intOf]; omega
            · obtain ⟨v, y, e1, e2, e3, e4⟩ := u2 (by omega) (by omega)
              rw [e1] at he
              subst he
              obtain ⟨b', off', hA, _, hd1, hd2⟩ := (hv.below hbi3) v y e3
              injection hA with hA
              injection hA with hb' ho'
              subst hb' ho'
              rw [e4] at hd2
              have hvn : v < n := by omega
              clear u1 u2 hb3 e1 e3 e4 hd1
              have d1 : decide (x.2 < (l : Int)) = false := by simp; omega
              have d2 : decide ((l : Int) ≤ x.2) = true := by simp; omega
              have d3 : ((l : Int) != l) = false := by simp
              have d4 : decide ((v : Int) < 0) = false := by simp
              have d5 : decide (k < v) = false := by simp; omega
              go_wp2_with fail
              go_roundw
              case rel => exact ⟨l + 1, by omega, by go_num, hbi3⟩
              case measure => simp [intOf]; omega
          · go_wp2_with fail
            refine (up_any _ n c vs k 0 _ hn hl hvi).mono ?_
            rintro e w3 ⟨he, hb3⟩
            have hbi3 := hbi.trans (hb3.mono hbi.size)
            obtain ⟨_, u2⟩ := T.up 0 k x HX.out
            rw [hn.out] at u2
            obtain ⟨v, y, e1, e2, e3, e4⟩ := u2 (by omega) (T.level HX.out).1
            have hv0 : v = 0 := by
              by_cases e : v = 0
              · exact e
              · obtain ⟨_, _, _, _, _, q1, q2, _⟩ := T.next v y e3 (by omega)
                omega
            subst hv0
            rw [e1] at he
            have he' : e = .returned (.int .i64 0) := he
            subst he'
            have hv3 := (hv.below hbi3).more hbi3.size
            obtain ⟨b', off', hA, _, hc1, hc2⟩ := (hv.below hbi3) k x HX.out
            injection hA with hA
            injection hA with hb' ho'
            subst hb' ho'
            clear u2 e1 e3 e4 he hb3
            go_wp2_with fail
            refine (up_any _ n c vs k x.2 _ hn hl hv3).mono ?_
            rintro e w4 ⟨he, hb4⟩
            have hbi4 := hbi3.trans (hb4.mono hbi3.size)
            rw [Tp.up_hit hlt HX.out rfl] at he
            subst he
            have d6 : ((k : Int) != k) = false := by simp
            go_wp2_with fail
            go_roundw
            case rel => exact ⟨k + 1, by omega, by go_num, hbi4⟩
            case measure => simp [intOf]; omega
      · have hv3 := (hv.below hbe).more hbe.size
        have hp1 : 1 ≤ (Tp.those (levelP 3) vs).length := by
          obtain ⟨j, y, hy, h1⟩ := T.node
          obtain ⟨i, z, hz, h3, _⟩ := T.below hy h1
          exact those_pos ⟨i, z, hz, by simpa [levelP] using h3⟩
        have hp2 : 1 ≤ (Tp.those (levelP 1) vs).length := by
          obtain ⟨j, y, hy, h1⟩ := T.node
          exact those_pos ⟨j, y, hy, by simpa [levelP] using h1⟩
        go_wp2_with fail
        refine (procs_any _ n c vs _ hn hl (by omega) hv3).mono ?_
        rintro e w3 ⟨A3, c3, rfl, _, hb3⟩
        have hbe3 := hbe.trans (hb3.mono hbe.size)
        have hv4 := (hv.below hbe3).more hbe3.size
        go_wp2_with fail
        refine (nodes_any _ n c vs _ hn hl (by omega) hv4).mono ?_
        rintro e w4 ⟨A4, c4, rfl, _, hb4⟩
        have hbe4 := hbe3.trans (hb4.mono hbe3.size)
        go_wp2_with fail
        go_ret
        refine ⟨?_, hbe4⟩
        first | rfl | exact ret_bool (by simp; omega)
set_option maxRecDepth 100000 in
theorem lifted (os : Os) (started : os.Started) (H : Type) (enc : TypeId × Value → H) :
    ReturnsInHanded {} Try.checked os 4 .any (Rows.topoAboveSpec.pre6 enc Try.prog Try.f4 Rows.topoAboveRow.domain false) (Rows.topoAboveSpec.post enc Try.prog Try.f4 false true false false) := by
  refine returnsInHanded_of_change (C := Try.checked) own started (by kernel_rfl) Try.func4
    (ChangeSpec.witness6 (enc := enc) (C := Try.checked) false ⟨#[], #[.slice none 0 0], []⟩ 8 (by kernel_rfl) (by kernel_rfl) (by kernel_rfl) (by kernel_rfl)) ?_
  intro W base args ds gs before hval0 hW hcnd _
  have hval : ∀ (j : Nat) t v, Try.f4.params[j]? = some t → args[j]? = some v → Value.okWide Try.prog W .any base t v := hval0
  have hW' := hW
  obtain ⟨p, q, hA0, hV, rfl, hfz, hnd⟩ := hW
  have hA : DataW.TrodAll enc Try.prog W 0 (fun _ => true) true Try.f4.params.toList args.toList ds p := hA0
  rw [Try.params4] at hA hval
  obtain ⟨v0, vs0, d0, ds0, p0, q0, hargs, rfl, rfl, h0, r0⟩ := trodAll_cons hA
  obtain ⟨rfl, rfl, rfl⟩ := trodAll_nil r0
  obtain rfl : args = #[v0] := by cases args; simp_all
  obtain ⟨rfl, rfl⟩ := trodVars_none hV
  obtain ⟨a0, len0, cap0, rfl⟩ := okWide_slice Try.underlying22 (hval 0 22 v0 rfl rfl)
  have k0 := h0
  have lt0 : ∀ x ∈ p0, x.block < W.heap.size := by obtain ⟨m, hm⟩ := k0; exact DataW.trod_lt m _ _ _ hm
  obtain ⟨hl0, hc0, z0, hn0, hf0, hr0⟩ : len0 ≤ 9223372036854775807 ∧ (len0 ≤ cap0 ∧ cap0 ≤ 9223372036854775807) ∧ ∃ vs : List (Int × Int), vs.length = len0 ∧ Fit vs ∧ VRow W W.heap.size a0 vs := by
    obtain ⟨fuel, hf⟩ := h0
    exact open_vs (by simpa [Value.cells] using hf)
  clear hA0 hval0
  refine (walk a0 len0 cap0 z0 W (Lib.hid hn0) hl0 (Lib.hid hf0) hr0).mono fun e W' ⟨he, bel⟩ => ?_
  subst he
  exact ⟨_, rfl, _, _, _, [], _, [], hW', trodAll_mk1 (shut_bool Try.underlying4 _), (trodAll_cons_mk (Below.trod laidOut (by kernel_rfl) (of_decide_eq_true (by kernel_rfl)) k0 bel lt0) trodAll_mk0), rfl, bel.frame _, fun h => by cases h⟩
theorem over : Rows.topoAboveRow.holds Try.pinned (OpenSpec.ofChange Rows.topoAboveSpec) :=
  OpenClaim.holds_of_wide 4 Try.f4 rfl rfl rfl rfl rfl rfl rfl ⟨rfl, rfl, rfl, rfl, rfl⟩ rfl rfl rfl rfl rfl (by kernel_rfl) Try.func4 (by kernel_rfl)
    (of_decide_eq_true (by kernel_rfl)) (by unfold Func.isWrapper; first | (rw [if_pos (by decide +kernel)]; kernel_rfl) | (rw [if_neg (by decide +kernel)]; exact ⟨rfl, rfl⟩))
    (fun os started H enc _ => lifted os started H enc)
theorem proved : Rows.TopoAboveSaid := over
end Go.Proofs.Ytfcbpfopibilcaa.topoAbove

