/- TopoProcs: of a tree that may be processors and nodes are told rising, each once, and just those of their levels; each node has a processor below it: the call answers true and changes nothing that was there; for every input. -/
import Derived.Test.YtfcbpfopibilcaaShown
import Derived.Test.YtfcbpfopibilcaaTree
import Derived.Test.YtfcbpfopibilcaaFrame
namespace Go.Proofs.Ytfcbpfopibilcaa.topoProcs
open Go.ChangeShapes Go.WideShapes Go.ChangeAt Go.RowKit
set_option linter.unusedVariables false

/-- Whoever was counted, if somebody was to be. -/
def Counted (vs : List (Int × Int)) (n : Nat) (y : Int) (k b : Nat) : Prop := ∀ j z, j < k → (Tp.those (levelP 3) vs)[j]? = some z → Tp.up vs 1 n z = y → 1 ≤ b

set_option maxHeartbeats 4000000 in
set_option maxRecDepth 100000 in
theorem walk (A : Option Addr) (n c : Nat) (vs : List (Int × Int)) (w : World)
    (hn : Hid (vs.length = n)) (hl : n ≤ 9223372036854775807) (hf : Hid (Fit vs)) (hv : VRow w w.heap.size A vs) :
    Calls Try.prog 7 #[.slice A n c] w fun e w' => e = .returned (.bool true) ∧ Below w.heap.size w w' := by
  go_enter Try.func7, Try.ntmps7
  go_wp2_with fail
  refine (shown_any _).mono ?_
  rintro e w1 ⟨rfl, hb1⟩
  have hv1 := (hv.below hb1).more hb1.size
  go_wp2_with fail
  refine (check_any _ n c vs _ hn hl hf hv1).mono ?_
  rintro e w2 ⟨he, hb2⟩
  have hbe2 := hb1.trans (hb2.mono hb1.size)
  clear hb1 hb2 hv1
  cases hm : Tp.may vs
  · rw [hm] at he
    have he' : e = .returned (.int .i64 2) := he
    subst he'
    clear hm he
    go_wp2_with fail
    go_ret
    exact ⟨rfl, hbe2⟩
  · rw [hm] at he
    have he' : e = .returned (.int .i64 0) := he
    subst he'
    have T := (Tp.tree_iff vs).1 hm
    have h64 : n ≤ 64 := by have := T.few; have := hn.out; omega
    have hv2 := (hv.below hbe2).more hbe2.size
    clear hm he
    go_wp2_with fail
    refine (procs_any _ n c vs _ hn hl (by omega) hv2).mono ?_
    rintro e w3 ⟨A3, c3, rfl, hI3, hb3⟩
    have hbe3 := hbe2.trans (hb3.mono hbe2.size)
    have hv3 := (hv.below hbe3).more hbe3.size
    clear hb3 hv2
    go_wp2_with fail
    refine (nodes_any _ n c vs _ hn hl (by omega) hv3).mono ?_
    rintro e w4 ⟨A4, c4, rfl, hI4, hb4⟩
    have hbe4 := hbe3.trans (hb4.mono hbe3.size)
    have hJ3 := (hI3.below hb4).more hb4.size
    have hle3 : (Tp.those (levelP 3) vs).length ≤ 32 := T.procs
    have hle4 := Tp.those_le (levelP 1) vs n
    rw [show vs.take n = vs from List.take_of_length_le (by have := hn.out; omega)] at hle4
    have HL3 : Hid ((Tp.those (levelP 3) vs).length = (Tp.those (levelP 3) vs).length) := Lib.hid rfl
    have HL4 : Hid ((Tp.those (levelP 1) vs).length = (Tp.those (levelP 1) vs).length) := Lib.hid rfl
    generalize hnp : (Tp.those (levelP 3) vs).length = np at hle3 HL3 ⊢
    generalize hnn : (Tp.those (levelP 1) vs).length = nn at hle4 HL4 ⊢
    have HNP := Lib.hid hnp
    have HNN := Lib.hid hnn
    clear hnp hnn HL3 HL4 hb4 hI3 hv3
    go_wp2_with fail
    go_loopw [6] (fun i wr => ∃ k : Nat, k ≤ n ∧ i = .int .i64 k ∧ Hid (∃ q, wr = w4.drewN q)) (fun i _ => n - (intOf i).toNat)
    case atStart => exact ⟨0, Nat.zero_le _, rfl, Lib.hid ⟨0, rfl⟩⟩
    case round =>
      obtain ⟨k, hk, rfl, hwr⟩ := hrel
      have hr : IRow wr w4.heap.size A3 (Tp.those (levelP 3) vs) ∧ IRow wr w4.heap.size A4 (Tp.those (levelP 1) vs) ∧ Below w.heap.size w wr := by
        obtain ⟨q, e⟩ := hwr.out
        rw [e]; exact ⟨hJ3, hI4, below_drewN hbe4 q⟩
      obtain ⟨hp, hq, hbr⟩ := hr
      by_cases hlt : k < n
      · obtain ⟨x, hx⟩ : ∃ x, vs[k]? = some x := ⟨_, List.getElem?_eq_getElem (by have := hn.out; omega)⟩
        obtain ⟨b, off, hA, hbk, hc1, hc2⟩ := (hv.below hbr) k x hx
        subst hA
        have g3 : ∀ m, Calls Try.prog 21 #[.slice A3 np c3, .int .i64 k] (wr.drewN m) fun e w' => e = .returned (.bool (x.2 == 3)) ∧ w' = wr.drewN m :=
          fun m => (in_any A3 np c3 _ k (wr.drewN m) _ HNP (by omega) hp).mono fun e w' ⟨he, hw⟩ => ⟨by rw [he]; exact ret_bool (Tp.has_level hx), hw⟩
        have g4 : ∀ m, Calls Try.prog 21 #[.slice A4 nn c4, .int .i64 k] (wr.drewN m) fun e w' => e = .returned (.bool (x.2 == 1)) ∧ w' = wr.drewN m :=
          fun m => (in_any A4 nn c4 _ k (wr.drewN m) _ HNN (by omega) hq).mono fun e w' ⟨he, hw⟩ => ⟨by rw [he]; exact ret_bool (Tp.has_level hx), hw⟩
        clear hx
        cases h3 : (x.2 == 3) <;> cases h1 : (x.2 == 1) <;> rw [h3] at g3 <;> rw [h1] at g4 <;> have G3 := Lib.hid g3 <;> have G4 := Lib.hid g4 <;> clear g3 g4
        all_goals
          go_wp2_with fail
          go_quiet ((go_at_call 21; first | (with_reducible exact Calls.quiet_of_same (G3.out _)) | (with_reducible exact Calls.quiet_of_same (G4.out _))))
          go_wp2_with fail
          go_roundw
          case rel =>
            refine ⟨k + 1, by omega, by go_num, ?_⟩
            obtain ⟨q, e⟩ := hwr.out
            exact Lib.hid ⟨_, by rw [e, World.drewN_drewN]⟩
          case measure => simp [intOf]; omega
      · clear hwr
        obtain ⟨wo, rfl⟩ : ∃ wo : World, wo = wr := ⟨_, rfl⟩
        go_wp2_with fail
        go_loopw [7] (fun i wr => ∃ k : Nat, k ≤ nn ∧ i = .int .i64 k ∧ Hid (∃ q, wr = wo.drewN q)) (fun i _ => nn - (intOf i).toNat)
        case atStart => exact ⟨0, Nat.zero_le _, rfl, Lib.hid ⟨0, rfl⟩⟩
        case round =>
          obtain ⟨a, ha, rfl, hwa⟩ := hrel
          by_cases hat : a < nn
          · obtain ⟨y, hy⟩ : ∃ y, (Tp.those (levelP 1) vs)[a]? = some y := ⟨_, List.getElem?_eq_getElem (by have := HNN.out; omega)⟩
            have HY : Hid ((Tp.those (levelP 1) vs)[a]? = some y) := hy
            clear hy
            obtain ⟨wa, rfl⟩ : ∃ wa : World, wa = wr := ⟨_, rfl⟩
            go_wp2_with fail
            go_loopw [8, 9] (fun s i wr => ∃ k b : Nat, k ≤ np ∧ b ≤ k ∧ i = .int .i64 k ∧ s = .int .i64 b ∧ Hid (Counted vs n y k b) ∧ Hid (∃ q, wr = wo.drewN q)) (fun _ i _ => np - (intOf i).toNat)
            case atStart => exact ⟨0, 0, Nat.zero_le _, Nat.le_refl _, rfl, rfl, Lib.hid (fun j z hj => absurd hj (by omega)), hwa⟩
            case round =>
              obtain ⟨g, m, hg, hmg, rfl, rfl, hco, hwg⟩ := hrel
              have hr : IRow wr w4.heap.size A3 (Tp.those (levelP 3) vs) ∧ IRow wr w4.heap.size A4 (Tp.those (levelP 1) vs) ∧ Below w.heap.size w wr := by
                obtain ⟨q, e⟩ := hwg.out
                rw [e]; exact ⟨hp, hq, below_drewN hbr q⟩
              obtain ⟨hp', hq', hbg⟩ := hr
              by_cases hgt : g < np
              · obtain ⟨z, hz⟩ : ∃ z, (Tp.those (levelP 3) vs)[g]? = some z := ⟨_, List.getElem?_eq_getElem (by have := HNP.out; omega)⟩
                obtain ⟨pb, po, hA, _, hcz⟩ := hp' g z hz
                obtain ⟨nb, no, hA', _, hcy⟩ := hq' a y HY.out
                subst hA
                subst hA'
                have hvg := hv.below hbg
                have HG : Hid (∀ q, Calls Try.prog 18 #[.slice A n c, .int .i64 z, .int .i64 1] (wr.drewN q) fun e w' => e = .returned (.int .i64 (Tp.up vs 1 n z)) ∧ ∃ m, w' = (wr.drewN q).drewN m) :=
                  Lib.hid (fun q => up_quiet A n c vs z 1 (wr.drewN q) _ hn hl hvg)
                have HZ : Hid ((Tp.those (levelP 3) vs)[g]? = some z) := hz
                clear hz
                generalize hup : Tp.up vs 1 n z = r at HG
                have HU := Lib.hid hup
                clear hup
                cases g with
                | zero =>
                  simp only [Nat.add_zero] at hcz
                  cases hr : (r == y)
                  · have H : Hid (Counted vs n y 1 m) := Lib.hid (fun j z' hj hz' hu => by
                      have : j = 0 := by omega
                      subst this
                      have e := HZ.out
                      rw [hz'] at e
                      injection e with e
                      subst e
                      rw [HU.out] at hu
                      rw [hu] at hr
                      simp at hr)
                    go_wp2_with fail
                    go_quiet ((go_at_call 18; (with_reducible exact Calls.quiet_of (HG.out _))))
                    go_wp2_with fail
                    go_quiet (fail)
                    go_wp2_with fail
                    go_roundw
                    case rel =>
                      refine ⟨1, m, by omega, by omega, by go_num, rfl, H, ?_⟩
                      obtain ⟨q, e⟩ := hwg.out
                      exact Lib.hid ⟨_, by rw [e, World.drewN_drewN]⟩
                    case measure => simp [intOf]; omega
                  · have H : Hid (Counted vs n y 1 (m + 1)) := Lib.hid (fun j z' hj hz' hu => by omega)
                    go_wp2_with fail
                    go_quiet ((go_at_call 18; (with_reducible exact Calls.quiet_of (HG.out _))))
                    go_wp2_with fail
                    go_quiet (fail)
                    go_wp2_with fail
                    go_roundw
                    case rel =>
                      refine ⟨1, m + 1, by omega, by omega, by go_num, by go_num, H, ?_⟩
                      obtain ⟨q, e⟩ := hwg.out
                      exact Lib.hid ⟨_, by rw [e, World.drewN_drewN]⟩
                    case measure => simp [intOf]; omega
                | succ g =>
                  obtain ⟨z0, hz0⟩ : ∃ z, (Tp.those (levelP 3) vs)[g]? = some z := ⟨_, List.getElem?_eq_getElem (by have := HNP.out; omega)⟩
                  obtain ⟨pb', po', hA, _, hcz0⟩ := hp' g z0 hz0
                  injection hA with hA
                  injection hA with hb' ho'
                  subst hb' ho'
                  have hlt' := Tp.those_rise hz0 HZ.out (Nat.lt_succ_self g)
                  clear hz0
                  have s1 : decide (z ≤ z0) = false := by simp; omega
                  have s2 : IntKind.i64.wrap ((g : Int) + 1 - 1) = (g : Int) := by rw [show (g : Int) + 1 - 1 = g from by omega]; exact IntWalk.i64_in _ (by omega)
                  have s3 : (0 : Int) ≤ (g : Int) := by omega
                  have s4 : g < np := by omega
                  have s5 : decide ((0 : Int) < (g : Int) + 1) = true := decide_eq_true (by omega)
                  cases hr : (r == y)
                  · have H : Hid (Counted vs n y (g + 2) m) := Lib.hid (fun j z' hj hz' hu => by
                      by_cases e : j = g + 1
                      · subst e
                        have e := HZ.out
                        rw [hz'] at e
                        injection e with e
                        subst e
                        rw [HU.out] at hu
                        rw [hu] at hr
                        simp at hr
                      · exact hco.out j z' (by omega) hz' hu)
                    go_wp2_with fail
                    go_quiet ((go_at_call 18; (with_reducible exact Calls.quiet_of (HG.out _))))
                    go_wp2_with fail
                    go_quiet (fail)
                    go_wp2_with fail
                    go_roundw
                    case rel =>
                      refine ⟨g + 2, m, by omega, by omega, by go_num, rfl, H, ?_⟩
                      obtain ⟨q, e⟩ := hwg.out
                      exact Lib.hid ⟨_, by rw [e, World.drewN_drewN]⟩
                    case measure => simp [intOf]; omega
                  · have H : Hid (Counted vs n y (g + 2) (m + 1)) := Lib.hid (fun j z' hj hz' hu => by omega)
                    go_wp2_with fail
                    go_quiet ((go_at_call 18; (with_reducible exact Calls.quiet_of (HG.out _))))
                    go_wp2_with fail
                    go_quiet (fail)
                    go_wp2_with fail
                    go_roundw
                    case rel =>
                      refine ⟨g + 2, m + 1, by omega, by omega, by go_num, by go_num, H, ?_⟩
                      obtain ⟨q, e⟩ := hwg.out
                      exact Lib.hid ⟨_, by rw [e, World.drewN_drewN]⟩
                    case measure => simp [intOf]; omega
              · have hm1 : 1 ≤ m := by
                  obtain ⟨j, x, e, hx, h1⟩ := Tp.mem_those.1 (List.mem_of_getElem? HY.out)
                  obtain ⟨i, u, hu, h3, hup⟩ := T.below hx (by simpa [levelP] using h1)
                  obtain ⟨t, ht⟩ := List.mem_iff_getElem?.1 (Tp.mem_those.2 ⟨i, u, rfl, hu, (by simpa [levelP] using h3 : levelP 3 u = true)⟩)
                  have htl := (List.getElem?_eq_some_iff.1 ht).1
                  rw [HNP.out] at htl
                  rw [hn.out] at hup
                  exact hco.out t i (by omega) ht (by rw [hup, e])
                have s0 : ((m : Int) == 0) = false := by rw [beq_eq_false_iff_ne]; omega
                obtain ⟨nb, no, hA', _, hcy⟩ := hq' a y HY.out
                subst hA'
                cases a with
                | zero =>
                  go_wp2_with fail
                  go_quiet (fail)
                  go_wp2_with fail
                  go_roundw
                  case rel =>
                    refine ⟨1, by omega, by go_num, ?_⟩
                    obtain ⟨q, e⟩ := hwg.out
                    exact Lib.hid ⟨_, by rw [e, World.drewN_drewN]⟩
                  case measure => simp [intOf]; omega
                | succ a =>
                  obtain ⟨y0, hy0⟩ : ∃ z, (Tp.those (levelP 1) vs)[a]? = some z := ⟨_, List.getElem?_eq_getElem (by have := HNN.out; omega)⟩
                  obtain ⟨pb', po', hA, _, hcy0⟩ := hq' a y0 hy0
                  injection hA with hA
                  injection hA with hb' ho'
                  subst hb' ho'
                  have hlt' := Tp.those_rise hy0 HY.out (Nat.lt_succ_self a)
                  clear hy0
                  have s1 : decide (y ≤ y0) = false := by simp; omega
                  have s2 : IntKind.i64.wrap ((a : Int) + 1 - 1) = (a : Int) := by rw [show (a : Int) + 1 - 1 = a from by omega]; exact IntWalk.i64_in _ (by omega)
                  have s3 : (0 : Int) ≤ (a : Int) := by omega
                  have s4 : a < nn := by omega
                  have s5 : decide ((0 : Int) < (a : Int) + 1) = true := decide_eq_true (by omega)
                  go_wp2_with fail
                  go_quiet (fail)
                  go_wp2_with fail
                  go_roundw
                  case rel =>
                    refine ⟨a + 2, by omega, by go_num, ?_⟩
                    obtain ⟨q, e⟩ := hwg.out
                    exact Lib.hid ⟨_, by rw [e, World.drewN_drewN]⟩
                  case measure => simp [intOf]; omega
          · have hbl : Below w.heap.size w wr := by
              obtain ⟨q, e⟩ := hwa.out
              rw [e]; exact below_drewN hbr q
            go_wp2_with fail
            go_ret
            refine ⟨?_, hbl⟩
            first | rfl | exact ret_bool (by simp; omega)
set_option maxRecDepth 100000 in
theorem lifted (os : Os) (started : os.Started) (H : Type) (enc : TypeId × Value → H) :
    ReturnsInHanded {} Try.checked os 7 .any (Rows.topoProcsSpec.pre6 enc Try.prog Try.f7 Rows.topoProcsRow.domain false) (Rows.topoProcsSpec.post enc Try.prog Try.f7 false true false false) := by
  refine returnsInHanded_of_change (C := Try.checked) own started (by kernel_rfl) Try.func7
    (ChangeSpec.witness6 (enc := enc) (C := Try.checked) false ⟨#[], #[.slice none 0 0], []⟩ 8 (by kernel_rfl) (by kernel_rfl) (by kernel_rfl) (by kernel_rfl)) ?_
  intro W base args ds gs before hval0 hW hcnd _
  have hval : ∀ (j : Nat) t v, Try.f7.params[j]? = some t → args[j]? = some v → Value.okWide Try.prog W .any base t v := hval0
  have hW' := hW
  obtain ⟨p, q, hA0, hV, rfl, hfz, hnd⟩ := hW
  have hA : DataW.TrodAll enc Try.prog W 0 (fun _ => true) true Try.f7.params.toList args.toList ds p := hA0
  rw [Try.params7] at hA hval
  obtain ⟨v0, vs0, d0, ds0, p0, q0, hargs, rfl, rfl, h0, r0⟩ := trodAll_cons hA
  obtain ⟨rfl, rfl, rfl⟩ := trodAll_nil r0
  obtain rfl : args = #[v0] := by cases args; simp_all
  obtain ⟨rfl, rfl⟩ := trodVars_none hV
  obtain ⟨a0, len0, cap0, rfl⟩ := okWide_slice Try.underlying22 (hval 0 22 v0 rfl rfl)
  have k0 := h0
  have lt0 : ∀ x ∈ p0, x.block < W.heap.size := by obtain ⟨m, hm⟩ := k0; exact DataW.trod_lt m _ _ _ hm
  obtain ⟨hl0, hc0, z0, hn0, hf0, hr0⟩ : len0 ≤ 9223372036854775807 ∧ (len0 ≤ cap0 ∧ cap0 ≤ 9223372036854775807) ∧ ∃ vs : List (Int × Int), vs.length = len0 ∧ Fit vs ∧ VRow W W.heap.size a0 vs := by
    obtain ⟨fuel, hf⟩ := h0
    exact open_vs (by simpa [Value.cells] using hf)
  clear hA0 hval0
  refine (walk a0 len0 cap0 z0 W (Lib.hid hn0) hl0 (Lib.hid hf0) hr0).mono fun e W' ⟨he, bel⟩ => ?_
  subst he
  exact ⟨_, rfl, _, _, _, [], _, [], hW', trodAll_mk1 (shut_bool Try.underlying4 _), (trodAll_cons_mk (Below.trod laidOut (by kernel_rfl) (of_decide_eq_true (by kernel_rfl)) k0 bel lt0) trodAll_mk0), rfl, bel.frame _, fun h => by cases h⟩
theorem over : Rows.topoProcsRow.holds Try.pinned (OpenSpec.ofChange Rows.topoProcsSpec) :=
  OpenClaim.holds_of_wide 7 Try.f7 rfl rfl rfl rfl rfl rfl rfl ⟨rfl, rfl, rfl, rfl, rfl⟩ rfl rfl rfl rfl rfl (by kernel_rfl) Try.func7 (by kernel_rfl)
    (of_decide_eq_true (by kernel_rfl)) (by unfold Func.isWrapper; first | (rw [if_pos (by decide +kernel)]; kernel_rfl) | (rw [if_neg (by decide +kernel)]; exact ⟨rfl, rfl⟩))
    (fun os started H enc _ => lifted os started H enc)
theorem proved : Rows.TopoProcsSaid := over
end Go.Proofs.Ytfcbpfopibilcaa.topoProcs

