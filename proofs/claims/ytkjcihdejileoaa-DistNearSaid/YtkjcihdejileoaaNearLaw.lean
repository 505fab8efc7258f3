/- DistNear: all others are near, each once, and never one nearer behind one that is farther: the call answers true and changes nothing that was there; for every input. -/
import Derived.Test.YtkjcihdejileoaaShown
import Derived.Test.YtkjcihdejileoaaDNear
import Derived.Test.YtkjcihdejileoaaFrame
import Derived.Deep.RegionHeld3
namespace Go.Proofs.Ytkjcihdejileoaa.distNear
open Go.ChangeShapes Go.WideShapes Go.ChangeAt Go.RowKit
set_option linter.unusedVariables false

theorem IRow.take' {w : World} {B : Nat} {A : Option Addr} {zs : List Int} (h : IRow w B A zs) (k : Nat) : IRow w B A (zs.take k) := by
  intro i z hi
  rw [List.getElem?_take] at hi
  split at hi
  · exact h i z hi
  · cases hi

theorem below_undrew {w w' : World} (h : Below w.drew.heap.size w.drew w') : Below w.heap.size w w' := ⟨h.os, h.tape, h.output, h.size, h.block⟩
set_option maxHeartbeats 4000000 in
set_option maxRecDepth 100000 in
theorem walk (A : Option Addr) (n c : Nat) (vs : List (Int × Int)) (p : Int) (w : World)
    (hn : Hid (vs.length = n)) (hl : n ≤ 9223372036854775807) (hf : Hid (Fit vs)) (hv : VRow w w.heap.size A vs) :
    Calls Try.prog 6 #[.slice A n c, .int .i64 p] w fun e w' => e = .returned (.bool true) ∧ Below w.heap.size w w' := by
  go_enter Try.func6, Try.ntmps6
  go_wp2_with fail
  refine (shown_any _).mono ?_
  rintro e w1 ⟨rfl, hb1⟩
  by_cases h64 : n ≤ 64
  · have hv1 := (hv.below hb1).more hb1.size
    go_wp2_with fail
    refine (near_cap _ n c vs p _ hn hl hf hv1).mono ?_
    rintro e w2 ⟨A2, c2, rfl, hI2, hb2, hcap, hcmx⟩
    have hbe2 := hb1.trans (hb2.mono hb1.size)
    have hv2 := (hv.below hbe2).more hbe2.size
    clear hb1 hb2 hv1
    go_wp2_with fail
    refine (refProcs_any _ n c vs _ hn hl hf hv2).mono ?_
    rintro e w3 ⟨rfl, hb3⟩
    have hbe3 := hbe2.trans (hb3.mono hbe2.size)
    have hv3 := (hv.below hbe3).more hbe3.size
    have hI3 := (hI2.below hb3).more hb3.size
    clear hb3 hbe2 hv2 hI2
    generalize hpn : Dp.procsN vs = m
    have HPN := Lib.hid hpn
    clear hpn
    by_cases ho : p < 0 ∨ (m : Int) ≤ p
    · have e1 : Dp.near vs p = [] := Dp.near_out (by rw [HPN.out]; exact ho)
      have HN : Hid (Dp.node vs p = -1) := Lib.hid (Dp.node_out (by rw [HPN.out]; exact ho))
      rw [e1]
      clear hI3 hcap e1
      by_cases g1 : p < 0
      · clear ho
        go_wp2_with fail
        refine (node_any _ n c vs p _ hn hl hf hv3).mono ?_
        rintro e w4 ⟨rfl, hb4⟩
        rw [HN.out]
        have hbe4 := hbe3.trans (hb4.mono hbe3.size)
        go_wp2_with fail
        go_ret
        exact ⟨rfl, hbe4⟩
      · have g2 : (m : Int) ≤ p := by omega
        clear ho
        go_wp2_with fail
        refine (node_any _ n c vs p _ hn hl hf hv3).mono ?_
        rintro e w4 ⟨rfl, hb4⟩
        rw [HN.out]
        have hbe4 := hbe3.trans (hb4.mono hbe3.size)
        go_wp2_with fail
        go_ret
        exact ⟨rfl, hbe4⟩
    · obtain ⟨i, rfl⟩ := Int.eq_ofNat_of_zero_le (show 0 ≤ p by omega)
      have him : i < m := by omega
      have s1 : decide ((i : Int) < 0) = false := by simp
      have s2 : decide (m ≤ i) = false := by simp; omega
      have HI : Hid ((0 : Int) ≤ (i : Int) ∧ (i : Int) < (Dp.procsN vs : Int)) := Lib.hid ⟨by omega, by rw [HPN.out]; omega⟩
      have hm64 : m ≤ 64 := by
        have T := Dp.tree_of_in HI.out.1 HI.out.2
        have := those_len (levelP 3) vs
        have e : (Tp.those (levelP 3) vs).length = m := by rw [← HPN.out, Dp.procsN_tree T]; rfl
        have := hn.out
        omega
      have hlen : (Dp.near vs i).length = m - 1 := by rw [Dp.near_length HI.out.1 HI.out.2, HPN.out]
      rw [hlen] at hcap ⊢
      have HLEN := Lib.hid hlen
      have HI3 := Lib.hid hI3
      clear ho hlen hI3
      go_wp2_with fail
      go_loopw [8] (fun q wr => ∃ k : Nat, k ≤ m - 1 ∧ q = .int .i64 k ∧ Below w3.heap.size w3 wr) (fun q _ => (m - 1) - (intOf q).toNat)
      case atStart => exact ⟨0, by omega, rfl, Below.refl _ _⟩
      case round =>
        obtain ⟨k, hk, rfl, hbr⟩ := hrel
        have hbe := hbe3.trans (hbr.mono hbe3.size)
        by_cases hkm : k < m - 1
        · have hvr := (hv.below hbe).more hbe.size
          have hIr := HI3.out.below hbr
          obtain ⟨z, hz⟩ : ∃ z, (Dp.near vs i)[k]? = some z := ⟨_, List.getElem?_eq_getElem (by have := HLEN.out; omega)⟩
          obtain ⟨z0, z1, zne, zno, zfar⟩ := Dp.near_at HI.out.1 HI.out.2 hz
          rw [HPN.out] at z1
          obtain ⟨rb, ro, hA2, hrb, hcz⟩ := hIr k z hz
          subst hA2
          have hIt := Lib.hid ((IRow.take' hIr k).more hbr.size)
          have G : Hid (∀ (W : World), IRow W wr.heap.size (some ⟨rb, ro, none⟩) ((Dp.near vs i).take k) → Calls Try.prog 20 #[.slice (some ⟨rb, ro, none⟩) k c2, .int .i64 z] W fun e w' => e = .returned (.bool false) ∧ w' = W) :=
            Lib.hid (fun W hW => (in_any _ k c2 _ z W _ (Lib.hid (by rw [List.length_take, HLEN.out]; omega)) (by omega) hW).mono fun e w' ⟨he, hw⟩ => ⟨by rw [he]; exact ret_bool zno, hw⟩)
          have u1 : decide (z < 0) = false := by simp; omega
          have u2 : decide ((m : Int) ≤ z) = false := by simp; omega
          have u3 : (z == (i : Int)) = false := by rw [beq_eq_false_iff_ne]; exact zne
          have u4 : (0 : Int) ≤ (k : Int) := by omega
          have u5 : (k : Int) < ((m - 1 : Nat) : Int) := by omega
          have u6 : (k : Int) ≤ (c2 : Int) := by omega
          have HZ := Lib.hid hz
          clear hz zno zne
          cases k with
          | zero =>
            simp only [Nat.add_zero] at hcz
            have G1 : Hid (∀ q, Calls Try.prog 20 #[.slice (some ⟨rb, ro, none⟩) 0 c2, .int .i64 z] (wr.drewN q) fun e w' => e = .returned (.bool false) ∧ w' = wr.drewN q) := Lib.hid (fun q => G.out (wr.drewN q) hIt.out)
            clear zfar G
            go_wp2_with fail
            go_quiet ((go_at_call 20; (with_reducible exact Calls.quiet_of_same (G1.out _))))
            go_wp2_with fail
            go_roundw
            case rel => exact ⟨1, by omega, by go_num, below_drewN hbr _⟩
            case measure => simp [intOf]; omega
          | succ k =>
            obtain ⟨y, hy⟩ : ∃ y, (Dp.near vs i)[k]? = some y := ⟨_, List.getElem?_eq_getElem (by have := HLEN.out; omega)⟩
            obtain ⟨rb', ro', hA2, _, hcy⟩ := hIr k y hy
            injection hA2 with hA2
            injection hA2 with e1 e2
            subst e1 e2
            have hfar := zfar k y (by omega) hy
            have u7 : IntKind.i64.wrap ((k : Int) + 1 - 1) = (k : Int) := by rw [show (k : Int) + 1 - 1 = k from by omega]; exact IntWalk.i64_in _ (by omega)
            have u8 : decide ((0 : Int) < (k : Int) + 1) = true := decide_eq_true (by omega)
            have u9 : (0 : Int) ≤ (k : Int) := by omega
            have u10 : (k : Int) < ((m - 1 : Nat) : Int) := by omega
            have u11 : (0 : Int) ≤ (k : Int) + 1 := by omega
            have u12 : (k : Int) + 1 < ((m - 1 : Nat) : Int) := by omega
            have u13 : (k : Int) + 1 ≤ (c2 : Int) := by omega
            have u14 : ((k : Int) + 1).toNat = k + 1 := by omega
            have u15 : IntKind.i64.wrap (k : Int) = (k : Int) := IntWalk.i64_in _ (by omega)
            have u16 : k < m - 1 := by omega
            have hrw : rb < wr.heap.size := by have := hbr.size; omega
            clear zfar hy
            go_wp2_with fail
            go_region_held3 (fun w' => w'.cell? ⟨rb, ro + (k + 1), none⟩ = some (.int .i64 z) ∧ w'.cell? ⟨rb, ro + k, none⟩ = some (.int .i64 y))
              (first | (go_split_ands; refine ⟨?_, ?_⟩ <;> (first | (rw [hbY.cell (by have := hbX.size; simp; omega)]; assumption) | (rw [hbX.cell (by simp; omega)]; assumption))) | go_keep)
              ((first
                | (go_at_call 20; refine (G.out _ (by exact hIt.out)).mono ?_; rintro e w' ⟨rfl, rfl⟩)
                | (go_at_call_of 11 (Value.int .i64 z); refine (far_any _ n c vs i z _ hn hl hf (by exact hvr)).mono ?_; rintro e wX ⟨rfl, hbX'⟩; have hbX := below_undrew hbX')
                | (go_at_call_of 11 (Value.int .i64 y); refine (far_any _ n c vs i y _ hn hl hf (by exact ((hvr.below hbX).more hbX.size))).mono ?_; rintro e wY ⟨rfl, hbY⟩)))
            go_wp2_with fail
            go_roundw
            case rel => exact ⟨k + 2, by omega, by go_num, (hbr.trans ((hbX.trans (hbY.mono hbX.size)).mono hbr.size))⟩
            case measure => simp [intOf]; omega
        · have t1 : (((m - 1 : Nat) : Int) == (m : Int) - 1) = true := by rw [beq_iff_eq]; omega
          go_wp2_with fail
          go_ret
          refine ⟨?_, hbe⟩
          first | rfl | exact ret_bool (by simp; omega)
  · go_wp2_with fail
    go_ret
    exact ⟨rfl, hb1⟩
set_option maxRecDepth 100000 in
theorem lifted (os : Os) (started : os.Started) (H : Type) (enc : TypeId × Value → H) :
    ReturnsInHanded {} Try.checked os 6 .any (Rows.distNearSpec.pre6 enc Try.prog Try.f6 Rows.distNearRow.domain false) (Rows.distNearSpec.post enc Try.prog Try.f6 false true false false) := by
  refine returnsInHanded_of_change (C := Try.checked) own started (by kernel_rfl) Try.func6
    (ChangeSpec.witness6 (enc := enc) (C := Try.checked) false ⟨#[], #[.slice none 0 0, .int .i64 0], []⟩ 8 (by kernel_rfl) (by kernel_rfl) (by kernel_rfl) (by kernel_rfl)) ?_
  intro W base args ds gs before hval0 hW hcnd _
  have hval : ∀ (j : Nat) t v, Try.f6.params[j]? = some t → args[j]? = some v → Value.okWide Try.prog W .any base t v := hval0
  have hW' := hW
  obtain ⟨p, q, hA0, hV, rfl, hfz, hnd⟩ := hW
  have hA : DataW.TrodAll enc Try.prog W 0 (fun _ => true) true Try.f6.params.toList args.toList ds p := hA0
  rw [Try.params6] at hA hval
  obtain ⟨v0, vs0, d0, ds0, p0, q0, hargs, rfl, rfl, h0, r0⟩ := trodAll_cons hA
  obtain ⟨v1, vs1, d1, ds1, p1, q1, rfl, rfl, rfl, h1, r1⟩ := trodAll_cons r0
  obtain ⟨rfl, rfl, rfl⟩ := trodAll_nil r1
  obtain rfl : args = #[v0, v1] := by cases args; simp_all
  obtain ⟨rfl, rfl⟩ := trodVars_none hV
  obtain ⟨a0, len0, cap0, rfl⟩ := okWide_slice Try.underlying22 (hval 0 22 v0 rfl rfl)
  have k0 := h0
  have lt0 : ∀ x ∈ p0, x.block < W.heap.size := by obtain ⟨m, hm⟩ := k0; exact DataW.trod_lt m _ _ _ hm
  obtain ⟨hl0, hc0, z0, hn0, hf0, hr0⟩ : len0 ≤ 9223372036854775807 ∧ (len0 ≤ cap0 ∧ cap0 ≤ 9223372036854775807) ∧ ∃ vs : List (Int × Int), vs.length = len0 ∧ Fit vs ∧ VRow W W.heap.size a0 vs := by
    obtain ⟨fuel, hf⟩ := h0
    exact open_vs (by simpa [Value.cells] using hf)
  obtain ⟨a1, rfl, rfl, rfl, w1⟩ := open_int Try.underlying3 (hval 1 3 v1 rfl rfl) h1
  clear hA0 hval0
  refine (walk a0 len0 cap0 z0 a1 W (Lib.hid hn0) hl0 (Lib.hid hf0) hr0).mono fun e W' ⟨he, bel⟩ => ?_
  subst he
  exact ⟨_, rfl, _, _, _, [], _, [], hW', trodAll_mk1 (shut_bool Try.underlying4 _), (trodAll_cons_mk (Below.trod laidOut (by kernel_rfl) (of_decide_eq_true (by kernel_rfl)) k0 bel lt0) (trodAll_cons_mk (shut_int Try.underlying3 w1) trodAll_mk0)), rfl, bel.frame _, fun h => by cases h⟩
theorem over : Rows.distNearRow.holds Try.pinned (OpenSpec.ofChange Rows.distNearSpec) :=
  OpenClaim.holds_of_wide 6 Try.f6 rfl rfl rfl rfl rfl rfl rfl ⟨rfl, rfl, rfl, rfl, rfl⟩ rfl rfl rfl rfl rfl (by kernel_rfl) Try.func6 (by kernel_rfl)
    (of_decide_eq_true (by kernel_rfl)) (by unfold Func.isWrapper; first | (rw [if_pos (by decide +kernel)]; kernel_rfl) | (rw [if_neg (by decide +kernel)]; exact ⟨rfl, rfl⟩))
    (fun os started H enc _ => lifted os started H enc)
theorem proved : Rows.DistNearSaid := over
end Go.Proofs.Ytkjcihdejileoaa.distNear

