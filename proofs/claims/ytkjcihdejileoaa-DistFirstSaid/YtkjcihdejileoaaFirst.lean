/- DistFirst: who is nearest is first: of one core, if there is another one of it; else of one node, if there is; and so on: the call answers true and changes nothing that was there; for every input. -/
import Derived.Test.YtkjcihdejileoaaShown
import Derived.Test.YtkjcihdejileoaaDNear
import Derived.Test.YtkjcihdejileoaaFrame
namespace Go.Proofs.Ytkjcihdejileoaa.distFirst
open Go.ChangeShapes Go.WideShapes Go.ChangeAt Go.RowKit
set_option linter.unusedVariables false

/-- Nobody of the first k, but p, is nearer than f. -/
def Least (vs : List (Int × Int)) (p : Int) (k : Nat) (f : Int) : Prop := (∀ q : Nat, q < k → (q : Int) ≠ p → f ≤ Dp.far vs p q) ∧ (f = 3 ∨ ∃ q : Nat, q < k ∧ (q : Int) ≠ p ∧ Dp.far vs p q = f)
theorem Least.skip {vs : List (Int × Int)} {p f : Int} {k : Nat} (h : Least vs p k f) (hk : (k : Int) = p) : Least vs p (k + 1) f := by
  refine ⟨fun q hq hne => h.1 q ?_ hne, h.2.imp id fun ⟨q, a, b, c⟩ => ⟨q, by omega, b, c⟩⟩
  by_cases e : q = k
  · subst e; exact absurd hk hne
  · omega
theorem Least.keep {vs : List (Int × Int)} {p f g : Int} {k : Nat} (h : Least vs p k f) (hg : Dp.far vs p k = g) (hfg : f ≤ g) : Least vs p (k + 1) f := by
  refine ⟨fun q hq hne => ?_, h.2.imp id fun ⟨q, a, b, c⟩ => ⟨q, by omega, b, c⟩⟩
  by_cases e : q = k
  · subst e; rw [hg]; exact hfg
  · exact h.1 q (by omega) hne
theorem Least.take {vs : List (Int × Int)} {p f g : Int} {k : Nat} (h : Least vs p k f) (hk : (k : Int) ≠ p) (hg : Dp.far vs p k = g) (hfg : g ≤ f) : Least vs p (k + 1) g := by
  refine ⟨fun q hq hne => ?_, .inr ⟨k, by omega, hk, hg⟩⟩
  by_cases e : q = k
  · subst e; rw [hg]; exact Int.le_refl _
  · have := h.1 q (by omega) hne; omega

set_option maxHeartbeats 1000000 in
theorem walk (A : Option Addr) (n c : Nat) (vs : List (Int × Int)) (p : Int) (w : World)
    (hn : Hid (vs.length = n)) (hl : n ≤ 9223372036854775807) (hf : Hid (Fit vs)) (hv : VRow w w.heap.size A vs) :
    Calls Try.prog 8 #[.slice A n c, .int .i64 p] w fun e w' => e = .returned (.bool true) ∧ Below w.heap.size w w' := by
  go_enter Try.func8, Try.ntmps8
  go_wp2_with fail
  refine (shown_any _).mono ?_
  rintro e w1 ⟨rfl, hb1⟩
  have hv1 := (hv.below hb1).more hb1.size
  go_wp2_with fail
  refine (refProcs_any _ n c vs _ hn hl hf hv1).mono ?_
  rintro e w2 ⟨rfl, hb2⟩
  have hbe2 := hb1.trans (hb2.mono hb1.size)
  have hv2 := (hv.below hbe2).more hbe2.size
  clear hb1 hb2 hv1
  generalize hpn : Dp.procsN vs = m
  have HPN := Lib.hid hpn
  clear hpn
  by_cases h64 : n ≤ 64
  · by_cases g1 : p < 0
    · go_wp2_with fail
      go_ret
      exact ⟨rfl, hbe2⟩
    by_cases g2 : (m : Int) ≤ p
    · go_wp2_with fail
      go_ret
      exact ⟨rfl, hbe2⟩
    by_cases g3 : m < 2
    · go_wp2_with fail
      go_ret
      exact ⟨rfl, hbe2⟩
    obtain ⟨i, rfl⟩ := Int.eq_ofNat_of_zero_le (show 0 ≤ p by omega)
    have him : i < m := by omega
    have s1 : decide ((i : Int) < 0) = false := by simp
    have s2 : decide (m ≤ i) = false := by simp; omega
    have HI : Hid ((0 : Int) ≤ (i : Int) ∧ (i : Int) < (Dp.procsN vs : Int)) := Lib.hid ⟨by omega, by rw [HPN.out]; omega⟩
    have hm64 : m ≤ 64 := by
      have T := Dp.tree_of_in HI.out.1 HI.out.2
      have := those_len (levelP 3) vs
      have e : (Tp.those (levelP 3) vs).length = m := by rw [← HPN.out, Dp.procsN_tree T]; rfl
      have := hn.out
      omega
    clear g1 g2
    go_wp2_with fail
    refine (near_any _ n c vs i _ hn hl hf hv2).mono ?_
    rintro e w3 ⟨A3, c3, rfl, hI3, hb3⟩
    have hbe3 := hbe2.trans (hb3.mono hbe2.size)
    have hlen : (Dp.near vs i).length = m - 1 := by rw [Dp.near_length HI.out.1 HI.out.2, HPN.out]
    rw [hlen]
    obtain ⟨z, hz⟩ : ∃ z, (Dp.near vs i)[0]? = some z := ⟨_, List.getElem?_eq_getElem (by omega)⟩
    have HZ := Lib.hid hz
    have hIr := Lib.hid hI3
    clear hlen hb3 hv2 hz hI3
    go_wp2_with fail
    go_loopw [8, 9] (fun f q wr => ∃ (k : Nat) (L : Int), k ≤ m ∧ 1 ≤ L ∧ L ≤ 3 ∧ q = .int .i64 k ∧ f = .int .i64 L ∧ Hid (Least vs i k L) ∧ Below w3.heap.size w3 wr) (fun _ q _ => m - (intOf q).toNat)
    case atStart => exact ⟨0, 3, by omega, by decide, by decide, rfl, rfl, Lib.hid ⟨fun q hq => absurd hq (by omega), .inl rfl⟩, Below.refl _ _⟩
    case round =>
      obtain ⟨k, L, hk, hL1, hL3, rfl, rfl, hle, hbr⟩ := hrel
      have hbe := hbe3.trans (hbr.mono hbe3.size)
      have hvr := (hv.below hbe).more hbe.size
      by_cases hkm : k < m
      · by_cases hki : k = i
        · have H : Hid (Least vs i (k + 1) L) := Lib.hid (hle.out.skip (by omega))
          have q1 : ((k : Int) != (i : Int)) = false := by rw [bne_eq_false_iff_eq]; omega
          have q2 : ((k : Int) == (i : Int)) = true := by rw [beq_iff_eq]; omega
          clear hki
          go_wp2_with fail
          go_roundw
          case rel => exact ⟨k + 1, L, by omega, hL1, hL3, by go_num, rfl, H, hbr⟩
          case measure => simp [intOf]; omega
        · have q1 : ((k : Int) != (i : Int)) = true := by rw [bne_iff_ne]; omega
          have q2 : ((k : Int) == (i : Int)) = false := by rw [beq_eq_false_iff_ne]; omega
          have f1 := Dp.far_ne_zero (z := (k : Int)) HI.out.1 HI.out.2 (by omega) (by rw [HPN.out]; omega) (by omega)
          have f3 := (Dp.far_bounds vs i k).2
          go_wp2_with fail
          refine (far_any _ n c vs i k _ hn hl hf hvr).mono ?_
          rintro e w4 ⟨rfl, hb4⟩
          have hbr4 := hbr.trans (hb4.mono hbr.size)
          generalize hg : Dp.far vs i k = g at f1 f3 ⊢
          have HG := Lib.hid hg
          clear hg hb4 hvr
          rcases Int.lt_trichotomy L g with hc | hc | hc
          · have H : Hid (Least vs i (k + 1) L) := Lib.hid (hle.out.keep HG.out (by omega))
            go_wp2_with fail
            go_roundw
            case rel => exact ⟨k + 1, L, by omega, hL1, hL3, by go_num, by go_num, H, hbr4⟩
            case measure => simp [intOf]; omega
          · subst hc
            have H : Hid (Least vs i (k + 1) L) := Lib.hid (hle.out.keep HG.out (by omega))
            go_wp2_with fail
            go_roundw
            case rel => exact ⟨k + 1, L, by omega, hL1, hL3, by go_num, by go_num, H, hbr4⟩
            case measure => simp [intOf]; omega
          · have H : Hid (Least vs i (k + 1) g) := Lib.hid (hle.out.take (by omega) HG.out (by omega))
            go_wp2_with fail
            go_roundw
            case rel => exact ⟨k + 1, g, by omega, f1, f3, by go_num, by go_num, H, hbr4⟩
            case measure => simp [intOf]; omega
      · have hzf : Dp.far vs i z = L := by
          obtain ⟨l1, l2⟩ := hle.out
          obtain ⟨z0, z1, zne, _, _⟩ := Dp.near_at HI.out.1 HI.out.2 HZ.out
          obtain ⟨u, rfl⟩ := Int.eq_ofNat_of_zero_le z0
          have a1 := l1 u (by rw [HPN.out] at z1; omega) zne
          have b3 := (Dp.far_bounds vs i u).2
          rcases l2 with e | ⟨q, hq, hqne, e⟩
          · omega
          · have hm := (Dp.mem_near (z := (q : Int)) HI.out.1 HI.out.2).2 ⟨by omega, by rw [HPN.out]; omega, hqne⟩
            obtain ⟨j, hj⟩ := List.mem_iff_getElem?.1 hm
            rcases Nat.eq_zero_or_pos j with e0 | e0
            · subst e0
              rw [HZ.out] at hj
              injection hj with hj
              rw [hj]; exact e
            · have := (Dp.near_at HI.out.1 HI.out.2 hj).2.2.2.2 0 u e0 HZ.out
              omega
        have HZF := Lib.hid hzf
        obtain ⟨rb, ro, hA3, _, hcz⟩ := (hIr.out.below hbr) 0 z HZ.out
        subst hA3
        simp only [Nat.add_zero] at hcz
        have t1 : ((m : Int) - 1 == (m : Int) - 1) = true := by simp
        have t2 : (0 : Int) < (m : Int) - 1 := by omega
        have t3 : 0 < m - 1 := by omega
        have t4 : (((m - 1 : Nat) : Int) == (m : Int) - 1) = true := by rw [beq_iff_eq]; omega
        clear hzf
        go_wp2_with fail
        refine (far_any _ n c vs i z _ hn hl hf hvr).mono ?_
        rintro e w4 ⟨rfl, hb4⟩
        have hbe4 := hbe.trans (hb4.mono hbe.size)
        rw [HZF.out]
        go_wp2_with fail
        go_ret
        refine ⟨?_, hbe4⟩
        first | rfl | exact ret_bool (by simp; omega)
  · go_wp2_with fail
    go_ret
    exact ⟨rfl, hbe2⟩
set_option maxRecDepth 100000 in
theorem lifted (os : Os) (started : os.Started) (H : Type) (enc : TypeId × Value → H) :
    ReturnsInHanded {} Try.checked os 8 .any (Rows.distFirstSpec.pre6 enc Try.prog Try.f8 Rows.distFirstRow.domain false) (Rows.distFirstSpec.post enc Try.prog Try.f8 false true false false) := by
  refine returnsInHanded_of_change (C := Try.checked) own started (by kernel_rfl) Try.func8
    (ChangeSpec.witness6 (enc := enc) (C := Try.checked) false ⟨#[], #[.slice none 0 0, .int .i64 0], []⟩ 8 (by kernel_rfl) (by kernel_rfl) (by kernel_rfl) (by kernel_rfl)) ?_
  intro W base args ds gs before hval0 hW hcnd _
  have hval : ∀ (j : Nat) t v, Try.f8.params[j]? = some t → args[j]? = some v → Value.okWide Try.prog W .any base t v := hval0
  have hW' := hW
  obtain ⟨p, q, hA0, hV, rfl, hfz, hnd⟩ := hW
  have hA : DataW.TrodAll enc Try.prog W 0 (fun _ => true) true Try.f8.params.toList args.toList ds p := hA0
  rw [Try.params8] at hA hval
  obtain ⟨v0, vs0, d0, ds0, p0, q0, hargs, rfl, rfl, h0, r0⟩ := trodAll_cons hA
  obtain ⟨v1, vs1, d1, ds1, p1, q1, rfl, rfl, rfl, h1, r1⟩ := trodAll_cons r0
  obtain ⟨rfl, rfl, rfl⟩ := trodAll_nil r1
  obtain rfl : args = #[v0, v1] := by cases args; simp_all
  obtain ⟨rfl, rfl⟩ := trodVars_none hV
  obtain ⟨a0, len0, cap0, rfl⟩ := okWide_slice Try.underlying22 (hval 0 22 v0 rfl rfl)
  have k0 := h0
  have lt0 : ∀ x ∈ p0, x.block < W.heap.size := by obtain ⟨m, hm⟩ := k0; exact DataW.trod_lt m _ _ _ hm
  obtain ⟨hl0, hc0, z0, hn0, hf0, hr0⟩ : len0 ≤ 9223372036854775807 ∧ (len0 ≤ cap0 ∧ cap0 ≤ 9223372036854775807) ∧ ∃ vs : List (Int × Int), vs.length = len0 ∧ Fit vs ∧ VRow W W.heap.size a0 vs := by
    obtain ⟨fuel, hf⟩ := h0
    exact open_vs (by simpa [Value.cells] using hf)
  obtain ⟨a1, rfl, rfl, rfl, w1⟩ := open_int Try.underlying3 (hval 1 3 v1 rfl rfl) h1
  clear hA0 hval0
  refine (walk a0 len0 cap0 z0 a1 W (Lib.hid hn0) hl0 (Lib.hid hf0) hr0).mono fun e W' ⟨he, bel⟩ => ?_
  subst he
  exact ⟨_, rfl, _, _, _, [], _, [], hW', trodAll_mk1 (shut_bool Try.underlying4 _), (trodAll_cons_mk (Below.trod laidOut (by kernel_rfl) (of_decide_eq_true (by kernel_rfl)) k0 bel lt0) (trodAll_cons_mk (shut_int Try.underlying3 w1) trodAll_mk0)), rfl, bel.frame _, fun h => by cases h⟩
theorem over : Rows.distFirstRow.holds Try.pinned (OpenSpec.ofChange Rows.distFirstSpec) :=
  OpenClaim.holds_of_wide 8 Try.f8 rfl rfl rfl rfl rfl rfl rfl ⟨rfl, rfl, rfl, rfl, rfl⟩ rfl rfl rfl rfl rfl (by kernel_rfl) Try.func8 (by kernel_rfl)
    (of_decide_eq_true (by kernel_rfl)) (by unfold Func.isWrapper; first | (rw [if_pos (by decide +kernel)]; kernel_rfl) | (rw [if_neg (by decide +kernel)]; exact ⟨rfl, rfl⟩))
    (fun os started H enc _ => lifted os started H enc)
theorem proved : Rows.DistFirstSaid := over
end Go.Proofs.Ytkjcihdejileoaa.distFirst

