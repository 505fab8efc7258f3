/- TextTurns: trees whose vertices are numbered in another order have the same text, if the order of those below each one is the same: the call answers true and changes nothing that was there; for every input. -/
import Derived.Test.YtdhcnmcfgicbjaaShown
import Derived.Test.YtdhcnmcfgicbjaaTRef
namespace Go.Proofs.Ytdhcnmcfgicbjaa.textTurns
open Go.ChangeShapes Go.WideShapes Go.ChangeAt Go.RowKit
set_option linter.unusedVariables false

theorem fit_may {vs : List (Int × Int)} (h : Tp.may vs = true) : Fit vs := by
  have T := (Tp.tree_iff vs).1 h
  intro x hx
  obtain ⟨i, hi⟩ := List.mem_iff_getElem?.1 hx
  have hl := T.level hi
  have hf := T.few
  have hil := (List.getElem?_eq_some_iff.1 hi).1
  by_cases h0 : i = 0
  · subst h0
    rw [T.first] at hi
    injection hi with hi
    subst hi
    exact ⟨⟨by decide, by decide⟩, ⟨by decide, by decide⟩⟩
  · obtain ⟨p, y, e, hp, _⟩ := T.next i x hi (by omega)
    exact ⟨⟨by omega, by omega⟩, ⟨by omega, by omega⟩⟩
set_option maxHeartbeats 4000000 in
theorem walk (A : Option Addr) (n c : Nat) (vs : List (Int × Int)) (w : World)
    (hn : Hid (vs.length = n)) (hl : n ≤ 9223372036854775807) (hf : Hid (Fit vs)) (hv : VRow w w.heap.size A vs) :
    Calls Try.prog 6 #[.slice A n c] w fun e w' => e = .returned (.bool true) ∧ Below w.heap.size w w' := by
  go_enter Try.func6, Try.ntmps6
  go_wp2_with fail
  refine (shown_any _).mono ?_
  rintro e w1 ⟨rfl, hb1⟩
  by_cases h64 : 64 < n
  · go_wp2_with fail
    go_ret
    exact ⟨rfl, hb1⟩
  · have hva := (hv.below hb1).more hb1.size
    have hd64 : decide (64 < (n : Int)) = false := by simp; omega
    go_wp2_with fail
    refine (refCheck_any A n c vs _ hn hl hf hva).mono ?_
    rintro e w2 ⟨rfl, hb2⟩
    have hbe2 := hb1.trans (hb2.mono hb1.size)
    have hvb := (hv.below hbe2).more hbe2.size
    clear hb1 hb2 hva
    cases hm : Tp.may vs
    · have HM := Lib.hid (show Tp.errno false = 2 from rfl)
      clear hm
      rw [HM.out]
      go_wp2_with fail
      go_ret
      exact ⟨rfl, hbe2⟩
    · have T := (Tp.tree_iff vs).1 hm
      have HR := Lib.hid (show sameR vs = Tx.sm vs by unfold sameR; rw [hm]; rfl)
      have HM := Lib.hid (show Tp.errno true = 0 from rfl)
      have TS := Tx.tree_sm T
      have hms := (Tp.tree_iff _).2 TS
      have HRS := Lib.hid (show sameR (Tx.sm vs) = Tx.sm vs by unfold sameR; rw [hms]; simp only [if_true]; exact Tx.sm_sm vs)
      have HF := Lib.hid (fit_may hms)
      have HLS := Lib.hid (show (Tx.sm vs).length = n by rw [Tx.len_sm T, hn.out])
      have HTU := Lib.hid (Tx.turn_sm vs)
      have H0 := Lib.hid TS.first
      have hn1 : 1 ≤ n := by have := TS.pos; rw [HLS.out] at this; exact this
      clear hm hms T TS
      rw [HM.out]
      obtain ⟨zs, hzs⟩ : ∃ zs, zs = Tx.sm vs := ⟨_, rfl⟩
      rw [← hzs] at HR HRS HF HLS HTU H0
      clear hzs
      go_wp2_with fail
      refine (same_any A n c vs _ hn hl hf hvb).mono ?_
      rintro e w3 ⟨A3, c3, rfl, hv3, hb3⟩
      rw [HR.out] at hv3 ⊢
      rw [HLS.out]
      have hbe3 := hbe2.trans (hb3.mono hbe2.size)
      clear hbe2 hb3 hvb
      go_wp2_with fail
      go_loopw [5] (fun i wr => ∃ k : Nat, 1 ≤ k ∧ k ≤ n ∧ i = .int .i64 k ∧ Below w.heap.size w wr ∧ Below w3.heap.size w3 wr) (fun i _ => n - (intOf i).toNat)
      case atStart => exact ⟨1, Nat.le_refl _, hn1, rfl, hbe3, Below.refl _ _⟩
      case round =>
        obtain ⟨k, hk1, hk, rfl, hbe, hb9⟩ := hrel
        have hvr := (hv3.below hb9).more hb9.size
        by_cases hlt : k < n
        · obtain ⟨x, hx⟩ : ∃ x, zs[k]? = some x := ⟨_, List.getElem?_eq_getElem (by have := HLS.out; omega)⟩
          obtain ⟨y, hy⟩ : ∃ y, zs[k - 1]? = some y := ⟨_, List.getElem?_eq_getElem (by have := HLS.out; omega)⟩
          obtain ⟨b, off, hA, hbk, hc1, hc2⟩ := hvr k x hx
          obtain ⟨b', off', hA', _, hd1, hd2⟩ := hvr (k - 1) y hy
          subst hA
          injection hA' with hA'
          injection hA' with e1 e2
          subst e1 e2
          have ht : ¬ (x.1 < y.1 ∧ y.2 < x.2) := HTU.out (k - 1) y x hy (by rw [show k - 1 + 1 = k by omega]; exact hx)
          have s1 : IntKind.i64.wrap ((k : Int) - 1) = (k : Int) - 1 := IntWalk.i64_in _ (by omega)
          have s2 : (0 : Int) ≤ (k : Int) - 1 := by omega
          have s3 : (k : Int) - 1 < (n : Int) := by omega
          have s4 : ((k : Int) - 1).toNat = k - 1 := by omega
          have s5 : (1 : Int) ≤ (k : Int) := by omega
          have HT := Lib.hid ht
          clear hx hy ht
          by_cases h1 : x.1 < y.1
          · have d1 : decide (x.1 < y.1) = true := by simpa using h1
            have d2 : decide (y.2 < x.2) = false := by have := HT.out; simp; omega
            go_wp2_with fail
            go_quiet (fail)
            clear s1 s4
            go_wp2_with fail
            go_roundw
            case rel => exact ⟨k + 1, by omega, by omega, by go_num, below_drewN hbe _, below_drewN hb9 _⟩
            case measure => simp [intOf]; omega
          · have d1 : decide (x.1 < y.1) = false := by simpa using h1
            go_wp2_with fail
            go_quiet (fail)
            clear s1 s4
            go_wp2_with fail
            go_roundw
            case rel => exact ⟨k + 1, by omega, by omega, by go_num, below_drewN hbe _, below_drewN hb9 _⟩
            case measure => simp [intOf]; omega
        · go_wp2_with fail
          refine (same_any A3 n c3 zs _ HLS hl HF hvr).mono ?_
          rintro e w4 ⟨A4, c4, rfl, hv4, hb4⟩
          rw [HRS.out] at hv4 ⊢
          rw [HLS.out]
          have hbe4 := hbe.trans (hb4.mono hbe.size)
          have hvs := (hvr.below hb4).more hb4.size
          go_wp2_with fail
          refine (refSame_any A3 A4 n c3 c4 zs _ HLS hl hvs hv4).mono ?_
          rintro e w5 ⟨rfl, hb5⟩
          have hbe5 := hbe4.trans (hb5.mono hbe4.size)
          have hvt := (hvs.below hb5).more hb5.size
          obtain ⟨b, off, hA, _, hc1, _⟩ := hvt 0 _ H0.out
          subst hA
          simp only [Nat.zero_mul, Nat.add_zero] at hc1
          go_wp2_with fail
          go_ret
          exact ⟨rfl, hbe5⟩
set_option maxRecDepth 100000 in
theorem lifted (os : Os) (started : os.Started) (H : Type) (enc : TypeId × Value → H) :
    ReturnsInHanded {} Try.checked os 6 .any (Rows.textTurnsSpec.pre6 enc Try.prog Try.f6 Rows.textTurnsRow.domain false) (Rows.textTurnsSpec.post enc Try.prog Try.f6 false true false false) := by
  refine returnsInHanded_of_change (C := Try.checked) own started (by kernel_rfl) Try.func6
    (ChangeSpec.witness6 (enc := enc) (C := Try.checked) false ⟨#[], #[.slice none 0 0], []⟩ 8 (by kernel_rfl) (by kernel_rfl) (by kernel_rfl) (by kernel_rfl)) ?_
  intro W base args ds gs before hval0 hW hcnd _
  have hval : ∀ (j : Nat) t v, Try.f6.params[j]? = some t → args[j]? = some v → Value.okWide Try.prog W .any base t v := hval0
  have hW' := hW
  obtain ⟨p, q, hA0, hV, rfl, hfz, hnd⟩ := hW
  have hA : DataW.TrodAll enc Try.prog W 0 (fun _ => true) true Try.f6.params.toList args.toList ds p := hA0
  rw [Try.params6] at hA hval
  obtain ⟨v0, vs0, d0, ds0, p0, q0, hargs, rfl, rfl, h0, r0⟩ := trodAll_cons hA
  obtain ⟨rfl, rfl, rfl⟩ := trodAll_nil r0
  obtain rfl : args = #[v0] := by cases args; simp_all
  obtain ⟨rfl, rfl⟩ := trodVars_none hV
  obtain ⟨a0, len0, cap0, rfl⟩ := okWide_slice Try.underlying22 (hval 0 22 v0 rfl rfl)
  have k0 := h0
  have lt0 : ∀ x ∈ p0, x.block < W.heap.size := by obtain ⟨m, hm⟩ := k0; exact DataW.trod_lt m _ _ _ hm
  obtain ⟨hl0, hc0, z0, hn0, hf0, hr0⟩ : len0 ≤ 9223372036854775807 ∧ (len0 ≤ cap0 ∧ cap0 ≤ 9223372036854775807) ∧ ∃ vs : List (Int × Int), vs.length = len0 ∧ Fit vs ∧ VRow W W.heap.size a0 vs := by
    obtain ⟨fuel, hf⟩ := h0
    exact open_vs (by simpa [Value.cells] using hf)
  clear hA0 hval0
  refine (walk a0 len0 cap0 z0 W (Lib.hid hn0) hl0 (Lib.hid hf0) hr0).mono fun e W' ⟨he, bel⟩ => ?_
  subst he
  exact ⟨_, rfl, _, _, _, [], _, [], hW', trodAll_mk1 (shut_bool Try.underlying4 _), (trodAll_cons_mk (Below.trod laidOut (by kernel_rfl) (of_decide_eq_true (by kernel_rfl)) k0 bel lt0) trodAll_mk0), rfl, bel.frame _, fun h => by cases h⟩
theorem over : Rows.textTurnsRow.holds Try.pinned (OpenSpec.ofChange Rows.textTurnsSpec) :=
  OpenClaim.holds_of_wide 6 Try.f6 rfl rfl rfl rfl rfl rfl rfl ⟨rfl, rfl, rfl, rfl, rfl⟩ rfl rfl rfl rfl rfl (by kernel_rfl) Try.func6 (by kernel_rfl)
    (of_decide_eq_true (by kernel_rfl)) (by unfold Func.isWrapper; first | (rw [if_pos (by decide +kernel)]; kernel_rfl) | (rw [if_neg (by decide +kernel)]; exact ⟨rfl, rfl⟩))
    (fun os started H enc _ => lifted os started H enc)
theorem proved : Rows.TextTurnsSaid := over
end Go.Proofs.Ytdhcnmcfgicbjaa.textTurns

