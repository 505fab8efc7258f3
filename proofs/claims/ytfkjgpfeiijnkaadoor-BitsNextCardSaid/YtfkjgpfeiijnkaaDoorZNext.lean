/- BitsNext: gone round from member to member, each one is told once, until the first one comes again: the call answers true and changes nothing that was there; for every input. -/
import Derived.Test.YtfkjgpfeiijnkaaDoorZShown
import Derived.Test.YtfkjgpfeiijnkaaDoorZRound
namespace Go.Proofs.YtfkjgpfeiijnkaaDoor.bitsNext
open Go.ChangeShapes Go.WideShapes Go.ChangeAt Go.RowKit
set_option linter.unusedVariables false

theorem mod_ne {j0 k K : Nat} (h0 : j0 < K) (h1 : 0 < k) (h2 : k < K) : (j0 + k) % K ≠ j0 := by
  by_cases h : j0 + k < K
  · rw [Nat.mod_eq_of_lt h]; omega
  · rw [Nat.mod_eq_sub_mod (by omega), Nat.mod_eq_of_lt (by omega)]; omega
theorem mod_round {j0 k K : Nat} : ((j0 + k) % K + 1) % K = (j0 + (k + 1)) % K := by
  rw [Nat.mod_add_mod, Nat.add_assoc]
theorem tmod64 {a : Int} (h : 0 ≤ a) : (a + 1).tmod 64 = (a + 1) % 64 := Int.tmod_eq_emod_of_nonneg (by omega)
set_option maxHeartbeats 4000000 in
theorem walk (x : Nat) (n : Int) (w : World) (hx : x < 18446744073709551616) (hT : Tab w) :
    Calls Tryd.prog 5 #[.int .u64 x, .int .i64 n] w fun e w' => e = .returned (.bool true) ∧ Below w.heap.size w w' := by
  obtain ⟨K, hK⟩ : ∃ K, (Zp.mem x).length = K := ⟨_, rfl⟩
  have hK64 : K ≤ 64 := by rw [← hK]; exact Zp.mem_len x
  have HK := Lib.hid hK
  by_cases h0 : x = 0
  · subst h0
    have HM := Lib.hid Zp.mem_zero
    have HK0 : K = 0 := by rw [← hK, HM.out]; rfl
    subst HK0
    clear hK
    have CN := next_any 0 n
    have CC := count_any 0
    go_enter Tryd.func5, Tryd.ntmps5
    go_wp2_with fail
    refine (shown_any _ hT).mono ?_
    rintro e w1 ⟨rfl, hb⟩
    have HB := Lib.hid hb
    have HT := Lib.hid (hT.step hb)
    clear hb hT
    go_wp2_with fail
    refine (CN _ hx HT.out).mono ?_
    rintro e w2 ⟨rfl, rfl⟩
    rw [HM.out, show Zp.nextL [] n = -1 from rfl]
    go_wp2_with fail
    refine (CC _ hx).mono ?_
    rintro e w3 ⟨rfl, rfl⟩
    rw [HK.out]
    go_wp2_with fail
    go_ret
    exact ⟨rfl, HB.out⟩
  · have t0 : ((x : Int) == 0) = false := by rw [beq_eq_false_iff_ne]; omega
    have hne : Zp.mem x ≠ [] := fun e => h0 (Zp.mem_nil hx e)
    obtain ⟨j0, hj0, hat⟩ := Zp.nextL_at hne n
    obtain ⟨a0, ha0⟩ : ∃ a, Zp.nextL (Zp.mem x) n = a := ⟨_, rfl⟩
    rw [ha0] at hat
    rw [hK] at hj0
    have HA0 := Lib.hid ha0
    have HAT := Lib.hid hat
    clear hK h0 hne ha0 hat
    go_enter Tryd.func5, Tryd.ntmps5
    go_wp2_with fail
    refine (shown_any _ hT).mono ?_
    rintro e w1 ⟨rfl, hb⟩
    have HB1 := Lib.hid hb
    have HT1 := Lib.hid (hT.step hb)
    clear hb hT
    go_wp2_with fail
    refine (next_any x n _ hx HT1.out).mono ?_
    rintro e w2 ⟨rfl, rfl⟩
    rw [HA0.out]
    go_wp2_with fail
    go_loopw [8, 9] (fun v i wr => ∃ (k : Nat) (a : Int), k ≤ K ∧ i = .int .i64 k ∧ v = .int .i64 a ∧ Hid ((Zp.mem x)[(j0 + k) % K]? = some a) ∧ Hid (Below w.heap.size w wr) ∧ Hid (Tab wr)) (fun _ i _ => K - (intOf i).toNat)
    case atStart => exact ⟨0, a0, Nat.zero_le _, rfl, rfl, Lib.hid (by rw [Nat.add_zero, Nat.mod_eq_of_lt hj0]; exact HAT.out), HB1, HT1⟩
    case round =>
      obtain ⟨k, a, hk, rfl, rfl, HA, HB, HT⟩ := hrel
      go_wp2_with fail
      refine (count_any x _ hx).mono ?_
      rintro e w3 ⟨rfl, rfl⟩
      rw [HK.out]
      by_cases hlt : k < K
      · have hm := List.mem_of_getElem? HA.out
        obtain ⟨a1, a2⟩ := Zp.mem_in hm
        have HH := Lib.hid (show Zp.has x a = true by rw [Zp.has_mem, decide_eq_true_eq]; exact hm)
        have HR := Lib.hid (show (Zp.mem x)[(j0 + (k + 1)) % K]? = some (Zp.nextL (Zp.mem x) ((a + 1) % 64)) by
          have := Zp.nextL_round (Zp.mem_rises x) (fun z hz => Zp.mem_in hz) HA.out
          rwa [HK.out, mod_round] at this)
        have kt := tmod64 a1
        clear hm
        go_wp2_with fail
        refine (has_any x a _ hx).mono ?_
        rintro e w4 ⟨rfl, hb⟩
        rw [HH.out]
        have HB4 := Lib.hid (HB.out.trans (hb.mono HB.out.size))
        have HT4 := Lib.hid (HT.out.step hb)
        clear hb
        by_cases hk0 : k = 0
        · subst hk0
          go_wp2_with fail
          refine (next_any x _ _ hx HT4.out).mono ?_
          rintro e w5 ⟨rfl, rfl⟩
          go_wp2_with fail
          go_roundw
          case rel => exact ⟨0 + 1, _, by omega, by go_num, rfl, HR, HB4, HT4⟩
          case measure => simp [intOf]; omega
        · have hpos : 0 < k := by omega
          have hne : (a == a0) = false := by
            rw [beq_eq_false_iff_ne]
            exact Zp.rises_ne (Zp.mem_rises x) HA.out HAT.out (mod_ne hj0 hpos hlt)
          go_wp2_with fail
          refine (next_any x _ _ hx HT4.out).mono ?_
          rintro e w5 ⟨rfl, rfl⟩
          go_wp2_with fail
          go_roundw
          case rel => exact ⟨k + 1, _, by omega, by go_num, rfl, HR, HB4, HT4⟩
          case measure => simp [intOf]; omega
      · have e : k = K := by omega
        have ea : a = a0 := by
          have h1 := HA.out
          rw [e, Nat.add_mod_right, Nat.mod_eq_of_lt hj0, HAT.out] at h1
          injection h1 with h1; exact h1.symm
        subst ea
        clear e
        go_wp2_with fail
        go_ret
        exact ⟨rfl, HB.out⟩
set_option maxRecDepth 100000 in
theorem lifted (os : Os) (started : os.Started) (H : Type) (enc : TypeId × Value → H) :
    ReturnsInHanded {} Tryd.checked os 5 .any (fun w args => (Rows.bitsNextSpec.pre enc Tryd.prog Tryd.f5 [] false w args ∧ laidMetH Tryd.prog laidList w) ∧ sizedMet enc Tryd.prog Tryd.f5 (OpenSpec.ofChange Rows.bitsNextSpec) false w args)
      (Rows.bitsNextSpec.post enc Tryd.prog Tryd.f5 false true false false) := by
  refine returnsInHanded_of_change_and (C := Tryd.checked) (X := fun w _ => laidMetH Tryd.prog laidList w) (fun _ _ _ hh h => h.of_heap hh) own started (by kernel_rfl) Tryd.func5
    (ChangeSpec.witness_shaped (enc := enc) (C := Tryd.checked) (os := os) (X := fun w _ => laidMetH Tryd.prog laidList w) false (World.doorLaid Tryd.prog 14 os) #[.int .u64 0, .int .i64 0] 8 rfl (World.shaped_of_RefB (by kernel_rfl) (by kernel_rfl)) (by kernel_rfl) (by kernel_rfl) (by kernel_rfl) (door_met os _)) ?_
  intro W base args ds gs before hval0 hW _ _ hL _
  have hval : ∀ (j : Nat) t v, Tryd.f5.params[j]? = some t → args[j]? = some v → Value.okWide Tryd.prog W .any base t v := hval0
  have hW' := hW
  obtain ⟨p, q, hA0, hV, rfl, hfz, hnd⟩ := hW
  have hA : DataW.TrodAll enc Tryd.prog W 0 (fun _ => true) true Tryd.f5.params.toList args.toList ds p := hA0
  rw [Tryd.params5] at hA hval
  obtain ⟨v0, vs0, d0, ds0, p0, q0, hargs, rfl, rfl, h0, r0⟩ := trodAll_cons hA
  obtain ⟨v1, vs1, d1, ds1, p1, q1, rfl, rfl, rfl, h1, r1⟩ := trodAll_cons r0
  obtain ⟨rfl, rfl, rfl⟩ := trodAll_nil r1
  obtain rfl : args = #[v0, v1] := by cases args; simp_all
  obtain ⟨rfl, rfl⟩ := trodVars_none hV
  obtain ⟨a0, rfl, rfl, rfl, w0⟩ := open_int Tryd.underlying22 (hval 0 22 v0 rfl rfl) h0
  obtain ⟨x0, rfl, b0⟩ := of_wf64 w0
  obtain ⟨a1, rfl, rfl, rfl, w1⟩ := open_int Tryd.underlying3 (hval 1 3 v1 rfl rfl) h1
  clear hA0 hval0
  refine (walk x0 a1 W b0 (tab_of_laid hL)).mono fun e W' ⟨he, bel⟩ => ?_
  subst he
  exact ⟨_, rfl, _, _, _, [], _, [], hW', trodAll_mk1 (shut_bool Tryd.underlying4 _), (trodAll_cons_mk (shut_int Tryd.underlying22 w0) (trodAll_cons_mk (shut_int Tryd.underlying3 w1) trodAll_mk0)), rfl, bel.frame _, fun h => by cases h⟩
theorem over : Rows.BitsNextSaid :=
  OpenClaim.holds_of_wide 5 Tryd.f5 rfl rfl rfl rfl rfl rfl rfl ⟨rfl, rfl, rfl, rfl, rfl⟩ rfl rfl rfl rfl rfl (by kernel_rfl) Tryd.func5 (by kernel_rfl)
    (of_decide_eq_true (by kernel_rfl)) (by unfold Func.isWrapper; first | (rw [if_pos (by decide +kernel)]; kernel_rfl) | (rw [if_neg (by decide +kernel)]; exact ⟨rfl, rfl⟩))
    (fun os started H enc _ => lifted os started H enc)
theorem proved : Rows.BitsNextCardSaid :=
  Claim7.holds_tied_plain_at .later [] [.data] true Rows.bitsNextCard.stood.harness false
    over (fun _ h => by cases h) (by kernel_rfl) (fun _ h => by cases h) bitsNext_row_tie rfl ⟨rfl, rfl⟩ (by kernel_rfl) rfl
    (fun f fn hf hfn => by
      obtain rfl : f = 5 := Option.some.inj ((show Tryd.prog.funcNamed "catafalque/catafalquelaw06.BitsNext" = some 5 by kernel_rfl).symm.trans hf) |>.symm
      obtain rfl : fn = Tryd.f5 := (Option.some.inj (Tryd.func5.symm.trans hfn)).symm
      exact ⟨by kernel_rfl, fun j t ht => by
        rw [Tryd.params5] at ht
        have hm : t ∈ [22, 3] := by simpa using Array.mem_of_getElem? ht
        have hall : ([22, 3].all fun u => !Tryd.prog.wantsStandIn u) = true := by kernel_rfl
        exact (show Tryd.prog.wantsStandIn t = false by simpa using List.all_eq_true.1 hall t hm)⟩)
    (by kernel_rfl)
end Go.Proofs.YtfkjgpfeiijnkaaDoor.bitsNext

