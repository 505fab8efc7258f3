/- The document's own answer on whether a tree may be comes to the plain function that topo.Check comes to. -/
import Derived.Test.YtcoccegmkcdeiaaDoorM2
namespace Go.Proofs.YtcoccegmkcdeiaaDoor
open Go.RowKit
set_option linter.unusedVariables false

theorem wrap_inc {a b : Int} (ha : In64 a) (hb : In64 b) : (a == wrap64 (b + 1)) = (b == Tp.dec a) := by
  obtain ⟨h1, h2⟩ := ha
  obtain ⟨h3, h4⟩ := hb
  rw [Bool.eq_iff_iff, beq_iff_eq, beq_iff_eq]
  unfold wrap64 Tp.dec
  split <;> omega

set_option maxHeartbeats 4000000 in
theorem refCheck_any (A : Option Addr) (n c : Nat) (vs : List (Int × Int)) (w : World)
    (hn : Hid (vs.length = n)) (hl : n ≤ 9223372036854775807) (hf : Hid (Fit vs)) (hv : VRow w w.heap.size A vs) :
    Calls Tryd.prog 21 #[.slice A n c] w fun e w' => e = .returned (.int .i64 (Tp.errno (Tp.may vs))) ∧ Below w.heap.size w w' := by
  have hle := Tp.those_le (levelP 3) vs n
  rw [show vs.take n = vs from List.take_of_length_le (by have := hn.out; omega)] at hle
  by_cases h1 : 1 ≤ n
  · have e1 : ((n : Int) == 0) = false := by rw [beq_eq_false_iff_ne]; omega
    by_cases h64 : n ≤ 64
    · by_cases h32 : (Tp.those (levelP 3) vs).length ≤ 32
      · obtain ⟨x0, hx0⟩ : ∃ x, vs[0]? = some x := ⟨_, List.getElem?_eq_getElem (by have := hn.out; omega)⟩
        have H00 : Hid (Tp.hangs vs 0 = (x0.1 == -1 && x0.2 == 0)) := Lib.hid (by unfold Tp.hangs; rw [hx0]; rfl)
        cases hp1 : (x0.1 == -1)
        · have H : Hid (Tp.may vs = false) := Lib.hid (Tp.may_no_hangs (k := 0) (by have := hn.out; omega) (by rw [H00.out, hp1]; rfl))
          have hp1' : (x0.1 != -1) = true := by simp only [bne, hp1]; rfl
          go_enter Tryd.func21, Tryd.ntmps21
          go_wp2_with fail
          refine (refOf_any _ n c vs 3 _ hn hl (by omega) hv).mono ?_
          rintro e w1 ⟨A1, c1, rfl, _, hb1⟩
          obtain ⟨b, off, hA, hbk, hc1, hc2⟩ := (hv.below hb1) 0 x0 hx0
          subst hA
          simp only [Nat.zero_mul, Nat.add_zero] at hc1 hc2
          clear hx0
          go_wp2_with fail
          go_ret
          exact ⟨by rw [H.out]; rfl, hb1⟩
        · have hp1' : (x0.1 != -1) = false := by simp only [bne, hp1]; rfl
          cases hp2 : (x0.2 == 0)
          · have H : Hid (Tp.may vs = false) := Lib.hid (Tp.may_no_hangs (k := 0) (by have := hn.out; omega) (by rw [H00.out, hp2]; simp))
            have hp2' : (x0.2 != 0) = true := by simp only [bne, hp2]; rfl
            go_enter Tryd.func21, Tryd.ntmps21
            go_wp2_with fail
            refine (refOf_any _ n c vs 3 _ hn hl (by omega) hv).mono ?_
            rintro e w1 ⟨A1, c1, rfl, _, hb1⟩
            obtain ⟨b, off, hA, hbk, hc1, hc2⟩ := (hv.below hb1) 0 x0 hx0
            subst hA
            simp only [Nat.zero_mul, Nat.add_zero] at hc1 hc2
            clear hx0
            go_wp2_with fail
            go_ret
            exact ⟨by rw [H.out]; rfl, hb1⟩
          · have hp2' : (x0.2 != 0) = false := by simp only [bne, hp2]; rfl
            have H0 : Hid (Tp.hangs vs 0 = true) := Lib.hid (by rw [H00.out, hp1, hp2]; rfl)
            clear H00
            have d64 : decide (64 < (n : Int)) = false := by simp; omega
            have d32 : decide (32 < ((Tp.those (levelP 3) vs).length : Int)) = false := by simp; omega
            go_enter Tryd.func21, Tryd.ntmps21
            go_wp2_with fail
            refine (refOf_any _ n c vs 3 _ hn hl (by omega) hv).mono ?_
            rintro e w1 ⟨A1, c1, rfl, _, hb1⟩
            obtain ⟨b, off, hA, hbk, hc1, hc2⟩ := (hv.below hb1) 0 x0 hx0
            subst hA
            simp only [Nat.zero_mul, Nat.add_zero] at hc1 hc2
            clear hx0
            go_wp2_with fail
            clear hc1 hc2
            go_loopw [3, 4] (fun i _ wr => ∃ k : Nat, 1 ≤ k ∧ k ≤ n ∧ i = .int .i64 k ∧ Hid (∀ j, j < k → Tp.hangs vs j = true) ∧ Below w.heap.size w wr) (fun i _ _ => n - (intOf i).toNat)
            case atStart => exact ⟨1, Nat.le_refl _, h1, rfl, Lib.hid (fun j hj => by rw [show j = 0 by omega]; exact H0.out), hb1⟩
            case round =>
              obtain ⟨k, hk1, hk, rfl, hto, hbe⟩ := hrel
              by_cases hlt : k < n
              · obtain ⟨x, hx⟩ : ∃ x, vs[k]? = some x := ⟨_, List.getElem?_eq_getElem (by have := hn.out; omega)⟩
                obtain ⟨b1, off1, hA, _, hc1, hc2⟩ := (hv.below hbe) k x hx
                injection hA with hA
                injection hA with hb' ho'
                subst hb' ho'
                have hfx : In64 x.1 ∧ In64 x.2 := hf.out x (List.mem_of_getElem? hx)
                have HH : Hid (Tp.hangs vs k = Tp.hangsX vs k x) := Lib.hid (by unfold Tp.hangs; rw [hx]; rfl)
                clear hx
                have hk0 : ¬ k = 0 := by omega
                by_cases hlo : x.1 < 0
                · have H : Hid (Tp.may vs = false) := Lib.hid (Tp.may_no_hangs (k := k) (by have := hn.out; omega) (by rw [HH.out, Tp.hangsX, if_neg hk0, if_pos (.inl hlo)]))
                  have hd : decide (x.1 < 0) = true := by simpa using hlo
                  clear HH hfx hk0
                  go_wp2_with fail
                  go_quiet (fail)
                  go_wp2_with fail
                  go_ret
                  exact ⟨by rw [H.out]; rfl, below_drewN hbe _⟩
                · by_cases hhi : (k : Int) ≤ x.1
                  · have H : Hid (Tp.may vs = false) := Lib.hid (Tp.may_no_hangs (k := k) (by have := hn.out; omega) (by rw [HH.out, Tp.hangsX, if_neg hk0, if_pos (.inr hhi)]))
                    have hd : decide (x.1 < 0) = false := by simpa using hlo
                    have hd2 : decide ((k : Int) ≤ x.1) = true := by simpa using hhi
                    clear HH hfx hk0
                    go_wp2_with fail
                    go_quiet (fail)
                    go_wp2_with fail
                    go_ret
                    exact ⟨by rw [H.out]; rfl, below_drewN hbe _⟩
                  · obtain ⟨j, hj⟩ := Int.eq_ofNat_of_zero_le (show 0 ≤ x.1 by omega)
                    obtain ⟨y, hy⟩ : ∃ y, vs[j]? = some y := ⟨_, List.getElem?_eq_getElem (by have := hn.out; omega)⟩
                    obtain ⟨b1, off1, hA, _, hd1, hd2⟩ := (hv.below hbe) j y hy
                    injection hA with hA
                    injection hA with hb' ho'
                    subst hb' ho'
                    have hfy : In64 y.1 ∧ In64 y.2 := hf.out y (List.mem_of_getElem? hy)
                    have HX : Hid (Tp.hangs vs k = (decide (x.2 ≤ 3) && (x.2 == wrap64 (y.2 + 1)))) := Lib.hid (by
                      rw [HH.out, Tp.hangsX, if_neg hk0, if_neg (by omega), hj, Int.toNat_natCast, hy, wrap_inc hfx.2 hfy.2]; rfl)
                    rw [hj] at hc1
                    have hjk : (j : Int) < k := by omega
                    have q1 : decide ((j : Int) < 0) = false := by simp
                    have hjn : j < n := by omega
                    have q2 : decide (k ≤ j) = false := by simp; omega
                    have hfy2 : -9223372036854775808 ≤ y.2 := hfy.2.1
                    clear HH hfx hfy hy hlo hhi hj hk0
                    cases hw : (x.2 == wrap64 (y.2 + 1))
                    · have hw' : (x.2 != IntKind.i64.wrap (y.2 + 1)) = true := by
                        rw [IntWalk.i64_left, bne, hw]; rfl
                      have H : Hid (Tp.may vs = false) := Lib.hid (Tp.may_no_hangs (k := k) (by have := hn.out; omega) (by rw [HX.out, hw]; simp))
                      clear HX
                      go_wp2_with fail
                      go_quiet (fail)
                      go_wp2_with fail
                      go_ret
                      exact ⟨by rw [H.out]; rfl, below_drewN hbe _⟩
                    · have hw' : (x.2 != IntKind.i64.wrap (y.2 + 1)) = false := by
                        rw [IntWalk.i64_left, bne, hw]; rfl
                      by_cases h3 : x.2 ≤ 3
                      · have d3 : decide (3 < x.2) = false := by simp; omega
                        have H : Hid (∀ j, j < k + 1 → Tp.hangs vs j = true) := Lib.hid (fun j hj => by
                          by_cases e : j = k
                          · rw [e, HX.out, hw, decide_eq_true h3]; rfl
                          · exact hto.out j (by omega))
                        clear HX
                        go_wp2_with fail
                        go_quiet (fail)
                        go_wp2_with fail
                        go_roundw
                        case rel => exact ⟨k + 1, by omega, by omega, by go_num, H, below_drewN hbe _⟩
                        case measure => simp [intOf]; omega
                      · have d3 : decide (3 < x.2) = true := by simp; omega
                        have H : Hid (Tp.may vs = false) := Lib.hid (Tp.may_no_hangs (k := k) (by have := hn.out; omega) (by rw [HX.out, decide_eq_false h3]; rfl))
                        clear HX
                        go_wp2_with fail
                        go_quiet (fail)
                        go_wp2_with fail
                        go_ret
                        exact ⟨by rw [H.out]; rfl, below_drewN hbe _⟩
              · have HA : Hid (∀ j, j < n → Tp.hangs vs j = true) := Lib.hid (fun j hj => hto.out j (by omega))
                have hk' : k = n := by omega
                clear hto hk'
                obtain ⟨wo, rfl⟩ : ∃ wo : World, wo = wr := ⟨_, rfl⟩
                go_wp2_with fail
                go_loopw [5, 6] (fun i _ wr => ∃ k : Nat, k ≤ n ∧ i = .int .i64 k ∧ Hid (∀ j, j < k → Tp.filled vs j = true) ∧ Below w.heap.size w wr) (fun i _ _ => n - (intOf i).toNat)
                case atStart => exact ⟨0, Nat.zero_le _, rfl, Lib.hid (fun j hj => absurd hj (by omega)), hbe⟩
                case round =>
                  obtain ⟨q, hq, rfl, hfo, hbf⟩ := hrel
                  by_cases hqn : q < n
                  · obtain ⟨x, hx⟩ : ∃ x, vs[q]? = some x := ⟨_, List.getElem?_eq_getElem (by have := hn.out; omega)⟩
                    have hv' := (hv.below hbf).more hbf.size
                    have hle2 := Tp.those_le (kidsP q) vs n
                    rw [show vs.take n = vs from List.take_of_length_le (by have := hn.out; omega)] at hle2
                    have HX : Hid (Tp.filled vs q = if 3 ≤ x.2 then true else decide (1 ≤ Tp.kidsN vs q) && decide (Tp.kidsN vs q ≤ 8)) := Lib.hid (by unfold Tp.filled; rw [hx]; rfl)
                    have HK : Hid ((Tp.those (kidsP q) vs).length = Tp.kidsN vs q) := Lib.hid rfl
                    have HV : Hid (vs[q]? = some x) := hx
                    clear hx
                    go_wp2_with fail
                    refine (refKids_any _ n c vs q _ hn hl (by omega) hv').mono ?_
                    rintro e w2 ⟨A2, c2, rfl, _, hb2⟩
                    have hbe2 := hbf.trans (hb2.mono hbf.size)
                    rw [HK.out] at hle2 ⊢
                    obtain ⟨b1, off1, hA, _, hc1, hc2⟩ := (hv.below hbe2) q x HV.out
                    injection hA with hA
                    injection hA with hb' ho'
                    subst hb' ho'
                    by_cases h3 : x.2 < 3
                    · by_cases g1 : 1 ≤ Tp.kidsN vs q
                      · by_cases g8 : Tp.kidsN vs q ≤ 8
                        · have H : Hid (∀ j, j < q + 1 → Tp.filled vs j = true) := Lib.hid (fun j hj => by
                            by_cases e : j = q
                            · rw [e, HX.out, if_neg (by omega), decide_eq_true g1, decide_eq_true g8]; rfl
                            · exact hfo.out j (by omega))
                          clear hfo HX
                          go_wp2_with fail
                          go_roundw
                          case rel => exact ⟨q + 1, by omega, by go_num, H, hbe2⟩
                          case measure => simp [intOf]; omega
                        · have H : Hid (Tp.may vs = false) := Lib.hid (Tp.may_no_filled (k := q) (by have := hn.out; omega) (by rw [HX.out, if_neg (by omega), decide_eq_false g8]; simp))
                          clear hfo HX
                          go_wp2_with fail
                          go_ret
                          exact ⟨by rw [H.out]; rfl, hbe2⟩
                      · have H : Hid (Tp.may vs = false) := Lib.hid (Tp.may_no_filled (k := q) (by have := hn.out; omega) (by rw [HX.out, if_neg (by omega), decide_eq_false g1]; rfl))
                        clear hfo HX
                        go_wp2_with fail
                        go_ret
                        exact ⟨by rw [H.out]; rfl, hbe2⟩
                    · have H : Hid (∀ j, j < q + 1 → Tp.filled vs j = true) := Lib.hid (fun j hj => by
                        by_cases e : j = q
                        · rw [e, HX.out, if_pos (by omega)]
                        · exact hfo.out j (by omega))
                      clear hfo HX
                      go_wp2_with fail
                      go_roundw
                      case rel => exact ⟨q + 1, by omega, by go_num, H, hbe2⟩
                      case measure => simp [intOf]; omega
                  · have H : Hid (Tp.may vs = true) := Lib.hid (by
                      have e := hn.out
                      unfold Tp.may Tp.headOK
                      rw [e, decide_eq_true h1, decide_eq_true h64, decide_eq_true (show (Tp.those (fun x => x.2 == 3) vs).length ≤ 32 from h32)]
                      rw [Tp.bodyTo_all HA.out (fun j hj => hfo.out j (by omega))]; rfl)
                    clear hfo
                    go_wp2_with fail
                    go_ret
                    exact ⟨by rw [H.out]; rfl, hbf⟩
      · have H : Hid (Tp.may vs = false) := Lib.hid (by
          unfold Tp.may Tp.headOK
          rw [decide_eq_false (show ¬ (Tp.those (fun x => x.2 == 3) vs).length ≤ 32 from h32)]
          simp)
        go_enter Tryd.func21, Tryd.ntmps21
        go_wp2_with fail
        refine (refOf_any _ n c vs 3 _ hn hl (by omega) hv).mono ?_
        rintro e w1 ⟨A1, c1, rfl, _, hb1⟩
        go_wp2_with fail
        go_ret
        exact ⟨by rw [H.out]; rfl, hb1⟩
    · have H : Hid (Tp.may vs = false) := Lib.hid (by
        have e := hn.out
        unfold Tp.may Tp.headOK
        rw [e, decide_eq_false h64]
        simp)
      go_enter Tryd.func21, Tryd.ntmps21
      go_wp2_with fail
      go_ret
      exact ⟨by rw [H.out]; rfl, Below.refl _ _⟩
  · have e1 : ((n : Int) == 0) = true := by rw [beq_iff_eq]; omega
    have H : Hid (Tp.may vs = false) := Lib.hid (by
      have e := hn.out
      unfold Tp.may Tp.headOK
      rw [e, decide_eq_false h1]
      simp)
    go_enter Tryd.func21, Tryd.ntmps21
    go_wp2_with fail
    go_ret
    exact ⟨by rw [H.out]; rfl, Below.refl _ _⟩
end Go.Proofs.YtcoccegmkcdeiaaDoor

