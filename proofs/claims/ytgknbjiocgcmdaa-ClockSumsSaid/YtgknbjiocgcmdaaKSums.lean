/- ClockSums: what time it is is all ticks together that weren't refused; a refused one wakes nobody: the call answers true and changes nothing that was there; for every input. -/
import Derived.Test.YtgknbjiocgcmdaaKSl
import Derived.Test.YtgknbjiocgcmdaaRow64
namespace Go.Proofs.Ytgknbjiocgcmdaa.clockSums
open Go.ChangeShapes Go.WideShapes Go.ChangeAt Go.RowKit
set_option linter.unusedVariables false

theorem own_lt {b n c : Nat} {q : Nat} (h1 : b = q) (h2 : n + c = q) : n + c = b := by omega
set_option maxRecDepth 100000 in
set_option maxHeartbeats 2000000 in
theorem walk (A : Option Addr) (n c : Nat) (zs : List Int) (At : Option Addr) (nt ct : Nat) (ts : List Int) (w : World) (hn : Hid (zs.length = n)) (hl : n ≤ 9223372036854775807) (hr : BRow w A zs) (ht : Row w At nt ct ts) :
    Calls Try.prog 8 #[.slice A n c, .slice At nt ct] w fun e w' => e = .returned (.bool true) ∧ Below w.heap.size w w' := by
  have HR := Lib.hid hr
  have RT := Lib.hid ht
  have htl := ht.len
  have htc := ht.cap
  have htm := ht.most
  obtain ⟨p, hp⟩ : ∃ p, p = min n 64 := ⟨_, rfl⟩
  have HP := Lib.hid hp
  obtain ⟨S, hS⟩ : ∃ S, S = Kp.sl zs p := ⟨_, rfl⟩
  have HS := Lib.hid hS
  have HSL := Lib.hid (show S.length ≤ 64 by rw [hS, (Kp.sl_all hr.bytes p (by have := hn.out; omega)).len]; omega)
  clear hr ht hp hS
  go_enter Try.func8, Try.ntmps8
  go_wp2_with fail
  refine (shown_any _).mono ?_
  rintro e w1 ⟨rfl, hb1⟩
  have B1 := Lib.hid hb1
  have HR1 := Lib.hid (HR.out.below hb1)
  clear hb1
  go_wp2_with fail
  refine (slept_any A n c zs w1 hn hl HR1.out p HP).mono ?_
  rintro e w2 ⟨b, F, rfl, h2⟩
  rw [← HS.out] at h2
  have C2 := Lib.hid (h2.elder B1.out)
  clear h2 B1 HR1
  go_wp2_with fail
  go_loopw [7, 8] (fun v j wr => ∃ (i : Nat) (now : Int) (S : List Kp.On), i ≤ nt ∧ i ≤ 100 ∧ v = .int .i64 now ∧ j = .int .i64 i ∧ (0 ≤ now ∧ now ≤ 1099511627776) ∧ Hid (S.length ≤ 64) ∧ Hid (Co w wr b F now S 64)) (fun _ j _ => nt - (intOf j).toNat)
  case atStart => exact ⟨0, 0, S, by omega, by omega, rfl, rfl, by omega, HSL, C2⟩
  case round =>
    clear C2 HSL HS
    obtain ⟨i, now, S, hi, hi2, rfl, rfl, hnow, HL, C⟩ := hrel
    by_cases hlt : i < nt
    · by_cases h100 : i < 100
      · obtain ⟨t, hti⟩ : ∃ t, ts[i]? = some t := ⟨_, List.getElem?_eq_getElem (by omega)⟩
        have HTI := Lib.hid hti
        obtain ⟨g, off, rfl, _, _⟩ := RT.out.cells (by omega)
        obtain ⟨q, hq⟩ : ∃ q, S.length = q := ⟨_, rfl⟩
        have HQ := Lib.hid hq
        have hq64 : q ≤ 64 := by rw [← hq]; exact HL.out
        have i0 : (0 : Int) ≤ (i : Int) := by omega
        have i1 : (i : Int) < (nt : Int) := by omega
        have ws : IntKind.i64.wrap (1099511627776 - now) = 1099511627776 - now := IntWalk.i64_in _ (by omega)
        clear hti hq HL
        by_cases h0 : t < 0
        · obtain ⟨k1, k2, k3, k4⟩ : Kp.tcode now t = 1 ∧ Kp.tnow now t = now ∧ Kp.ids (Kp.twoke S now t) = [] ∧ Kp.trest S now t = S := by
            unfold Kp.tcode Kp.tnow Kp.twoke Kp.trest
            rw [if_pos h0, if_pos h0, if_pos h0, if_pos h0]
            exact ⟨rfl, rfl, rfl, rfl⟩
          have K1 := Lib.hid k1
          have K2 := Lib.hid k2
          have K3 := Lib.hid k3
          have K4 := Lib.hid k4
          clear k1 k2 k3 k4
          go_wp2_with fail
          refine (co_asleep C.out).mono ?_
          rintro e w2 ⟨⟨A1, n1, d1, rfl, hr1, hf1⟩, h2, hb2⟩
          have e1 := hr1.len
          rw [Kp.ids_length, HQ.out] at e1
          subst e1
          have C2 := Lib.hid h2
          have O1 := Lib.hid (C.out.out hf1 (Nat.le_refl _))
          have R1 := Lib.hid hr1
          have c2 := (RT.out.below h2.below).at HTI.out
          clear hr1 hf1 h2 hb2 C
          go_wp2_with fail
          refine (co_tick C2.out t).mono ?_
          rintro e w3 ⟨⟨A2, n2, d2, rfl, hr2, hf2⟩, h3, hk3⟩
          rw [K1.out]
          rw [K2.out, K4.out] at h3
          rw [K3.out] at hr2
          have C3 := Lib.hid h3
          have R3 := Lib.hid (R1.out.kept hk3 O1.out)
          have Q3 := Lib.hid hr2
          have c3 := (RT.out.below h3.below).at HTI.out
          clear hr2 hf2 h3 hk3 C2 R1 O1 c2
          have e3 : n2 = 0 := Q3.out.len.symm
          subst e3
          go_wp2_with fail
          refine (co_asleep C3.out).mono ?_
          rintro e w4 ⟨⟨A4, n4, d4, rfl, hr4, hf4⟩, h4, hb4⟩
          have e1 := hr4.len
          rw [Kp.ids_length, HQ.out] at e1
          subst e1
          have C4 := Lib.hid h4
          have R4 := Lib.hid (R3.out.below hb4)
          have Q4 := Lib.hid hr4
          clear hr4 hf4 h4 hb4 C3 R3 Q3
          go_wp2_with fail
          refine (ints_row A4 A1 _ _ _ _ _ _ _ rfl Q4.out R4.out).mono ?_
          rintro e w5 ⟨rfl, hb5⟩
          have C5 := Lib.hid (C4.out.step hb5)
          clear hb5 C4 Q4 R4
          go_wp2_with fail
          refine (co_now C5.out).mono ?_
          rintro e w6 ⟨rfl, rfl⟩
          go_wp2_with fail
          refine (co_asleep C5.out).mono ?_
          rintro e w7 ⟨⟨A7, n7, d7, rfl, hr7, hf7⟩, h7, hb7⟩
          have e1 := hr7.len
          rw [Kp.ids_length, HQ.out] at e1
          subst e1
          have C7 := Lib.hid h7
          clear hr7 hf7 h7 hb7 C5
          go_wp2_with fail
          go_roundw
          case rel => exact ⟨i + 1, now, S, by omega, by omega, rfl, by go_num, hnow, Lib.hid (by have := HQ.out; omega), C7⟩
          case measure => simp [intOf]; omega
        · by_cases hov : 1099511627776 - now < t
          · obtain ⟨k1, k2, k3, k4⟩ : Kp.tcode now t = 7 ∧ Kp.tnow now t = now ∧ Kp.ids (Kp.twoke S now t) = [] ∧ Kp.trest S now t = S := by
              unfold Kp.tcode Kp.tnow Kp.twoke Kp.trest
              rw [if_neg h0, if_neg h0, if_neg h0, if_neg h0, if_pos hov, if_pos hov, if_pos hov, if_pos hov]
              exact ⟨rfl, rfl, rfl, rfl⟩
            have K1 := Lib.hid k1
            have K2 := Lib.hid k2
            have K3 := Lib.hid k3
            have K4 := Lib.hid k4
            clear k1 k2 k3 k4
            go_wp2_with fail
            refine (co_asleep C.out).mono ?_
            rintro e w2 ⟨⟨A1, n1, d1, rfl, hr1, hf1⟩, h2, hb2⟩
            have e1 := hr1.len
            rw [Kp.ids_length, HQ.out] at e1
            subst e1
            have C2 := Lib.hid h2
            have O1 := Lib.hid (C.out.out hf1 (Nat.le_refl _))
            have R1 := Lib.hid hr1
            have c2 := (RT.out.below h2.below).at HTI.out
            clear hr1 hf1 h2 hb2 C
            go_wp2_with fail
            refine (co_tick C2.out t).mono ?_
            rintro e w3 ⟨⟨A2, n2, d2, rfl, hr2, hf2⟩, h3, hk3⟩
            rw [K1.out]
            rw [K2.out, K4.out] at h3
            rw [K3.out] at hr2
            have C3 := Lib.hid h3
            have R3 := Lib.hid (R1.out.kept hk3 O1.out)
            have Q3 := Lib.hid hr2
            have c3 := (RT.out.below h3.below).at HTI.out
            clear hr2 hf2 h3 hk3 C2 R1 O1 c2
            have e3 : n2 = 0 := Q3.out.len.symm
            subst e3
            go_wp2_with fail
            refine (co_asleep C3.out).mono ?_
            rintro e w4 ⟨⟨A4, n4, d4, rfl, hr4, hf4⟩, h4, hb4⟩
            have e1 := hr4.len
            rw [Kp.ids_length, HQ.out] at e1
            subst e1
            have C4 := Lib.hid h4
            have R4 := Lib.hid (R3.out.below hb4)
            have Q4 := Lib.hid hr4
            clear hr4 hf4 h4 hb4 C3 R3 Q3
            go_wp2_with fail
            refine (ints_row A4 A1 _ _ _ _ _ _ _ rfl Q4.out R4.out).mono ?_
            rintro e w5 ⟨rfl, hb5⟩
            have C5 := Lib.hid (C4.out.step hb5)
            clear hb5 C4 Q4 R4
            go_wp2_with fail
            refine (co_now C5.out).mono ?_
            rintro e w6 ⟨rfl, rfl⟩
            go_wp2_with fail
            refine (co_asleep C5.out).mono ?_
            rintro e w7 ⟨⟨A7, n7, d7, rfl, hr7, hf7⟩, h7, hb7⟩
            have e1 := hr7.len
            rw [Kp.ids_length, HQ.out] at e1
            subst e1
            have C7 := Lib.hid h7
            clear hr7 hf7 h7 hb7 C5
            go_wp2_with fail
            go_roundw
            case rel => exact ⟨i + 1, now, S, by omega, by omega, rfl, by go_num, hnow, Lib.hid (by have := HQ.out; omega), C7⟩
            case measure => simp [intOf]; omega
          · obtain ⟨k1, k2, k3, k4⟩ := Kp.tick_ok S (now := now) (n := t) (by omega) (by omega)
            have K1 := Lib.hid k1
            have K2 := Lib.hid k2
            have K3 := Lib.hid k3
            have K4 := Lib.hid k4
            have wn : IntKind.i64.wrap (now + t) = now + t := IntWalk.i64_in _ (by omega)
            have hnow2 : 0 ≤ now + t ∧ now + t ≤ 1099511627776 := by omega
            clear k1 k2 k3 k4
            go_wp2_with fail
            refine (co_asleep C.out).mono ?_
            rintro e w2 ⟨⟨A1, n1, d1, rfl, hr1, hf1⟩, h2, hb2⟩
            have e1 := hr1.len
            rw [Kp.ids_length, HQ.out] at e1
            subst e1
            have C2 := Lib.hid h2
            have O1 := Lib.hid (C.out.out hf1 (Nat.le_refl _))
            have R1 := Lib.hid hr1
            have c2 := (RT.out.below h2.below).at HTI.out
            clear hr1 hf1 h2 hb2 C
            go_wp2_with fail
            refine (co_tick C2.out t).mono ?_
            rintro e w3 ⟨⟨A2, n2, d2, rfl, hr2, hf2⟩, h3, hk3⟩
            rw [K1.out]
            rw [K2.out, K4.out] at h3
            rw [K3.out] at hr2
            have C3 := Lib.hid h3
            have R3 := Lib.hid (R1.out.kept hk3 O1.out)
            have Q3 := Lib.hid hr2
            have c3 := (RT.out.below h3.below).at HTI.out
            clear hr2 hf2 h3 hk3 C2 R1 O1 c2
            go_wp2_with fail
            refine (co_now C3.out).mono ?_
            rintro e w4 ⟨rfl, rfl⟩
            go_wp2_with fail
            refine (co_asleep C3.out).mono ?_
            rintro e w5 ⟨⟨A5, n5, d5, rfl, hr5, hf5⟩, h5, hb5⟩
            have e1 := hr5.len
            have e2 := Q3.out.len
            rw [Kp.ids_length] at e1 e2
            have e3 := Kp.parts_length S (now + t)
            have e4 := HQ.out
            have e5 : n2 + n5 = q := by omega
            have e6 : ((n2 : Int) + (n5 : Int)) = (q : Int) := by omega
            have w5' : IntKind.i64.wrap ((n2 : Int) + (n5 : Int)) = (q : Int) := by rw [e6]; exact IntWalk.i64_in _ (by omega)
            have HL5 := Lib.hid (show (Kp.beyond S (now + t)).length ≤ 64 by omega)
            have C5 := Lib.hid h5
            clear hr5 hf5 h5 hb5 C3 R3 Q3 e1 e2 e3 e4 e5
            go_wp2_with fail
            go_roundw
            case rel => exact ⟨i + 1, now + t, _, by omega, by omega, rfl, by go_num, hnow2, HL5, C5⟩
            case measure => simp [intOf]; omega
      · obtain rfl : i = 100 := by omega
        go_wp2_with fail
        go_ret
        exact ⟨rfl, C.out.below⟩
    · obtain rfl : i = nt := by omega
      go_wp2_with fail
      go_ret
      exact ⟨rfl, C.out.below⟩
set_option maxRecDepth 100000 in
theorem lifted (os : Os) (started : os.Started) (H : Type) (enc : TypeId × Value → H) :
    ReturnsInHanded {} Try.checked os 8 .any (Rows.clockSumsSpec.pre6 enc Try.prog Try.f8 Rows.clockSumsRow.domain false) (Rows.clockSumsSpec.post enc Try.prog Try.f8 false true false false) := by
  refine returnsInHanded_of_change (C := Try.checked) own started (by kernel_rfl) Try.func8
    (ChangeSpec.witness6 (enc := enc) (C := Try.checked) false ⟨#[], #[.slice none 0 0, .slice none 0 0], []⟩ 8 (by kernel_rfl) (by kernel_rfl) (by kernel_rfl) (by kernel_rfl)) ?_
  intro W base args ds gs before hval0 hW hcnd _
  have hval : ∀ (j : Nat) t v, Try.f8.params[j]? = some t → args[j]? = some v → Value.okWide Try.prog W .any base t v := hval0
  have hW' := hW
  obtain ⟨p, q, hA0, hV, rfl, hfz, hnd⟩ := hW
  have hA : DataW.TrodAll enc Try.prog W 0 (fun _ => true) true Try.f8.params.toList args.toList ds p := hA0
  rw [Try.params8] at hA hval
  obtain ⟨v0, vs0, d0, ds0, p0, q0, hargs, rfl, rfl, h0, r0⟩ := trodAll_cons hA
  obtain ⟨v1, vs1, d1, ds1, p1, q1, rfl, rfl, rfl, h1, r1⟩ := trodAll_cons r0
  obtain ⟨rfl, rfl, rfl⟩ := trodAll_nil r1
  obtain rfl : args = #[v0, v1] := by cases args; simp_all
  obtain ⟨rfl, rfl⟩ := trodVars_none hV
  have k0 := h0
  have lt0 : ∀ x ∈ p0, x.block < W.heap.size := by obtain ⟨m, hm⟩ := k0; exact DataW.trod_lt m _ _ _ hm
  obtain ⟨a0, len0, cap0, rfl⟩ := okWide_slice Try.underlying52 (hval 0 52 v0 rfl rfl)
  obtain ⟨aa0, ll0, cc0, z0, ev0, hn0, hr0⟩ : ∃ A n c zs, Value.slice a0 len0 cap0 = .slice A n c ∧ (zs.length = n ∧ n ≤ 9223372036854775807) ∧ BRow W A zs := by
    obtain ⟨fuel, hf⟩ := h0
    exact open_bytes (by simpa [Value.cells] using hf)
  injection ev0 with ea0 eb0 ec0
  subst ea0 eb0 ec0
  have k1 := h1
  have lt1 : ∀ x ∈ p1, x.block < W.heap.size := by obtain ⟨m, hm⟩ := k1; exact DataW.trod_lt m _ _ _ hm
  obtain ⟨a1, len1, cap1, rfl⟩ := okWide_slice Try.underlying58 (hval 1 58 v1 rfl rfl)
  obtain ⟨aa1, ll1, cc1, z1, ev1, hr1⟩ : ∃ A n c zs, Value.slice a1 len1 cap1 = .slice A n c ∧ Row W A n c zs ∧ ∀ z ∈ zs, In64 z := by
    obtain ⟨fuel, hf⟩ := h1
    exact open_row64 (by simpa [Value.cells] using hf)
  injection ev1 with ea1 eb1 ec1
  subst ea1 eb1 ec1
  clear hA0 hval0
  refine (walk a0 len0 cap0 z0 a1 len1 cap1 z1 W (Lib.hid hn0.1) hn0.2 hr0 hr1.1).mono fun e W' ⟨he, bel⟩ => ?_
  subst he
  exact ⟨_, rfl, _, _, _, [], _, [], hW', trodAll_mk1 (shut_bool Try.underlying4 _), (trodAll_cons_mk (Below.trod laidOut (by kernel_rfl) (of_decide_eq_true (by kernel_rfl)) k0 bel lt0) (trodAll_cons_mk (Below.trod laidOut (by kernel_rfl) (of_decide_eq_true (by kernel_rfl)) k1 bel lt1) trodAll_mk0)), rfl, bel.frame _, fun h => by cases h⟩
theorem over : Rows.clockSumsRow.holds Try.pinned (OpenSpec.ofChange Rows.clockSumsSpec) :=
  OpenClaim.holds_of_wide 8 Try.f8 rfl rfl rfl rfl rfl rfl rfl ⟨rfl, rfl, rfl, rfl, rfl⟩ rfl rfl rfl rfl rfl (by kernel_rfl) Try.func8 (by kernel_rfl)
    (of_decide_eq_true (by kernel_rfl)) (by unfold Func.isWrapper; first | (rw [if_pos (by decide +kernel)]; kernel_rfl) | (rw [if_neg (by decide +kernel)]; exact ⟨rfl, rfl⟩))
    (fun os started H enc _ => lifted os started H enc)
theorem proved : Rows.ClockSumsSaid := over
end Go.Proofs.Ytgknbjiocgcmdaa.clockSums

