/- ClockWakes: nobody sleeps longer than until the first tick that isn't ahead of its end, nor shorter: the call answers true and changes nothing that was there; for every input. -/
import Derived.Test.YtgknbjiocgcmdaaKSl
import Derived.Test.YtgknbjiocgcmdaaFrame
import Derived.Deep.QuietTactic
import Derived.BigQuiet
namespace Go.Proofs.Ytgknbjiocgcmdaa.clockWakes
open Go.ChangeShapes Go.WideShapes Go.ChangeAt Go.RowKit
set_option linter.unusedVariables false

theorem BRow.at {w : World} {A : Option Addr} {zs : List Int} (h : BRow w A zs) {b off : Nat} (hA : A = some ⟨b, off, none⟩) {i : Nat} {z : Int} (hi : zs[i]? = some z) : w.cell? ⟨b, off + i, none⟩ = some (.int .u8 z) := by
  obtain ⟨b', off', e, _, hc, _⟩ := h i z hi
  rw [hA] at e
  injection e with e
  injection e with e1 e2
  subst e1 e2
  exact hc
set_option maxRecDepth 100000 in
set_option maxHeartbeats 2000000 in
theorem walk (A : Option Addr) (n c : Nat) (zs : List Int) (At : Option Addr) (nt ct : Nat) (ts : List Int) (w : World) (hn : Hid (zs.length = n)) (hl : n ≤ 9223372036854775807) (hr : BRow w A zs) (hnt : Hid (ts.length = nt)) (hlt : nt ≤ 9223372036854775807) (hrt : BRow w At ts) :
    Calls Try.prog 5 #[.slice A n c, .slice At nt ct] w fun e w' => e = .returned (.bool true) ∧ Below w.heap.size w w' := by
  have HR := Lib.hid hr
  have RT := Lib.hid hrt
  obtain ⟨p, hp⟩ : ∃ p, p = min n 64 := ⟨_, rfl⟩
  have HP := Lib.hid hp
  obtain ⟨S, hS⟩ : ∃ S, S = Kp.sl zs p := ⟨_, rfl⟩
  have HS := Lib.hid hS
  have hsl := Kp.sl_all hr.bytes p (by have := hn.out; omega)
  rw [← hS] at hsl
  have HW := Lib.hid (Kp.Wk.start hsl hr.bytes)
  have HZ := Lib.hid hr.bytes
  clear hr hrt hp hS hsl
  go_enter Try.func5, Try.ntmps5
  go_wp2_with fail
  refine (shown_any _).mono ?_
  rintro e w1 ⟨rfl, hb1⟩
  have B1 := Lib.hid hb1
  have HR1 := Lib.hid (HR.out.below hb1)
  clear hb1
  go_wp2_with fail
  refine (slept_any A n c zs w1 hn hl HR1.out p HP).mono ?_
  rintro e w2 ⟨b, F, rfl, h2⟩
  rw [← HS.out] at h2
  have C2 := Lib.hid (h2.elder B1.out)
  clear h2 B1 HR1
  go_wp2_with fail
  go_loopw [7, 8] (fun v j wr => ∃ (i now : Nat) (S : List Kp.On), i ≤ nt ∧ i ≤ 100 ∧ v = .int .i64 now ∧ j = .int .i64 i ∧ now ≤ 40 * i ∧ Hid (Kp.Wk zs p now S) ∧ Hid (Co w wr b F now S 64)) (fun _ j _ => nt - (intOf j).toNat)
  case atStart => exact ⟨0, 0, S, by omega, by omega, rfl, rfl, by omega, HW, C2⟩
  case round =>
    clear C2 HW HS S
    obtain ⟨i, now, S, hi, hi2, rfl, rfl, hnow, HW, C⟩ := hrel
    by_cases hlt2 : i < nt
    · by_cases h100 : i < 100
      · obtain ⟨t, hti⟩ : ∃ t, ts[i]? = some t := ⟨_, List.getElem?_eq_getElem (by have := hnt.out; omega)⟩
        obtain ⟨gt, ot, rfl, hgt, hct, t0, t1⟩ := RT.out i t hti
        have c0 := C.out.below.cell (p := ⟨gt, ot + i, none⟩) hgt |>.trans hct
        obtain ⟨m, hm⟩ : ∃ m : Nat, t % 40 = (m : Int) := ⟨(t % 40).toNat, by omega⟩
        have m1 : t.tmod 40 = (m : Int) := by rw [Int.tmod_eq_emod_of_nonneg t0, hm]
        have hm40 : m < 40 := by omega
        have i0 : (0 : Int) ≤ (i : Int) := by omega
        have i1 : (i : Int) < (nt : Int) := by omega
        have wm : IntKind.i64.wrap (m : Int) = (m : Int) := IntWalk.i64_in _ (by omega)
        have wu : IntKind.u8.wrap (m : Int) = (m : Int) := by simp [IntKind.wrap, IntKind.bits, IntKind.signed]; omega
        have wn : IntKind.i64.wrap ((now : Int) + (m : Int)) = (now : Int) + (m : Int) := IntWalk.i64_in _ (by omega)
        obtain ⟨k1, k2, k3, k4⟩ := Kp.tick_ok S (now := now) (n := m) (by omega) (by omega)
        have K1 := Lib.hid k1
        have K2 := Lib.hid k2
        have K3 := Lib.hid k3
        have K4 := Lib.hid k4
        clear hti hct k1 k2 k3 k4 hm
        go_wp2_with fail
        refine (co_tick C.out (m : Int)).mono ?_
        rintro e w3 ⟨⟨A2, n2, d2, rfl, hr2, hf2⟩, h3, hk3⟩
        rw [K1.out]
        rw [K2.out, K4.out] at h3
        rw [K3.out] at hr2
        have C3 := Lib.hid h3
        have R3 := Lib.hid hr2
        have HW3 := Lib.hid (HW.out.next (n := (m : Int)) (by omega))
        clear hr2 hf2 h3 hk3 c0 K1 K2 K3 K4
        go_wp2_with fail
        have hn2 := R3.out.len
        have hc2 := R3.out.cap
        have hm2 := R3.out.most
        go_loop [12] (fun j => ∃ k : Nat, k ≤ n2 ∧ j = .int .i64 k) (fun j => n2 - (intOf j).toNat)
        case atStart => exact ⟨0, Nat.zero_le _, rfl⟩
        case round =>
          obtain ⟨k, hk, rfl⟩ := hrel
          by_cases hkn : k < n2
          · obtain ⟨x, hx⟩ : ∃ x, (Kp.ids (Kp.upto S ((now : Int) + (m : Int))))[k]? = some x := ⟨_, List.getElem?_eq_getElem (by omega)⟩
            obtain ⟨j, z, hj, hzj, rfl, h1, h2⟩ := HW.out.woke (List.mem_of_getElem? hx)
            obtain ⟨pb, po, rfl, _, cx⟩ := R3.out.row k _ hx
            obtain ⟨gl, ol, rfl, _, cl, z0, z1⟩ := (HR.out.below C3.out.below) j z hzj
            have hjn : (j : Int) < (n : Int) := by have := HP.out; omega
            have j0 : (0 : Int) ≤ (j : Int) := by omega
            have wj : IntKind.i64.wrap ((j : Int) + 1 - 1) = (j : Int) := by rw [show (j : Int) + 1 - 1 = j by omega]; exact IntWalk.i64_in _ (by omega)
            have wj2 : (j : Int) + 1 - 1 = (j : Int) := by omega
            have wz : IntKind.i64.wrap z = z := IntWalk.i64_in _ (by omega)
            have wz1 : IntKind.i64.wrap (1 + z) = 1 + z := IntWalk.i64_in _ (by omega)
            have g1 : ¬ 1 + z ≤ (now : Int) := by omega
            have g2 : ¬ (now : Int) + (m : Int) < 1 + z := by omega
            have k0 : (0 : Int) ≤ (k : Int) := by omega
            have k1 : (k : Int) < (n2 : Int) := by omega
            clear hx hzj hj h1 h2
            go_wp2_with fail
            go_round
            case rel => exact ⟨k + 1, by omega, by go_num⟩
            case measure => simp [intOf]; omega
          · go_wp2_with fail
            refine (co_asleep C3.out).mono ?_
            rintro e w4 ⟨⟨A4, n4, d4, rfl, hr4, hf4⟩, h4, hb4⟩
            have C4 := Lib.hid h4
            have R4 := Lib.hid hr4
            clear hr4 hf4 h4 hb4 C3 R3
            go_wp2_with fail
            go_loopw [15] (fun j wr2 => ∃ g : Nat, g ≤ n ∧ g ≤ 64 ∧ j = .int .i64 g ∧ Hid (Co w wr2 b F ((now : Int) + (m : Int)) (Kp.beyond S ((now : Int) + (m : Int))) 64) ∧ Hid (Row wr2 A4 n4 d4 (Kp.ids (Kp.beyond S ((now : Int) + (m : Int)))))) (fun j _ => n - (intOf j).toNat)
            case atStart => exact ⟨0, Nat.zero_le _, Nat.zero_le _, rfl, C4, R4⟩
            case round =>
              clear C4 R4
              obtain ⟨g, hg, hg64, rfl, C4, R4⟩ := hrel
              by_cases hgn : g < n
              · by_cases h64 : g < 64
                · obtain ⟨z, hz⟩ : ∃ z, zs[g]? = some z := ⟨_, List.getElem?_eq_getElem (by have := hn.out; omega)⟩
                  obtain ⟨gl, ol, rfl, _, cl, z0, z1⟩ := (HR.out.below C4.out.below) g z hz
                  have hH := HW3.out.at (i := g) (by have := HP.out; omega) hz
                  rw [← Kp.has_contains] at hH
                  have g0 : (0 : Int) ≤ (g : Int) := by omega
                  have g1 : (g : Int) < (n : Int) := by omega
                  have wg : IntKind.i64.wrap ((g : Int) + 1) = (g : Int) + 1 := IntWalk.i64_in _ (by omega)
                  have wz : IntKind.i64.wrap z = z := IntWalk.i64_in _ (by omega)
                  have wz1 : IntKind.i64.wrap (1 + z) = 1 + z := IntWalk.i64_in _ (by omega)
                  obtain ⟨T, hT⟩ : ∃ T, T = decide ((now : Int) + (m : Int) < 1 + z) := ⟨_, rfl⟩
                  rw [← hT] at hH
                  have HG := Lib.hid (show ∀ q, Calls Try.prog 21 #[.slice A4 n4 d4, .int .i64 ((g : Int) + 1)] (wr.drewN q) fun e w' => e = .returned (.bool T) ∧ w' = (wr.drewN q) from fun q => (in_any A4 n4 d4 _ ((g : Int) + 1) (wr.drewN q) wr.heap.size (Lib.hid R4.out.len) (by have := R4.out.cap; have := R4.out.most; omega) R4.out.row).mono fun e w' h => ⟨by rw [h.1]; unfold Tp.has; rw [hH], h.2⟩)
                  clear hz hH
                  by_cases hc : (now : Int) + (m : Int) < 1 + z
                  · have hT1 : T = true := by rw [hT]; exact decide_eq_true hc
                    subst hT1
                    clear hT
                    go_wp2_with fail
                    go_quiet ((go_at_call 21; (with_reducible exact Calls.quiet_of_same (HG.out _))))
                    go_wp2_with fail
                    go_roundw
                    case rel => exact ⟨g + 1, by omega, by omega, by go_num, Lib.hid (C4.out.drewN _), Lib.hid (R4.out.below (below_drewN (Below.refl _ _) _))⟩
                    case measure => simp [intOf]; omega
                  · have hT1 : T = false := by rw [hT]; exact decide_eq_false hc
                    subst hT1
                    clear hT
                    go_wp2_with fail
                    go_quiet ((go_at_call 21; (with_reducible exact Calls.quiet_of_same (HG.out _))))
                    go_wp2_with fail
                    go_roundw
                    case rel => exact ⟨g + 1, by omega, by omega, by go_num, Lib.hid (C4.out.drewN _), Lib.hid (R4.out.below (below_drewN (Below.refl _ _) _))⟩
                    case measure => simp [intOf]; omega
                · obtain rfl : g = 64 := by omega
                  go_wp2_with fail
                  go_roundw
                  case rel => exact ⟨i + 1, now + m, _, by omega, by omega, by go_num, by go_num, by omega, Lib.hid (by have := HW3.out; simpa using this), Lib.hid (by have := C4.out; simpa using this)⟩
                  case measure => simp [intOf]; omega
              · obtain rfl : g = n := by omega
                go_wp2_with fail
                go_roundw
                case rel => exact ⟨i + 1, now + m, _, by omega, by omega, by go_num, by go_num, by omega, Lib.hid (by have := HW3.out; simpa using this), Lib.hid (by have := C4.out; simpa using this)⟩
                case measure => simp [intOf]; omega
      · obtain rfl : i = 100 := by omega
        go_wp2_with fail
        go_ret
        exact ⟨rfl, C.out.below⟩
    · obtain rfl : i = nt := by omega
      go_wp2_with fail
      go_ret
      exact ⟨rfl, C.out.below⟩
set_option maxRecDepth 100000 in
theorem lifted (os : Os) (started : os.Started) (H : Type) (enc : TypeId × Value → H) :
    ReturnsInHanded {} Try.checked os 5 .any (Rows.clockWakesSpec.pre6 enc Try.prog Try.f5 Rows.clockWakesRow.domain false) (Rows.clockWakesSpec.post enc Try.prog Try.f5 false true false false) := by
  refine returnsInHanded_of_change (C := Try.checked) own started (by kernel_rfl) Try.func5
    (ChangeSpec.witness6 (enc := enc) (C := Try.checked) false ⟨#[], #[.slice none 0 0, .slice none 0 0], []⟩ 8 (by kernel_rfl) (by kernel_rfl) (by kernel_rfl) (by kernel_rfl)) ?_
  intro W base args ds gs before hval0 hW hcnd _
  have hval : ∀ (j : Nat) t v, Try.f5.params[j]? = some t → args[j]? = some v → Value.okWide Try.prog W .any base t v := hval0
  have hW' := hW
  obtain ⟨p, q, hA0, hV, rfl, hfz, hnd⟩ := hW
  have hA : DataW.TrodAll enc Try.prog W 0 (fun _ => true) true Try.f5.params.toList args.toList ds p := hA0
  rw [Try.params5] at hA hval
  obtain ⟨v0, vs0, d0, ds0, p0, q0, hargs, rfl, rfl, h0, r0⟩ := trodAll_cons hA
  obtain ⟨v1, vs1, d1, ds1, p1, q1, rfl, rfl, rfl, h1, r1⟩ := trodAll_cons r0
  obtain ⟨rfl, rfl, rfl⟩ := trodAll_nil r1
  obtain rfl : args = #[v0, v1] := by cases args; simp_all
  obtain ⟨rfl, rfl⟩ := trodVars_none hV
  have k0 := h0
  have lt0 : ∀ x ∈ p0, x.block < W.heap.size := by obtain ⟨m, hm⟩ := k0; exact DataW.trod_lt m _ _ _ hm
  obtain ⟨a0, len0, cap0, rfl⟩ := okWide_slice Try.underlying52 (hval 0 52 v0 rfl rfl)
  obtain ⟨aa0, ll0, cc0, z0, ev0, hn0, hr0⟩ : ∃ A n c zs, Value.slice a0 len0 cap0 = .slice A n c ∧ (zs.length = n ∧ n ≤ 9223372036854775807) ∧ BRow W A zs := by
    obtain ⟨fuel, hf⟩ := h0
    exact open_bytes (by simpa [Value.cells] using hf)
  injection ev0 with ea0 eb0 ec0
  subst ea0 eb0 ec0
  have k1 := h1
  have lt1 : ∀ x ∈ p1, x.block < W.heap.size := by obtain ⟨m, hm⟩ := k1; exact DataW.trod_lt m _ _ _ hm
  obtain ⟨a1, len1, cap1, rfl⟩ := okWide_slice Try.underlying52 (hval 1 52 v1 rfl rfl)
  obtain ⟨aa1, ll1, cc1, z1, ev1, hn1, hr1⟩ : ∃ A n c zs, Value.slice a1 len1 cap1 = .slice A n c ∧ (zs.length = n ∧ n ≤ 9223372036854775807) ∧ BRow W A zs := by
    obtain ⟨fuel, hf⟩ := h1
    exact open_bytes (by simpa [Value.cells] using hf)
  injection ev1 with ea1 eb1 ec1
  subst ea1 eb1 ec1
  clear hA0 hval0
  refine (walk a0 len0 cap0 z0 a1 len1 cap1 z1 W (Lib.hid hn0.1) hn0.2 hr0 (Lib.hid hn1.1) hn1.2 hr1).mono fun e W' ⟨he, bel⟩ => ?_
  subst he
  exact ⟨_, rfl, _, _, _, [], _, [], hW', trodAll_mk1 (shut_bool Try.underlying4 _), (trodAll_cons_mk (Below.trod laidOut (by kernel_rfl) (of_decide_eq_true (by kernel_rfl)) k0 bel lt0) (trodAll_cons_mk (Below.trod laidOut (by kernel_rfl) (of_decide_eq_true (by kernel_rfl)) k1 bel lt1) trodAll_mk0)), rfl, bel.frame _, fun h => by cases h⟩
theorem over : Rows.clockWakesRow.holds Try.pinned (OpenSpec.ofChange Rows.clockWakesSpec) :=
  OpenClaim.holds_of_wide 5 Try.f5 rfl rfl rfl rfl rfl rfl rfl ⟨rfl, rfl, rfl, rfl, rfl⟩ rfl rfl rfl rfl rfl (by kernel_rfl) Try.func5 (by kernel_rfl)
    (of_decide_eq_true (by kernel_rfl)) (by unfold Func.isWrapper; first | (rw [if_pos (by decide +kernel)]; kernel_rfl) | (rw [if_neg (by decide +kernel)]; exact ⟨rfl, rfl⟩))
    (fun os started H enc _ => lifted os started H enc)
theorem proved : Rows.ClockWakesSaid := over
end Go.Proofs.Ytgknbjiocgcmdaa.clockWakes

