/- ClockOver: a tick that would be too much changes nothing; nobody sleeps twice: the call answers true and changes nothing that was there; for every input. -/
import Derived.Test.YtgknbjiocgcmdaaKTw
import Derived.Test.YtgknbjiocgcmdaaFrame
namespace Go.Proofs.Ytgknbjiocgcmdaa.clockOver
open Go.ChangeShapes Go.WideShapes Go.ChangeAt Go.RowKit
set_option linter.unusedVariables false

theorem early {zs : List Int} {p : Nat} {S : List Kp.On} (h : Kp.Sl zs p S) (hz : ∀ z ∈ zs, 0 ≤ z ∧ z ≤ 255) : ∀ o ∈ S, o.2 ≤ 256 := fun o ho => by
  obtain ⟨i, z, hi, hzi, rfl⟩ := (h.mem o).1 ho
  have := hz z (List.mem_of_getElem? hzi)
  simp only
  omega
theorem has_one {zs : List Int} {p : Nat} {S : List Kp.On} (h : Kp.Sl zs p S) (hp : 0 < p) (hn : p ≤ zs.length) : Kp.has S 1 = true := by
  obtain ⟨z, hz⟩ : ∃ z, zs[0]? = some z := ⟨_, List.getElem?_eq_getElem (by omega)⟩
  exact Kp.has_mem.2 (List.mem_map.2 ⟨_, (h.mem (((0 : Nat) : Int) + 1, 1 + z)).2 ⟨0, z, hp, hz, rfl⟩, rfl⟩)
set_option maxRecDepth 100000 in
set_option maxHeartbeats 2000000 in
theorem walk (A : Option Addr) (n c : Nat) (zs : List Int) (t : Int) (w : World) (hn : Hid (zs.length = n)) (hl : n ≤ 9223372036854775807) (hr : BRow w A zs) :
    Calls Try.prog 6 #[.slice A n c, .int .i64 t] w fun e w' => e = .returned (.bool true) ∧ Below w.heap.size w w' := by
  have HR := Lib.hid hr
  obtain ⟨p, hp⟩ : ∃ p, p = min n 64 := ⟨_, rfl⟩
  have HP := Lib.hid hp
  obtain ⟨S, hS⟩ : ∃ S, S = Kp.sl zs p := ⟨_, rfl⟩
  have HS := Lib.hid hS
  have hsl := Kp.sl_all hr.bytes p (by have := hn.out; omega)
  rw [← hS] at hsl
  have hE := early hsl hr.bytes
  have HSL := Lib.hid hsl
  have HLen := Lib.hid hsl.len
  obtain ⟨k1, k2, k3, k4⟩ : Kp.tcode 0 1099511627776 = 0 ∧ Kp.tnow 0 1099511627776 = 1099511627776 ∧ Kp.twoke S 0 1099511627776 = S ∧ Kp.trest S 0 1099511627776 = [] := by
    obtain ⟨a, b, c, d⟩ := Kp.tick_ok S (now := 0) (n := 1099511627776) (by omega) (by omega)
    obtain ⟨e, f⟩ := Kp.upto_all (L := S) (t := 0 + 1099511627776) (fun o ho => by have := hE o ho; omega)
    exact ⟨a, b, by rw [c, e], by rw [d, f]⟩
  have K1 := Lib.hid k1
  have K2 := Lib.hid k2
  have K3 := Lib.hid k3
  have K4 := Lib.hid k4
  clear hr hp hS hsl hE k1 k2 k3 k4
  go_enter Try.func6, Try.ntmps6
  go_wp2_with fail
  refine (shown_any _).mono ?_
  rintro e w1 ⟨rfl, hb1⟩
  have B1 := Lib.hid hb1
  have HR1 := Lib.hid (HR.out.below hb1)
  clear hb1
  go_wp2_with fail
  refine (slept_any A n c zs w1 hn hl HR1.out p HP).mono ?_
  rintro e w2 ⟨bc, F, rfl, h2⟩
  rw [← HS.out] at h2
  have C2 := Lib.hid (h2.elder B1.out)
  clear h2 B1 HR1
  go_wp2_with fail
  refine (co_asleep_in C2.out).mono ?_
  rintro e w3 ⟨⟨Aw, nw, dw, rfl, hrw, hfw, hiw⟩, h3, hb3⟩
  have IW := Lib.hid hiw
  have hnw := hrw.len
  rw [Kp.ids_length, HLen.out] at hnw
  have OW := Lib.hid (C2.out.out hfw (Nat.le_refl _))
  have RW := Lib.hid hrw
  have C3 := Lib.hid h3
  subst hnw
  clear hrw hfw h3 hb3 C2 hiw
  go_wp2_with fail
  refine (co_tick C3.out 1099511627776).mono ?_
  rintro e w4 ⟨⟨Af, nf, df, rfl, hrf, hff⟩, h4, hk4⟩
  rw [K1.out]
  rw [K2.out, K4.out] at h4
  rw [K3.out] at hrf
  have hnf := hrf.len
  rw [Kp.ids_length, HLen.out] at hnf
  subst hnf
  have C4 := Lib.hid h4
  have RW4 := Lib.hid (RW.out.kept hk4 OW.out)
  have HS34 := Lib.hid hk4.size
  clear hrf hff h4 hk4 C3 RW K1 K2 K3 K4
  go_wp2_with fail
  refine (co_tick C4.out 1).mono ?_
  rintro e w5 ⟨⟨Ag, ng, dg, rfl, hrg, hfg⟩, h5, hk5⟩
  rw [show Kp.tcode 1099511627776 1 = 7 from by decide +kernel]
  rw [show Kp.tnow 1099511627776 1 = 1099511627776 from by decide +kernel, show Kp.trest [] 1099511627776 1 = [] from by decide +kernel] at h5
  have C5 := Lib.hid h5
  have RW5 := Lib.hid (RW4.out.kept hk5 OW.out)
  have HS35 := Lib.hid (Nat.le_trans HS34.out hk5.size)
  have HR5 := Lib.hid (HR.out.below h5.below)
  clear hrg hfg h5 hk5 C4 RW4
  go_wp2_with fail
  refine (slept_any A n c zs w5 hn hl HR5.out _ HP).mono ?_
  rintro e w6 ⟨bd, G, rfl, h6⟩
  rw [← HS.out] at h6
  have T6 := Lib.hid (show Tw w w6 bc bd F G 1099511627776 0 [] S from ⟨C5.out.step h6.below, h6.elder C5.out.below, fun j f g => by have := C5.out.ck.lt j f; have := h6.ge j g; omega⟩)
  have RW6 := Lib.hid (show Rw F G w6 Aw _ dw (Kp.ids S) from ⟨RW5.out.below h6.below, OW.out, fun ad e g => by have := IW.out ad e; have := h6.ge _ g; have := HS35.out; omega⟩)
  clear h6 C5 RW5 HR5 OW
  obtain ⟨a1, a2, a3, a4⟩ : Kp.tcode 0 1099511627777 = 7 ∧ Kp.tnow 0 1099511627777 = 0 ∧ Kp.ids (Kp.twoke S 0 1099511627777) = [] ∧ Kp.trest S 0 1099511627777 = S := ⟨by decide +kernel, by decide +kernel, by rw [(Kp.tick_no S (now := 0) (n := 1099511627777) (.inr (by omega))).2.2.1]; rfl, (Kp.tick_no S (now := 0) (n := 1099511627777) (.inr (by omega))).2.2.2⟩
  have L1 := Lib.hid a1
  have L2 := Lib.hid a2
  have L4 := Lib.hid a4
  clear a1 a2 a3 a4
  go_wp2_with fail
  refine (co_tick T6.out.d 1099511627777).mono ?_
  rintro e w7 ⟨⟨A7, n7, d7, rfl, hr7, hf7⟩, h7, hk7⟩
  rw [L1.out]
  rw [L2.out, L4.out] at h7
  have T7 := Lib.hid (T6.out.tickD h7 hk7)
  have RW7 := Lib.hid (RW6.out.keptG hk7)
  clear hr7 hf7 h7 hk7 T6 RW6 L1 L2 L4
  have hm0 : min t (-1) < 0 := by omega
  obtain ⟨a1, a2, a4⟩ : Kp.tcode 0 (min t (-1)) = 1 ∧ Kp.tnow 0 (min t (-1)) = 0 ∧ Kp.trest S 0 (min t (-1)) = S := by
    unfold Kp.tcode Kp.tnow Kp.trest
    rw [if_pos hm0, if_pos hm0, if_pos hm0]
    exact ⟨rfl, rfl, rfl⟩
  have L1 := Lib.hid a1
  have L2 := Lib.hid a2
  have L4 := Lib.hid a4
  clear a1 a2 a4 hm0
  go_wp2_with fail
  refine (co_tick T7.out.d (min t (-1))).mono ?_
  rintro e w8 ⟨⟨A8, n8, d8, rfl, hr8, hf8⟩, h8, hk8⟩
  rw [L1.out]
  rw [L2.out, L4.out] at h8
  have T8 := Lib.hid (T7.out.tickD h8 hk8)
  have RW8 := Lib.hid (RW7.out.keptG hk8)
  clear hr8 hf8 h8 hk8 T7 RW7 L1 L2 L4
  go_wp2_with fail
  refine (tick_nil 1 _).mono ?_
  rintro e v8 ⟨rfl, rfl⟩
  go_wp2_with fail
  refine (co_now T8.out.c).mono ?_
  rintro e w9 ⟨rfl, rfl⟩
  go_wp2_with fail
  refine (co_now T8.out.d).mono ?_
  rintro e w10 ⟨rfl, rfl⟩
  go_wp2_with fail
  refine (co_asleep T8.out.d).mono ?_
  rintro e w11 ⟨⟨A11, n11, d11, rfl, hr11, hf11⟩, _, hb11⟩
  have T11 := Lib.hid (T8.out.step hb11)
  have RW11 := Lib.hid (RW8.out.row.below hb11)
  have R11 := Lib.hid hr11
  clear hr11 hf11 hb11 T8 RW8
  go_wp2_with fail
  refine (ints_row A11 Aw _ _ _ _ _ _ _ rfl R11.out RW11.out).mono ?_
  rintro e w12 ⟨rfl, hb12⟩
  have D12 := Lib.hid (T11.out.d.step hb12)
  have B12 := Lib.hid D12.out.below
  clear hb12 T11 RW11 R11
  by_cases h0 : n = 0
  · subst h0
    go_wp2_with fail
    refine (sleep_nil 1 1 _).mono ?_
    rintro e u1 ⟨rfl, rfl⟩
    go_wp2_with fail
    refine (wake_nil 1 _).mono ?_
    rintro e u2 ⟨rfl, hu2⟩
    have BE := Lib.hid (B12.out.trans (hu2.mono B12.out.size))
    clear hu2
    go_wp2_with fail
    refine (now_nil _).mono ?_
    rintro e u3 ⟨rfl, rfl⟩
    go_wp2_with fail
    refine (asleep_nil _).mono ?_
    rintro e u4 ⟨rfl, rfl⟩
    go_wp2_with fail
    go_ret
    exact ⟨rfl, BE.out⟩
  · have hn0 : (0 : Int) < (n : Int) := by omega
    have hh : Kp.has S 1 = true := has_one HSL.out (by have := HP.out; omega) (by have := HP.out; have := hn.out; omega)
    obtain ⟨a1, a2⟩ : Kp.code S 1 5 = 5 ∧ Kp.slp S 0 1 5 = S := by
      unfold Kp.code Kp.slp
      rw [if_neg (by omega), if_pos hh, if_neg (by omega), if_pos hh]
      exact ⟨rfl, rfl⟩
    have L1 := Lib.hid a1
    clear a1 a2 hh
    have hne : ((n : Int) == 0) = false := by rw [beq_eq_false_iff_ne]; omega
    go_wp2_with fail
    refine (co_sleep D12.out 1 5 (by omega)).mono ?_
    rintro e w13 ⟨rfl, F13, h13, _⟩
    rw [L1.out]
    have B13 := Lib.hid h13.below
    clear h13 D12 B12 L1
    go_wp2_with fail
    refine (sleep_nil 1 1 _).mono ?_
    rintro e u1 ⟨rfl, rfl⟩
    go_wp2_with fail
    refine (wake_nil 1 _).mono ?_
    rintro e u2 ⟨rfl, hu2⟩
    have BE := Lib.hid (B13.out.trans (hu2.mono B13.out.size))
    clear hu2
    go_wp2_with fail
    refine (now_nil _).mono ?_
    rintro e u3 ⟨rfl, rfl⟩
    go_wp2_with fail
    refine (asleep_nil _).mono ?_
    rintro e u4 ⟨rfl, rfl⟩
    go_wp2_with fail
    go_ret
    exact ⟨rfl, BE.out⟩
set_option maxRecDepth 100000 in
theorem lifted (os : Os) (started : os.Started) (H : Type) (enc : TypeId × Value → H) :
    ReturnsInHanded {} Try.checked os 6 .any (Rows.clockOverSpec.pre6 enc Try.prog Try.f6 Rows.clockOverRow.domain false) (Rows.clockOverSpec.post enc Try.prog Try.f6 false true false false) := by
  refine returnsInHanded_of_change (C := Try.checked) own started (by kernel_rfl) Try.func6
    (ChangeSpec.witness6 (enc := enc) (C := Try.checked) false ⟨#[], #[.slice none 0 0, .int .i64 0], []⟩ 8 (by kernel_rfl) (by kernel_rfl) (by kernel_rfl) (by kernel_rfl)) ?_
  intro W base args ds gs before hval0 hW hcnd _
  have hval : ∀ (j : Nat) t v, Try.f6.params[j]? = some t → args[j]? = some v → Value.okWide Try.prog W .any base t v := hval0
  have hW' := hW
  obtain ⟨p, q, hA0, hV, rfl, hfz, hnd⟩ := hW
  have hA : DataW.TrodAll enc Try.prog W 0 (fun _ => true) true Try.f6.params.toList args.toList ds p := hA0
  rw [Try.params6] at hA hval
  obtain ⟨v0, vs0, d0, ds0, p0, q0, hargs, rfl, rfl, h0, r0⟩ := trodAll_cons hA
  obtain ⟨v1, vs1, d1, ds1, p1, q1, rfl, rfl, rfl, h1, r1⟩ := trodAll_cons r0
  obtain ⟨rfl, rfl, rfl⟩ := trodAll_nil r1
  obtain rfl : args = #[v0, v1] := by cases args; simp_all
  obtain ⟨rfl, rfl⟩ := trodVars_none hV
  have k0 := h0
  have lt0 : ∀ x ∈ p0, x.block < W.heap.size := by obtain ⟨m, hm⟩ := k0; exact DataW.trod_lt m _ _ _ hm
  obtain ⟨a0, len0, cap0, rfl⟩ := okWide_slice Try.underlying52 (hval 0 52 v0 rfl rfl)
  obtain ⟨aa0, ll0, cc0, z0, ev0, hn0, hr0⟩ : ∃ A n c zs, Value.slice a0 len0 cap0 = .slice A n c ∧ (zs.length = n ∧ n ≤ 9223372036854775807) ∧ BRow W A zs := by
    obtain ⟨fuel, hf⟩ := h0
    exact open_bytes (by simpa [Value.cells] using hf)
  injection ev0 with ea0 eb0 ec0
  subst ea0 eb0 ec0
  obtain ⟨a1, rfl, rfl, rfl, w1⟩ := open_int Try.underlying2 (hval 1 2 v1 rfl rfl) h1
  clear hA0 hval0
  refine (walk a0 len0 cap0 z0 a1 W (Lib.hid hn0.1) hn0.2 hr0).mono fun e W' ⟨he, bel⟩ => ?_
  subst he
  exact ⟨_, rfl, _, _, _, [], _, [], hW', trodAll_mk1 (shut_bool Try.underlying4 _), (trodAll_cons_mk (Below.trod laidOut (by kernel_rfl) (of_decide_eq_true (by kernel_rfl)) k0 bel lt0) (trodAll_cons_mk (shut_int Try.underlying2 w1) trodAll_mk0)), rfl, bel.frame _, fun h => by cases h⟩
theorem over : Rows.clockOverRow.holds Try.pinned (OpenSpec.ofChange Rows.clockOverSpec) :=
  OpenClaim.holds_of_wide 6 Try.f6 rfl rfl rfl rfl rfl rfl rfl ⟨rfl, rfl, rfl, rfl, rfl⟩ rfl rfl rfl rfl rfl (by kernel_rfl) Try.func6 (by kernel_rfl)
    (of_decide_eq_true (by kernel_rfl)) (by unfold Func.isWrapper; first | (rw [if_pos (by decide +kernel)]; kernel_rfl) | (rw [if_neg (by decide +kernel)]; exact ⟨rfl, rfl⟩))
    (fun os started H enc _ => lifted os started H enc)
theorem proved : Rows.ClockOverSaid := over
end Go.Proofs.Ytgknbjiocgcmdaa.clockOver

