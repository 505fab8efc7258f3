/- ClockStill: a tick of 0 wakes nobody who was asleep behind a tick; who is woken by hand doesn't wake by itself: the call answers true and changes nothing that was there; for every input. -/
import Derived.Test.YtgknbjiocgcmdaaKSl
import Derived.Test.YtgknbjiocgcmdaaFrame
namespace Go.Proofs.Ytgknbjiocgcmdaa.clockStill
open Go.ChangeShapes Go.WideShapes Go.ChangeAt Go.RowKit
set_option linter.unusedVariables false

theorem early {zs : List Int} {p : Nat} {S : List Kp.On} (h : Kp.Sl zs p S) (hz : ∀ z ∈ zs, 0 ≤ z ∧ z ≤ 255) : ∀ o ∈ S, o.2 ≤ 256 := fun o ho => by
  obtain ⟨i, z, hi, hzi, rfl⟩ := (h.mem o).1 ho
  have := hz z (List.mem_of_getElem? hzi)
  simp only
  omega
/-- All but one. -/
def but (xs : List Int) (g : Int) : List Int := xs.filter fun x => !(x == g)
theorem but_ids (S : List Kp.On) (g : Int) : but (Kp.ids S) g = Kp.ids (Kp.without S g) := by
  unfold but Kp.ids Kp.without
  rw [List.filter_map]
  rfl
theorem but_take {xs : List Int} {k : Nat} {x g : Int} (h : xs[k]? = some x) : but (xs.take (k + 1)) g = if x = g then but (xs.take k) g else but (xs.take k) g ++ [x] := by
  unfold but
  rw [List.take_add_one, h, List.filter_append]
  by_cases e : x = g <;> simp [e]
theorem still_math {S : List Kp.On} (hE : ∀ o ∈ S, o.2 ≤ 256) (t g : Int) (t0 : 0 ≤ t) (t1 : t ≤ 255) :
    (Kp.tcode 0 t = 0 ∧ Kp.tnow 0 t = t ∧ Kp.trest S 0 t = Kp.beyond S t) ∧
    (Kp.tcode t 0 = 0 ∧ Kp.tnow t 0 = t ∧ Kp.ids (Kp.twoke (Kp.beyond S t) t 0) = [] ∧ Kp.trest (Kp.beyond S t) t 0 = Kp.beyond S t) ∧
    (Kp.tcode t 1000 = 0 ∧ Kp.twoke (Kp.without (Kp.beyond S t) g) t 1000 = Kp.without (Kp.beyond S t) g ∧ Kp.trest (Kp.without (Kp.beyond S t) g) t 1000 = []) := by
  obtain ⟨p1, p2, p3, p4⟩ := Kp.tick_ok S (now := 0) (n := t) t0 (by omega)
  rw [Int.zero_add] at p2 p4
  obtain ⟨q1, q2, q3, q4⟩ := Kp.tick_ok (Kp.beyond S t) (now := t) (n := 0) (by omega) (by omega)
  rw [Int.add_zero] at q2 q3 q4
  obtain ⟨e1, e2⟩ := Kp.upto_none (L := Kp.beyond S t) (t := t) (fun o ho => by have := (List.mem_filter.1 ho).2; simp at this; exact this)
  obtain ⟨r1, r2, r3, r4⟩ := Kp.tick_ok (Kp.without (Kp.beyond S t) g) (now := t) (n := 1000) (by omega) (by omega)
  obtain ⟨e3, e4⟩ := Kp.upto_all (L := Kp.without (Kp.beyond S t) g) (t := t + 1000) (fun o ho => by have := hE o (List.mem_filter.1 (List.mem_filter.1 ho).1).1; omega)
  exact ⟨⟨p1, p2, p4⟩, ⟨q1, q2, by rw [q3, e1]; rfl, by rw [q4, e2]⟩, ⟨r1, by rw [r3, e3], by rw [r4, e4]⟩⟩
set_option maxRecDepth 100000 in
set_option maxHeartbeats 2000000 in
theorem walk (A : Option Addr) (n c : Nat) (zs : List Int) (t g : Int) (w : World) (hn : Hid (zs.length = n)) (hl : n ≤ 9223372036854775807) (hr : BRow w A zs) (hu : (Lit.int .u8 t).wf = true) (hv : (Lit.int .u8 g).wf = true) :
    Calls Try.prog 7 #[.slice A n c, .int .u8 t, .int .u8 g] w fun e w' => e = .returned (.bool true) ∧ Below w.heap.size w w' := by
  have hu' : 0 ≤ t ∧ t ≤ 255 := by simpa [Lit.wf, IntKind.min, IntKind.max, IntKind.signed, IntKind.bits] using hu
  have hv' : 0 ≤ g ∧ g ≤ 255 := by simpa [Lit.wf, IntKind.min, IntKind.max, IntKind.signed, IntKind.bits] using hv
  obtain ⟨t0, t1⟩ := hu'
  obtain ⟨g0, g1⟩ := hv'
  have HR := Lib.hid hr
  obtain ⟨p, hp⟩ : ∃ p, p = min n 64 := ⟨_, rfl⟩
  have HP := Lib.hid hp
  obtain ⟨S, hS⟩ : ∃ S, S = Kp.sl zs p := ⟨_, rfl⟩
  have HS := Lib.hid hS
  have hsl := Kp.sl_all hr.bytes p (by have := hn.out; omega)
  rw [← hS] at hsl
  obtain ⟨m, hm⟩ : ∃ m, m = g.tmod 64 := ⟨_, rfl⟩
  have hm2 : m = g % 64 := by rw [hm]; exact Int.tmod_eq_emod_of_nonneg g0
  have hmb : 0 ≤ m ∧ m < 64 := by omega
  obtain ⟨⟨a1, a2, a3⟩, ⟨b1, b2, b3, b4⟩, ⟨c1, c2, c3⟩⟩ := still_math (early hsl hr.bytes) t (1 + m) t0 t1
  have hlen := hsl.len
  obtain ⟨S1, hS1⟩ : ∃ S1, S1 = Kp.beyond S t := ⟨_, rfl⟩
  rw [← hS1] at a3 b3 b4 c2 c3
  have hl1 : S1.length ≤ 64 := by rw [hS1]; have := Kp.beyond_le S t; omega
  obtain ⟨S2, hS2⟩ : ∃ S2, S2 = Kp.without S1 (1 + m) := ⟨_, rfl⟩
  rw [← hS2] at c2 c3
  have HS2 := Lib.hid hS2
  have A1 := Lib.hid a1
  have A2 := Lib.hid a2
  have A3 := Lib.hid a3
  have B1 := Lib.hid b1
  have B2 := Lib.hid b2
  have B3 := Lib.hid b3
  have B4 := Lib.hid b4
  have D1 := Lib.hid c1
  have D2 := Lib.hid c2
  have D3 := Lib.hid c3
  have HM := Lib.hid hm.symm
  have wt : IntKind.i64.wrap t = t := IntWalk.i64_in _ (by omega)
  have wg : IntKind.i64.wrap g = g := IntWalk.i64_in _ (by omega)
  have wm : IntKind.i64.wrap m = m := IntWalk.i64_in _ (by omega)
  have wm1 : IntKind.i64.wrap (1 + m) = 1 + m := IntWalk.i64_in _ (by omega)
  have em : g.tmod 64 = m := hm.symm
  clear hr hu hv hp hS hsl a1 a2 a3 b1 b2 b3 b4 c1 c2 c3 hS1 hS2 hlen hm2 hm
  go_enter Try.func7, Try.ntmps7
  go_wp2_with fail
  refine (shown_any _).mono ?_
  rintro e w1 ⟨rfl, hb1⟩
  have BB1 := Lib.hid hb1
  have HR1 := Lib.hid (HR.out.below hb1)
  clear hb1
  go_wp2_with fail
  refine (slept_any A n c zs w1 hn hl HR1.out p HP).mono ?_
  rintro e w2 ⟨b, F, rfl, h2⟩
  rw [← HS.out] at h2
  have C2 := Lib.hid (h2.elder BB1.out)
  clear h2 BB1 HR1
  go_wp2_with fail
  refine (co_tick C2.out t).mono ?_
  rintro e w3 ⟨⟨Af, nf, df, rfl, _, _⟩, h3, _⟩
  rw [A2.out, A3.out] at h3
  have C3 := Lib.hid h3
  clear h3 C2 A1 A2 A3
  go_wp2_with fail
  refine (co_asleep C3.out).mono ?_
  rintro e w4 ⟨⟨Aw, nw, dw, rfl, hrw, hfw⟩, h4, hb4⟩
  have hnw := hrw.len
  rw [Kp.ids_length] at hnw
  have OW := Lib.hid (C3.out.out hfw (Nat.le_refl _))
  have RW := Lib.hid hrw
  have C4 := Lib.hid h4
  have hnw64 : nw ≤ 64 := by omega
  have HNW := Lib.hid hnw
  clear hrw hfw h4 hb4 C3 hnw
  go_wp2_with fail
  refine (co_tick C4.out 0).mono ?_
  rintro e w5 ⟨⟨A5, n5, d5, rfl, hr5, hf5⟩, h5, hk5⟩
  rw [B1.out]
  rw [B2.out, B4.out] at h5
  rw [B3.out] at hr5
  obtain rfl : n5 = 0 := hr5.len.symm
  have C5 := Lib.hid h5
  have RW5 := Lib.hid (RW.out.kept hk5 OW.out)
  clear hr5 hf5 h5 hk5 C4 RW B1 B2 B3 B4
  go_wp2_with fail
  refine (co_wake C5.out (1 + m)).mono ?_
  rintro e w6 ⟨rfl, h6, hk6⟩
  rw [← HS2.out] at h6
  have C6 := Lib.hid h6
  have RW6 := Lib.hid (RW5.out.kept hk6 OW.out)
  obtain ⟨T, hT⟩ : ∃ T, T = Kp.has S1 (1 + m) := ⟨_, rfl⟩
  have HT := Lib.hid hT
  rw [← hT]
  clear h6 hk6 C5 RW5 hT
  go_wp2_with fail
  refine (co_tick C6.out 1000).mono ?_
  rintro e w7 ⟨⟨A7, n7, d7, rfl, hr7, hf7⟩, h7, hk7⟩
  rw [D1.out]
  rw [D3.out] at h7
  rw [D2.out] at hr7
  have C7 := Lib.hid h7
  have R7 := Lib.hid hr7
  have RW7 := Lib.hid (RW6.out.kept hk7 OW.out)
  clear hr7 hf7 h7 hk7 C6 RW6 OW D1 D2 D3
  go_wp2_with fail
  obtain ⟨X, hX⟩ : ∃ X, X = Kp.ids S1 := ⟨_, rfl⟩
  rw [← hX] at RW7
  have HX := Lib.hid hX
  have hlw := RW7.out.len
  have hcw := RW7.out.cap
  have hmw := RW7.out.most
  clear hX
  go_loopw [16, 17] (fun v i wr => ∃ (k d : Nat), k ≤ nw ∧ d ≤ k ∧ i = .int .i64 k ∧ Hid (wr.ownsRow w7.heap.size 3 1 v d ((but (X.take k) (1 + m)).map (Value.int .i64))) ∧ Hid (Below w7.heap.size w7 wr)) (fun _ i _ => nw - (intOf i).toNat)
  case atStart => exact ⟨0, 0, Nat.zero_le _, Nat.zero_le _, rfl, Lib.hid (World.ownsRow_nil _ _ _ _), Lib.hid (Below.refl _ _)⟩
  case round =>
    obtain ⟨k, d, hk, hd, rfl, HO, HB⟩ := hrel
    obtain ⟨A1, q1, rfl, _, _⟩ := Row.of_own' HO.out
    by_cases hlt : k < nw
    · obtain ⟨x, hx⟩ : ∃ x, X[k]? = some x := ⟨_, List.getElem?_eq_getElem (by omega)⟩
      obtain ⟨gb, go, rfl, _, c0⟩ := (RW7.out.below HB.out).row k x hx
      have HT2 := Lib.hid (but_take (g := 1 + m) hx)
      have i0 : (0 : Int) ≤ (k : Int) := by omega
      have i1 : (k : Int) < (nw : Int) := by omega
      clear hx
      by_cases hq : x = 1 + m
      · have hq1 : (x != 1 + m) = false := by simp [hq]
        have HO2 := Lib.hid (show wr.ownsRow w7.heap.size 3 1 (.slice A1 d q1) d ((but (X.take (k + 1)) (1 + m)).map (Value.int .i64)) by rw [HT2.out, if_pos hq]; exact HO.out)
        clear hq HT2 HO
        go_wp2_with fail
        go_roundw
        case rel => exact ⟨k + 1, d, by omega, by omega, by go_num, HO2, HB⟩
        case measure => simp [intOf]; omega
      · have hq1 : (x != 1 + m) = true := by simp [hq]
        have hb3 := below_new wr (.cells #[.int .i64 x] 3)
        have HB3 := Lib.hid (HB.out.trans (hb3.mono HB.out.size))
        have HO3 := Lib.hid (own_below HO.out hb3)
        have HR3 := Lib.hid (row_at wr x wr.heap.size rfl)
        have HQ := Lib.hid hq
        clear hb3 HO hq
        go_wp2_with (at_builtin; refine wpList_append_row rfl _ _ rfl w7.heap.size _ d _ rfl HO3.out _ 1 1 [x] rfl HR3.out (by omega) HB3.out.size ?_; intro v' w8 hown2 hg)
        have HO4 := Lib.hid (show w8.ownsRow w7.heap.size 3 1 v' (d + 1) ((but (X.take (k + 1)) (1 + m)).map (Value.int .i64)) by rw [HT2.out, if_neg HQ.out]; exact hown2)
        have HB4 := Lib.hid (HB3.out.grown hg HB3.out.size (fun j hj => (HO3.out.lt j hj).1))
        clear hown2 hg HO3 HR3 c0
        go_wp2_with fail
        go_roundw
        case rel => exact ⟨k + 1, d + 1, by omega, by omega, by go_num, HO4, HB4⟩
        case measure => simp [intOf]; omega
    · obtain rfl : k = nw := by omega
      have hO := HO.out
      rw [List.take_of_length_le (by omega), HX.out, but_ids, ← HS2.out] at hO
      obtain ⟨A2, q2, e2, hr2, _⟩ := Row.of_own' hO
      injection e2 with e21 _ e22
      subst e21 e22
      have R2 := Lib.hid hr2
      have C8 := Lib.hid (C7.out.step HB.out)
      have R8 := Lib.hid (R7.out.below HB.out)
      have hIn := in_any Aw k dw X (1 + m) wr wr.heap.size (Lib.hid hlw) (by omega) (RW7.out.below HB.out).row
      rw [show Tp.has X (1 + m) = T by unfold Tp.has; rw [HX.out, Kp.has_contains, ← HT.out]] at hIn
      have HI := Lib.hid hIn
      have htt : (T == T) = true := by simp
      clear hO hr2 hlt hIn HO hk
      go_wp2_with fail
      refine HI.out.mono ?_
      rintro e w8 ⟨rfl, rfl⟩
      clear HI
      go_wp2_with fail
      refine (ints_row A7 A1 _ _ _ _ _ _ _ rfl R8.out R2.out).mono ?_
      rintro e w9 ⟨rfl, hb9⟩
      have C9 := Lib.hid (C8.out.step hb9)
      clear hb9 C8 R8 R2 C7 R7 RW7 HB
      go_wp2_with fail
      refine (co_asleep C9.out).mono ?_
      rintro e w10 ⟨⟨A10, n10, d10, rfl, hr10, _⟩, h10, _⟩
      obtain rfl : n10 = 0 := hr10.len.symm
      have BE := Lib.hid h10.below
      clear hr10 h10 C9
      go_wp2_with fail
      go_ret
      exact ⟨rfl, BE.out⟩
set_option maxRecDepth 100000 in
theorem lifted (os : Os) (started : os.Started) (H : Type) (enc : TypeId × Value → H) :
    ReturnsInHanded {} Try.checked os 7 .any (Rows.clockStillSpec.pre6 enc Try.prog Try.f7 Rows.clockStillRow.domain false) (Rows.clockStillSpec.post enc Try.prog Try.f7 false true false false) := by
  refine returnsInHanded_of_change (C := Try.checked) own started (by kernel_rfl) Try.func7
    (ChangeSpec.witness6 (enc := enc) (C := Try.checked) false ⟨#[], #[.slice none 0 0, .int .u8 0, .int .u8 0], []⟩ 8 (by kernel_rfl) (by kernel_rfl) (by kernel_rfl) (by kernel_rfl)) ?_
  intro W base args ds gs before hval0 hW hcnd _
  have hval : ∀ (j : Nat) t v, Try.f7.params[j]? = some t → args[j]? = some v → Value.okWide Try.prog W .any base t v := hval0
  have hW' := hW
  obtain ⟨p, q, hA0, hV, rfl, hfz, hnd⟩ := hW
  have hA : DataW.TrodAll enc Try.prog W 0 (fun _ => true) true Try.f7.params.toList args.toList ds p := hA0
  rw [Try.params7] at hA hval
  obtain ⟨v0, vs0, d0, ds0, p0, q0, hargs, rfl, rfl, h0, r0⟩ := trodAll_cons hA
  obtain ⟨v1, vs1, d1, ds1, p1, q1, rfl, rfl, rfl, h1, r1⟩ := trodAll_cons r0
  obtain ⟨v2, vs2, d2, ds2, p2, q2, rfl, rfl, rfl, h2, r2⟩ := trodAll_cons r1
  obtain ⟨rfl, rfl, rfl⟩ := trodAll_nil r2
  obtain rfl : args = #[v0, v1, v2] := by cases args; simp_all
  obtain ⟨rfl, rfl⟩ := trodVars_none hV
  have k0 := h0
  have lt0 : ∀ x ∈ p0, x.block < W.heap.size := by obtain ⟨m, hm⟩ := k0; exact DataW.trod_lt m _ _ _ hm
  obtain ⟨a0, len0, cap0, rfl⟩ := okWide_slice Try.underlying52 (hval 0 52 v0 rfl rfl)
  obtain ⟨aa0, ll0, cc0, z0, ev0, hn0, hr0⟩ : ∃ A n c zs, Value.slice a0 len0 cap0 = .slice A n c ∧ (zs.length = n ∧ n ≤ 9223372036854775807) ∧ BRow W A zs := by
    obtain ⟨fuel, hf⟩ := h0
    exact open_bytes (by simpa [Value.cells] using hf)
  injection ev0 with ea0 eb0 ec0
  subst ea0 eb0 ec0
  obtain ⟨a1, rfl, rfl, rfl, w1⟩ := open_int Try.underlying5 (hval 1 5 v1 rfl rfl) h1
  obtain ⟨a2, rfl, rfl, rfl, w2⟩ := open_int Try.underlying5 (hval 2 5 v2 rfl rfl) h2
  clear hA0 hval0
  refine (walk a0 len0 cap0 z0 a1 a2 W (Lib.hid hn0.1) hn0.2 hr0 w1 w2).mono fun e W' ⟨he, bel⟩ => ?_
  subst he
  exact ⟨_, rfl, _, _, _, [], _, [], hW', trodAll_mk1 (shut_bool Try.underlying4 _), (trodAll_cons_mk (Below.trod laidOut (by kernel_rfl) (of_decide_eq_true (by kernel_rfl)) k0 bel lt0) (trodAll_cons_mk (shut_int Try.underlying5 w1) (trodAll_cons_mk (shut_int Try.underlying5 w2) trodAll_mk0))), rfl, bel.frame _, fun h => by cases h⟩
theorem over : Rows.clockStillRow.holds Try.pinned (OpenSpec.ofChange Rows.clockStillSpec) :=
  OpenClaim.holds_of_wide 7 Try.f7 rfl rfl rfl rfl rfl rfl rfl ⟨rfl, rfl, rfl, rfl, rfl⟩ rfl rfl rfl rfl rfl (by kernel_rfl) Try.func7 (by kernel_rfl)
    (of_decide_eq_true (by kernel_rfl)) (by unfold Func.isWrapper; first | (rw [if_pos (by decide +kernel)]; kernel_rfl) | (rw [if_neg (by decide +kernel)]; exact ⟨rfl, rfl⟩))
    (fun os started H enc _ => lifted os started H enc)
theorem proved : Rows.ClockStillSaid := over
end Go.Proofs.Ytgknbjiocgcmdaa.clockStill

