/- RingTakes: taken one by one, all are told in turn, each time one fewer is there: the call answers true and changes nothing that was there; for every input. -/
import Derived.Test.YthbofkhlbkdboaaRCel
import Derived.Test.YthbofkhlbkdboaaRHalf
namespace Go.Proofs.Ythbofkhlbkdboaa.ringTakes
open Go.ChangeShapes Go.WideShapes Go.ChangeAt Go.RowKit
set_option linter.unusedVariables false

theorem has_mem {l : List Int} {z : Int} (h : Tp.has l z = false) : z ∉ l := by
  unfold Tp.has at h
  rw [← Bool.not_eq_true, List.contains_iff_mem] at h
  exact h
theorem all_nil {y : Int} {l : List Int} (h : Rp.all (y, l) = []) : y = 0 ∧ l = [] := by
  unfold Rp.all at h
  by_cases hy : y = 0
  · rw [if_pos hy] at h; exact ⟨hy, h⟩
  · rw [if_neg hy] at h; cases h
set_option maxHeartbeats 4000000 in
set_option maxRecDepth 100000 in
theorem walk (x : Int) (A : Option Addr) (n c : Nat) (zs : List Int) (w : World) (h : Row w A n c zs) :
    Calls Try.prog 9 #[.agg #[.int .i64 x, .slice A n c]] w fun e w' => e = .returned (.bool true) ∧ Below w.heap.size w w' := by
  have H := Lib.hid h
  have hlen := Lib.hid h.len
  have P0 := Lib.hid (Cel.new w (.int .i64 x) (.slice A n c) 24)
  have B0 := Lib.hid (below_new w (.cells #[.int .i64 x, .slice A n c] 24))
  clear h
  go_enter Try.func9, Try.ntmps9
  go_wp2_with fail
  refine (shown_any _).mono ?_
  rintro e w1 ⟨rfl, hb1⟩
  have B1 := Lib.hid (B0.out.trans (hb1.mono B0.out.size))
  have P1 := Lib.hid (P0.out.step hb1)
  have p0 := P1.out.c0
  have p1 := P1.out.c1
  clear hb1 B0 P0
  by_cases h200 : 200 < n
  · have i1 : (200 : Int) < (n : Int) := by omega
    have i2 : decide ((200 : Int) < (n : Int)) = true := by simpa using i1
    go_wp2_with fail
    go_ret
    exact ⟨rfl, B1.out⟩
  · have i1 : ¬ (200 : Int) < (n : Int) := by omega
    have i2 : decide ((200 : Int) < (n : Int)) = false := by simpa using i1
    have h3 : n ≤ 200 := by omega
    have HI := Lib.hid (in_any A n c zs 0 w1 w1.heap.size hlen (by omega) (H.out.below B1.out).row)
    cases hz : Tp.has zs 0
    · rw [hz] at HI
      have HZ := Lib.hid (has_mem hz)
      clear hz
      go_wp2_with fail
      refine HI.out.mono ?_
      rintro e w1' ⟨rfl, rfl⟩
      clear HI
      go_wp2_with fail
      refine (made_any x A n c zs _ (H.out.below B1.out) (by omega)).mono ?_
      rintro e w2 ⟨A2, n2, c2, rfl, hr2, hb2⟩
      have B2 := Lib.hid ((B1.out.trans (hb2.mono B1.out.size)).alloc (Nat.le_trans B1.out.size hb2.size) (.cells #[.int .i64 x, .slice A2 n2 c2] 26))
      have C2 := Lib.hid (Cel.new w2 (.int .i64 x) (.slice A2 n2 c2) 26)
      have R2 := Lib.hid (hr2.below_alloc (.cells #[.int .i64 x, .slice A2 n2 c2] 26))
      have hw2 : w.heap.size < w2.heap.size := Nat.lt_of_lt_of_le P1.out.lt hb2.size
      obtain rfl : n = n2 := by have h1 : zs.length = n2 := hr2.len; have h2 := hlen.out; omega
      obtain ⟨W, hW⟩ : ∃ W, W = Rp.all (x, zs) := ⟨_, rfl⟩
      have hWl : W.length ≤ 201 := by rw [hW]; have := Rp.all_length (x, zs); have := hlen.out; simp only at *; omega
      clear hr2 hb2 p0 p1
      go_wp2_with fail
      refine (all_any x A2 n c2 zs _ R2.out (by omega)).mono ?_
      rintro e w3 ⟨Aw, N, cw, rfl, hr3, hf3, hb3⟩
      rw [← hW] at hr3
      have B3 := Lib.hid (B2.out.trans (hb3.mono B2.out.size))
      have C3 := Lib.hid (C2.out.step hb3)
      have R3 := Lib.hid (R2.out.below hb3)
      have RW := Lib.hid hr3
      have FW := Lib.hid (hf3.mono (show w2.heap.size + 1 ≤ (w2.alloc (.cells #[.int .i64 x, .slice A2 n c2] 26)).heap.size by simp))
      have hN : N ≤ 201 := by have := hr3.len; omega
      have HW0 := Lib.hid (show Rp.all (x, zs) = W.drop 0 by rw [hW]; rfl)
      have HL0 := Lib.hid (show zs.length ≤ 200 by have := hlen.out; omega)
      clear hr3 hf3 hb3 hW hWl
      go_wp2_with fail
      go_loopw [6] (fun i wr => ∃ (j : Nat) (y : Int) (Ar : Option Addr) (nr cr : Nat) (l : List Int), j ≤ N ∧ i = .int .i64 j ∧ Hid (Cel wr w2.heap.size (.int .i64 y) (.slice Ar nr cr)) ∧ Hid (Row wr Ar nr cr l) ∧ Hid (Rp.all (y, l) = W.drop j) ∧ Hid ((0 : Int) ∉ l) ∧ Hid (l.length ≤ 200) ∧ Hid (Row wr Aw N cw W) ∧ Hid (Below w.heap.size w wr)) (fun i _ => N - (intOf i).toNat)
      case atStart => exact ⟨0, x, A2, n, c2, zs, Nat.zero_le _, rfl, C3, R3, HW0, HZ, HL0, RW, B3⟩
      case round =>
        obtain ⟨j, y, Ar, nr, cr, l, hj, rfl, HC, HR, HA, H0, HL, HW, HB⟩ := hrel
        have g0 := HC.out.c0
        have g1 := HC.out.c1
        have hR := HC.out.lt
        have hnr : nr ≤ 200 := by have h2 := HR.out.len; have := HL.out; omega
        by_cases hlt : j < N
        · obtain ⟨z, hzj⟩ : ∃ z, W[j]? = some z := ⟨_, List.getElem?_eq_getElem (by rw [HW.out.len]; exact hlt)⟩
          obtain ⟨bw, ow, hAw, hbw, hcw⟩ := HW.out.cells (by omega)
          subst hAw
          have hck := hcw j z hzj
          obtain ⟨ta, tb, tc, td⟩ := Rp.take_all (y, l) H0.out
          have HAj := HA.out
          rw [HAj] at ta tb
          have ez : (Rp.take (y, l)).2 = z := by rw [ta, List.headD_eq_head?_getD, List.head?_drop, hzj]; rfl
          rw [List.drop_drop] at tb
          obtain ⟨y4, hy4⟩ : ∃ y4, y4 = (Rp.take (y, l)).1.1 := ⟨_, rfl⟩
          obtain ⟨l4, hl4⟩ : ∃ l4, l4 = (Rp.take (y, l)).1.2 := ⟨_, rfl⟩
          have e1 : (Rp.take (y, l)).1 = (y4, l4) := by rw [hy4, hl4]
          rw [e1] at tb tc td
          have TB := Lib.hid tb
          have TC := Lib.hid tc
          have TD := Lib.hid (Nat.le_trans td HL.out)
          have EZ := Lib.hid ez
          have E1 := Lib.hid e1
          clear ta tb tc td ez e1 hy4 hl4 hzj hcw HAj
          go_wp2_with fail
          refine (take_any y Ar nr cr l _ HR.out (by omega)).mono ?_
          rintro e w4 ⟨A4, n4, c4, rfl, hr4, hf4, hb4⟩
          rw [EZ.out, E1.out] at *
          have hn4 : n4 ≤ 200 := by have h2 := hr4.len; have := TD.out; simp only at h2; omega
          have hbn := below_new w4 (.cells #[.int .i64 y4, .slice A4 n4 c4] 26)
          have hck4 := keepcell hbn (keepcell hb4 hck)
          have HR4 := Lib.hid (hr4.below hbn)
          have HF4 := Lib.hid hf4
          have HC4 := Lib.hid ((HC.out.step hb4).step hbn)
          have HX4 := Lib.hid (Cel.new w4 (.int .i64 y4) (.slice A4 n4 c4) 26)
          have HW4 := Lib.hid ((HW.out.below hb4).below hbn)
          have HB4 := Lib.hid ((HB.out.trans (hb4.mono HB.out.size)).trans (hbn.mono (Nat.le_trans HB.out.size hb4.size)))
          have hs4 : wr.heap.size ≤ w4.heap.size := hb4.size
          have k0 : (0 : Int) ≤ (j : Int) := by omega
          have k1 : (j : Int) < (N : Int) := by omega
          have z1 : (z != z) = false := by simp
          clear hr4 hf4 hb4 hbn hck g0 g1
          go_wp2_with fail
          refine (all_any y4 A4 n4 c4 l4 _ HR4.out (by omega)).mono ?_
          rintro e w5 ⟨A5, n5, c5, rfl, hr5, _, hb5⟩
          have hn5 : (n5 : Int) = (N : Int) - (j : Int) - 1 := by have h1 := hr5.len; rw [TB.out, List.length_drop, HW.out.len] at h1; omega
          have HC5 := HC4.out.step hb5
          have HX5 := HX4.out.step hb5
          have q0 := HC5.c0
          have q1 := HC5.c1
          have q2 := HC5.f0
          have q3 := HC5.f1
          have r0 := HX5.c0
          have r1 := HX5.c1
          have C6 := Lib.hid (HC5.put (.int .i64 y4) (.slice A4 n4 c4))
          have R6 := Lib.hid ((HR4.out.below hb5).put (b := w2.heap.size) (u := .int .i64 y4) (v := .slice A4 n4 c4) (HF4.out.mono hR))
          have W6 := Lib.hid ((HW4.out.below hb5).put (b := w2.heap.size) (u := .int .i64 y4) (v := .slice A4 n4 c4) FW.out)
          have B6 := Lib.hid (below_put (b := w2.heap.size) (u := .int .i64 y4) (v := .slice A4 n4 c4) (HB4.out.trans (hb5.mono HB4.out.size)) (Nat.le_of_lt hw2))
          have s1 : IntKind.i64.wrap ((N : Int) - (j : Int)) = (N : Int) - (j : Int) := IntWalk.i64_in _ (by omega)
          have s2 : IntKind.i64.wrap ((N : Int) - (j : Int) - 1) = (N : Int) - (j : Int) - 1 := IntWalk.i64_in _ (by omega)
          have s3 : (((n5 : Int)) != ((N : Int) - (j : Int) - 1)) = false := by rw [hn5]; simp
          clear hr5 hb5 HC5 HX5 hn5 HR4 HF4 HC4 HX4 HW4 HB4 hck4 HC HR HA H0 HL HW HB
          go_wp2_with fail
          go_roundw
          case rel => exact ⟨j + 1, y4, A4, n4, c4, l4, by omega, by go_num, C6, R6, TB, TC, TD, W6, B6⟩
          case measure => simp [intOf]; omega
        · obtain rfl : j = N := by omega
          have hnil := HA.out
          rw [List.drop_of_length_le (by rw [HW.out.len]; exact Nat.le_refl _)] at hnil
          obtain ⟨hy, hl⟩ := all_nil hnil
          subst hy hl
          go_wp2_with fail
          refine (take_any 0 Ar nr cr [] _ HR.out (by omega)).mono ?_
          rintro e w4 ⟨A4, n4, c4, rfl, hr4, hf4, hb4⟩
          rw [show Rp.take (0, []) = ((0, []), 0) from rfl] at hr4 ⊢
          have HB4 := Lib.hid ((HB.out.trans (hb4.mono HB.out.size)).alloc (by have := hb4.size; have := HB.out.size; omega) (.cells #[.int .i64 0, .slice A4 n4 c4] 26))
          clear hr4 hf4 hb4
          go_wp2_with fail
          go_ret
          exact ⟨rfl, HB4.out⟩
    · rw [hz] at HI
      clear hz
      go_wp2_with fail
      refine HI.out.mono ?_
      rintro e w1' ⟨rfl, rfl⟩
      clear HI
      go_wp2_with fail
      go_ret
      exact ⟨rfl, B1.out⟩
set_option maxRecDepth 100000 in
theorem lifted (os : Os) (started : os.Started) (H : Type) (enc : TypeId × Value → H) :
    ReturnsInHanded {} Try.checked os 9 .any (Rows.ringTakesSpec.pre6 enc Try.prog Try.f9 Rows.ringTakesRow.domain false) (Rows.ringTakesSpec.post enc Try.prog Try.f9 false true false false) := by
  refine returnsInHanded_of_change (C := Try.checked) own started (by kernel_rfl) Try.func9
    (ChangeSpec.witness6 (enc := enc) (C := Try.checked) false ⟨#[], #[.agg #[.int .i64 0, .slice none 0 0]], []⟩ 8 (by kernel_rfl) (by kernel_rfl) (by kernel_rfl) (by kernel_rfl)) ?_
  intro W base args ds gs before hval0 hW hcnd _
  have hval : ∀ (j : Nat) t v, Try.f9.params[j]? = some t → args[j]? = some v → Value.okWide Try.prog W .any base t v := hval0
  have hW' := hW
  obtain ⟨p, q, hA0, hV, rfl, hfz, hnd⟩ := hW
  have hA : DataW.TrodAll enc Try.prog W 0 (fun _ => true) true Try.f9.params.toList args.toList ds p := hA0
  rw [Try.params9] at hA hval
  obtain ⟨v0, vs0, d0, ds0, p0, q0, hargs, rfl, rfl, h0, r0⟩ := trodAll_cons hA
  obtain ⟨rfl, rfl, rfl⟩ := trodAll_nil r0
  obtain rfl : args = #[v0] := by cases args; simp_all
  obtain ⟨rfl, rfl⟩ := trodVars_none hV
  have k0 := h0
  have lt0 : ∀ x ∈ p0, x.block < W.heap.size := by obtain ⟨m, hm⟩ := k0; exact DataW.trod_lt m _ _ _ hm
  obtain ⟨x0, a0, len0, cap0, z0, rfl, hr0⟩ := open_ring (hval 0 24 v0 rfl rfl) h0
  clear hA0 hval0
  refine (walk x0 a0 len0 cap0 z0 W hr0).mono fun e W' ⟨he, bel⟩ => ?_
  subst he
  exact ⟨_, rfl, _, _, _, [], _, [], hW', trodAll_mk1 (shut_bool Try.underlying4 _), (trodAll_cons_mk (Below.trod laidOut (by kernel_rfl) (of_decide_eq_true (by kernel_rfl)) k0 bel lt0) trodAll_mk0), rfl, bel.frame _, fun h => by cases h⟩
theorem over : Rows.ringTakesRow.holds Try.pinned (OpenSpec.ofChange Rows.ringTakesSpec) :=
  OpenClaim.holds_of_wide 9 Try.f9 rfl rfl rfl rfl rfl rfl rfl ⟨rfl, rfl, rfl, rfl, rfl⟩ rfl rfl rfl rfl rfl (by kernel_rfl) Try.func9 (by kernel_rfl)
    (of_decide_eq_true (by kernel_rfl)) (by unfold Func.isWrapper; first | (rw [if_pos (by decide +kernel)]; kernel_rfl) | (rw [if_neg (by decide +kernel)]; exact ⟨rfl, rfl⟩))
    (fun os started H enc _ => lifted os started H enc)
theorem proved : Rows.RingTakesSaid := over
end Go.Proofs.Ythbofkhlbkdboaa.ringTakes

