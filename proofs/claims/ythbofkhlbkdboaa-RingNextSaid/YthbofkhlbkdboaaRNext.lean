/- RingNext: who is put is next; who was is the last of the row, or the last that is told: the call answers true and changes nothing that was there; for every input. -/
import Derived.Test.YthbofkhlbkdboaaRCel
namespace Go.Proofs.Ythbofkhlbkdboaa.ringNext
open Go.ChangeShapes Go.WideShapes Go.ChangeAt Go.RowKit
set_option linter.unusedVariables false

set_option maxHeartbeats 4000000 in
set_option maxRecDepth 100000 in
theorem walk (x : Int) (A : Option Addr) (n c : Nat) (zs : List Int) (g s : Int) (w : World) (h : Row w A n c zs) :
    Calls Try.prog 8 #[.agg #[.int .i64 x, .slice A n c], .int .i64 g, .int .i64 s] w fun e w' => e = .returned (.bool true) ∧ Below w.heap.size w w' := by
  have H := Lib.hid h
  have hlen := Lib.hid h.len
  have P0 := Lib.hid (Cel.new w (.int .i64 x) (.slice A n c) 24)
  have B0 := Lib.hid (below_new w (.cells #[.int .i64 x, .slice A n c] 24))
  clear h
  go_enter Try.func8, Try.ntmps8
  go_wp2_with fail
  refine (shown_any _).mono ?_
  rintro e w1 ⟨rfl, hb1⟩
  have B1 := Lib.hid (B0.out.trans (hb1.mono B0.out.size))
  have P1 := Lib.hid (P0.out.step hb1)
  have p0 := P1.out.c0
  have p1 := P1.out.c1
  clear hb1 B0 P0
  by_cases h200 : 200 < n
  · have i1 : (200 : Int) < (n : Int) := by omega
    have i2 : decide ((200 : Int) < (n : Int)) = true := by simpa using i1
    go_wp2_with fail
    go_ret
    exact ⟨rfl, B1.out⟩
  · have i1 : ¬ (200 : Int) < (n : Int) := by omega
    have i2 : decide ((200 : Int) < (n : Int)) = false := by simpa using i1
    have h3 : n ≤ 200 := by omega
    by_cases hg : g = 0
    · have i3 : (g == 0) = true := by simpa using hg
      subst hg
      go_wp2_with fail
      go_ret
      exact ⟨rfl, B1.out⟩
    · have i3 : (g == 0) = false := by rw [beq_eq_false_iff_ne]; exact hg
      go_wp2_with fail
      refine (made_any x A n c zs _ (H.out.below B1.out) (by omega)).mono ?_
      rintro e w2 ⟨A2, n2, c2, rfl, hr2, hb2⟩
      obtain rfl : n = n2 := by have h1 : zs.length = n2 := hr2.len; have h2 := hlen.out; omega
      have B2 := Lib.hid (B1.out.trans (hb2.mono B1.out.size))
      have P2 := Lib.hid (P1.out.step hb2)
      have R2 := Lib.hid hr2
      clear hr2 hb2 p0 p1
      go_wp2_with fail
      refine (put_any x A2 n c2 zs g s _ R2.out (by omega)).mono ?_
      rintro e w3 ⟨A3, n3, c3, B3', m3, d3, rfl, hr3, hf3, hq3, hgf3, hb3⟩
      by_cases hx : x = 0
      · subst hx
        rw [show Rp.put (0, zs) g s = ((g, zs), []) from rfl] at hr3 hq3 ⊢
        obtain rfl : n = n3 := by have h1 : zs.length = n3 := hr3.len; have h2 := hlen.out; omega
        obtain rfl : 0 = m3 := hq3.len
        have C3 := Lib.hid (Cel.new w3 (.int .i64 g) (.slice A3 n c3) 26)
        have P3 := Lib.hid ((P2.out.step hb3).alloc (.cells #[.int .i64 g, .slice A3 n c3] 26))
        have R3 := Lib.hid (hr3.below_alloc (.cells #[.int .i64 g, .slice A3 n c3] 26))
        have Q3 := Lib.hid (hq3.below_alloc (.cells #[.int .i64 g, .slice A3 n c3] 26))
        have B3 := Lib.hid ((B2.out.trans (hb3.mono B2.out.size)).alloc (Nat.le_trans B2.out.size hb3.size) (.cells #[.int .i64 g, .slice A3 n c3] 26))
        clear hr3 hq3 hb3
        go_wp2_with fail
        refine (take_any g A3 n c3 zs _ R3.out (by omega)).mono ?_
        rintro e w4 ⟨A4, n4, c4, rfl, hr4, hf4, hb4⟩
        rw [show Rp.take (g, zs) = ((0, zs), g) by unfold Rp.take; rw [if_neg hg]] at hr4 ⊢
        have hbn := below_new w4 (.cells #[.int .i64 0, .slice A4 n4 c4] 26)
        have hb44 := hb4.trans (hbn.mono hb4.size)
        have C4 := C3.out.step hb44
        have P4 := P3.out.step hb44
        have R4 := Lib.hid (R3.out.below hb44)
        have Q4 := Lib.hid (Q3.out.below hb44)
        have B4 := Lib.hid (B3.out.trans (hb44.mono B3.out.size))
        have g0 := C4.c0
        have g1 := C4.c1
        have g2 := P4.c0
        have g3 := P4.c1
        have z1 : (g != g) = false := by simp
        clear hr4 hf4 hb4 hbn hb44 C4 P4
        go_wp2_with fail
        refine (ints_row _ _ _ _ _ _ zs zs _ rfl R4.out (H.out.below B4.out)).mono ?_
        rintro e w5 ⟨rfl, hb5⟩
        go_wp2_with fail
        go_ret
        exact ⟨rfl, B4.out.trans (hb5.mono B4.out.size)⟩
      · have x1 : (x == 0) = false := by rw [beq_eq_false_iff_ne]; exact hx
        by_cases hsz : n < Rp.sz s
        · rw [show Rp.put (x, zs) g s = ((g, zs ++ [x]), []) by unfold Rp.put Rp.add; rw [if_neg hx, if_pos (by rw [hlen.out]; exact hsz)]] at hr3 hq3 ⊢
          obtain rfl : n + 1 = n3 := by have h1 : (zs ++ [x]).length = n3 := hr3.len; have h2 := hlen.out; rw [List.length_append, h2] at h1; exact h1
          obtain rfl : 0 = m3 := hq3.len
          have C3 := Lib.hid (Cel.new w3 (.int .i64 g) (.slice A3 (n + 1) c3) 26)
          have P3 := Lib.hid ((P2.out.step hb3).alloc (.cells #[.int .i64 g, .slice A3 (n + 1) c3] 26))
          have R3 := Lib.hid (hr3.below_alloc (.cells #[.int .i64 g, .slice A3 (n + 1) c3] 26))
          have Q3 := Lib.hid (hq3.below_alloc (.cells #[.int .i64 g, .slice A3 (n + 1) c3] 26))
          have B3 := Lib.hid ((B2.out.trans (hb3.mono B2.out.size)).alloc (Nat.le_trans B2.out.size hb3.size) (.cells #[.int .i64 g, .slice A3 (n + 1) c3] 26))
          clear hr3 hq3 hb3
          go_wp2_with fail
          refine (take_any g A3 (n + 1) c3 (zs ++ [x]) _ R3.out (by omega)).mono ?_
          rintro e w4 ⟨A4, n4, c4, rfl, hr4, hf4, hb4⟩
          rw [show Rp.take (g, (zs ++ [x])) = ((0, (zs ++ [x])), g) by unfold Rp.take; rw [if_neg hg]] at hr4 ⊢
          have hbn := below_new w4 (.cells #[.int .i64 0, .slice A4 n4 c4] 26)
          have hb44 := hb4.trans (hbn.mono hb4.size)
          have C4 := C3.out.step hb44
          have P4 := P3.out.step hb44
          have R4 := Lib.hid (R3.out.below hb44)
          have Q4 := Lib.hid (Q3.out.below hb44)
          have B4 := Lib.hid (B3.out.trans (hb44.mono B3.out.size))
          have g0 := C4.c0
          have g1 := C4.c1
          have g2 := P4.c0
          have g3 := P4.c1
          have z1 : (g != g) = false := by simp
          clear hr4 hf4 hb4 hbn hb44 C4 P4
          obtain ⟨b, off, hA, hbk, hcs⟩ := R4.out.cells (by omega)
          subst hA
          have hc := hcs n x (by rw [List.getElem?_append_right (by rw [hlen.out]; exact Nat.le_refl _), hlen.out]; simp)
          have s1 : IntKind.i64.wrap ((n : Int) + 1) = (n : Int) + 1 := IntWalk.i64_in _ (by omega)
          have s2 : IntKind.i64.wrap ((n : Int) + 1 - 1) = (n : Int) := by rw [IntWalk.i64_in _ (by omega)]; omega
          have s3 : (0 : Int) ≤ (n : Int) := by omega
          have s4 : (n : Int) < (n : Int) + 1 := by omega
          clear hcs
          go_wp2_with fail
          go_quiet (fail)
          go_wp2_with fail
          go_ret
          exact ⟨rfl, below_drewN B4.out _⟩
        · have h2z := Rp.sz_two s
          obtain ⟨q, hq⟩ : ∃ q, q = Rp.sz s / 2 := ⟨_, rfl⟩
          have hqn : q ≤ n := by omega
          have hq1 : 1 ≤ q := by omega
          rw [show Rp.put (x, zs) g s = ((g, zs.drop q), zs.take q ++ [x]) by unfold Rp.put Rp.add; rw [if_neg hx, if_neg (by rw [hlen.out]; exact hsz), hq]] at hr3 hq3 ⊢
          obtain rfl : n - q = n3 := by have h1 : (zs.drop q).length = n3 := hr3.len; have h2 := hlen.out; rw [List.length_drop, h2] at h1; exact h1
          obtain rfl : q + 1 = m3 := by have h1 : (zs.take q ++ [x]).length = m3 := hq3.len; have h2 := hlen.out; rw [List.length_append, List.length_take, h2] at h1; simp at h1; omega
          clear hq h2z hsz
          have C3 := Lib.hid (Cel.new w3 (.int .i64 g) (.slice A3 (n - q) c3) 26)
          have P3 := Lib.hid ((P2.out.step hb3).alloc (.cells #[.int .i64 g, .slice A3 (n - q) c3] 26))
          have R3 := Lib.hid (hr3.below_alloc (.cells #[.int .i64 g, .slice A3 (n - q) c3] 26))
          have Q3 := Lib.hid (hq3.below_alloc (.cells #[.int .i64 g, .slice A3 (n - q) c3] 26))
          have B3 := Lib.hid ((B2.out.trans (hb3.mono B2.out.size)).alloc (Nat.le_trans B2.out.size hb3.size) (.cells #[.int .i64 g, .slice A3 (n - q) c3] 26))
          clear hr3 hq3 hb3
          go_wp2_with fail
          refine (take_any g A3 (n - q) c3 (zs.drop q) _ R3.out (by omega)).mono ?_
          rintro e w4 ⟨A4, n4, c4, rfl, hr4, hf4, hb4⟩
          rw [show Rp.take (g, (zs.drop q)) = ((0, (zs.drop q)), g) by unfold Rp.take; rw [if_neg hg]] at hr4 ⊢
          have hbn := below_new w4 (.cells #[.int .i64 0, .slice A4 n4 c4] 26)
          have hb44 := hb4.trans (hbn.mono hb4.size)
          have C4 := C3.out.step hb44
          have P4 := P3.out.step hb44
          have R4 := Lib.hid (R3.out.below hb44)
          have Q4 := Lib.hid (Q3.out.below hb44)
          have B4 := Lib.hid (B3.out.trans (hb44.mono B3.out.size))
          have g0 := C4.c0
          have g1 := C4.c1
          have g2 := P4.c0
          have g3 := P4.c1
          have z1 : (g != g) = false := by simp
          clear hr4 hf4 hb4 hbn hb44 C4 P4
          obtain ⟨b, off, hA, hbk, hcs⟩ := Q4.out.cells (by omega)
          subst hA
          have hc := hcs q x (by rw [List.getElem?_append_right (by rw [List.length_take, hlen.out]; omega), List.length_take, hlen.out, Nat.min_eq_left hqn, Nat.sub_self]; rfl)
          have s1 : IntKind.i64.wrap ((q : Int) + 1) = (q : Int) + 1 := IntWalk.i64_in _ (by omega)
          have s2 : IntKind.i64.wrap ((q : Int) + 1 - 1) = (q : Int) := by rw [IntWalk.i64_in _ (by omega)]; omega
          have s3 : (0 : Int) ≤ (q : Int) := by omega
          have s4 : (q : Int) < (q : Int) + 1 := by omega
          have s5 : (0 : Int) < (q : Int) + 1 := by omega
          have s6 : ((n - q : Nat) : Int) < (n : Int) := by omega
          have s7 : n - q < n := by omega
          clear hcs
          go_wp2_with fail
          go_quiet (fail)
          go_wp2_with fail
          go_ret
          exact ⟨rfl, below_drewN B4.out _⟩
set_option maxRecDepth 100000 in
theorem lifted (os : Os) (started : os.Started) (H : Type) (enc : TypeId × Value → H) :
    ReturnsInHanded {} Try.checked os 8 .any (Rows.ringNextSpec.pre6 enc Try.prog Try.f8 Rows.ringNextRow.domain false) (Rows.ringNextSpec.post enc Try.prog Try.f8 false true false false) := by
  refine returnsInHanded_of_change (C := Try.checked) own started (by kernel_rfl) Try.func8
    (ChangeSpec.witness6 (enc := enc) (C := Try.checked) false ⟨#[], #[.agg #[.int .i64 0, .slice none 0 0], .int .i64 0, .int .i64 0], []⟩ 8 (by kernel_rfl) (by kernel_rfl) (by kernel_rfl) (by kernel_rfl)) ?_
  intro W base args ds gs before hval0 hW hcnd _
  have hval : ∀ (j : Nat) t v, Try.f8.params[j]? = some t → args[j]? = some v → Value.okWide Try.prog W .any base t v := hval0
  have hW' := hW
  obtain ⟨p, q, hA0, hV, rfl, hfz, hnd⟩ := hW
  have hA : DataW.TrodAll enc Try.prog W 0 (fun _ => true) true Try.f8.params.toList args.toList ds p := hA0
  rw [Try.params8] at hA hval
  obtain ⟨v0, vs0, d0, ds0, p0, q0, hargs, rfl, rfl, h0, r0⟩ := trodAll_cons hA
  obtain ⟨v1, vs1, d1, ds1, p1, q1, rfl, rfl, rfl, h1, r1⟩ := trodAll_cons r0
  obtain ⟨v2, vs2, d2, ds2, p2, q2, rfl, rfl, rfl, h2, r2⟩ := trodAll_cons r1
  obtain ⟨rfl, rfl, rfl⟩ := trodAll_nil r2
  obtain rfl : args = #[v0, v1, v2] := by cases args; simp_all
  obtain ⟨rfl, rfl⟩ := trodVars_none hV
  have k0 := h0
  have lt0 : ∀ x ∈ p0, x.block < W.heap.size := by obtain ⟨m, hm⟩ := k0; exact DataW.trod_lt m _ _ _ hm
  obtain ⟨x0, a0, len0, cap0, z0, rfl, hr0⟩ := open_ring (hval 0 24 v0 rfl rfl) h0
  obtain ⟨a1, rfl, rfl, rfl, w1⟩ := open_int Try.underlying3 (hval 1 3 v1 rfl rfl) h1
  obtain ⟨a2, rfl, rfl, rfl, w2⟩ := open_int Try.underlying3 (hval 2 3 v2 rfl rfl) h2
  clear hA0 hval0
  refine (walk x0 a0 len0 cap0 z0 a1 a2 W hr0).mono fun e W' ⟨he, bel⟩ => ?_
  subst he
  exact ⟨_, rfl, _, _, _, [], _, [], hW', trodAll_mk1 (shut_bool Try.underlying4 _), (trodAll_cons_mk (Below.trod laidOut (by kernel_rfl) (of_decide_eq_true (by kernel_rfl)) k0 bel lt0) (trodAll_cons_mk (shut_int Try.underlying3 w1) (trodAll_cons_mk (shut_int Try.underlying3 w2) trodAll_mk0))), rfl, bel.frame _, fun h => by cases h⟩
theorem over : Rows.ringNextRow.holds Try.pinned (OpenSpec.ofChange Rows.ringNextSpec) :=
  OpenClaim.holds_of_wide 8 Try.f8 rfl rfl rfl rfl rfl rfl rfl ⟨rfl, rfl, rfl, rfl, rfl⟩ rfl rfl rfl rfl rfl (by kernel_rfl) Try.func8 (by kernel_rfl)
    (of_decide_eq_true (by kernel_rfl)) (by unfold Func.isWrapper; first | (rw [if_pos (by decide +kernel)]; kernel_rfl) | (rw [if_neg (by decide +kernel)]; exact ⟨rfl, rfl⟩))
    (fun os started H enc _ => lifted os started H enc)
theorem proved : Rows.RingNextSaid := over
end Go.Proofs.Ythbofkhlbkdboaa.ringNext

