/- CostZero: moves of nowhere cost nothing, wherever they stand: the call answers true and changes nothing that was there; for every input. -/
import Derived.Test.YtceboejhdgjgoaaGShown
import Derived.Test.YtceboejhdgjgoaaTwoRows
namespace Go.Proofs.Ytceboejhdgjgoaa.costZero
open Go.ChangeShapes Go.WideShapes Go.ChangeAt Go.RowKit
set_option linter.unusedVariables false

/-- What the loop has: the first so many ways, and those with some of nowhere among them. -/
structure Zr (w0 W : World) (va : Value) (na : Nat) (xs : List Int) (vb : Value) (nb : Nat) (ys : List Int) : Prop where
  ab : Ab w0.heap.size W va na xs vb nb ys
  sum : Gp.sum ys = Gp.sum xs
  fa : ∀ z ∈ xs, In64 z
  fb : ∀ z ∈ ys, In64 z
  below : Below w0.heap.size w0 W
theorem Zr.step {w0 W W' : World} {va vb : Value} {na nb : Nat} {xs ys : List Int} (h : Zr w0 W va na xs vb nb ys) (hb : Below W.heap.size W W') : Zr w0 W' va na xs vb nb ys := ⟨h.ab.step hb, h.sum, h.fa, h.fb, h.below.trans (hb.mono h.below.size)⟩
theorem Zr.zero {w0 W W' : World} {va vb vb' : Value} {na nb : Nat} {xs ys : List Int} {z : Int} (h : Zr w0 W va na xs vb nb ys) (hz : z < 1) (hz2 : In64 z) (hab : Ab w0.heap.size W' vb' (nb + 1) (ys ++ [z]) va na xs) (hg : W.grownBy W' vb.ownBlock) : Zr w0 W' va na xs vb' (nb + 1) (ys ++ [z]) :=
  ⟨hab.swap, by rw [Gp.sum_snoc, Gp.add_none hz, h.sum], h.fa, fun y hy => (List.mem_append.1 hy).elim (h.fb y) (fun e => by rw [List.mem_singleton] at e; subst e; exact hz2), h.below.grown hg h.below.size (fun k e => (h.ab.b.lt k e).1)⟩
theorem both {w0 W W1 W2 : World} {va vb va' vb' : Value} {na nb : Nat} {xs ys : List Int} {z : Int} (h : Zr w0 W va na xs vb nb ys) (hz : In64 z) (h1 : Ab w0.heap.size W1 va' (na + 1) (xs ++ [z]) vb nb ys) (g1 : W.grownBy W1 va.ownBlock) (hb : Below W1.heap.size W1 W2) {W3 : World} (h2 : Ab w0.heap.size W3 vb' (nb + 1) (ys ++ [z]) va' (na + 1) (xs ++ [z])) (g2 : W2.grownBy W3 vb.ownBlock) : Zr w0 W3 va' (na + 1) (xs ++ [z]) vb' (nb + 1) (ys ++ [z]) := by
  have b1 := h.below.grown g1 h.below.size (fun k e => (h.ab.a.lt k e).1)
  have b2 := b1.trans (hb.mono b1.size)
  exact ⟨h2.swap, by rw [Gp.sum_snoc, Gp.sum_snoc, h.sum], fun y hy => (List.mem_append.1 hy).elim (h.fa y) (fun e => by rw [List.mem_singleton] at e; subst e; exact hz), fun y hy => (List.mem_append.1 hy).elim (h.fb y) (fun e => by rw [List.mem_singleton] at e; subst e; exact hz), b2.grown g2 b2.size (fun k e => (h1.b.lt k e).1)⟩
set_option maxRecDepth 100000 in
set_option maxHeartbeats 2000000 in
theorem walk (A : Option Addr) (n c : Nat) (zs : List Int) (at' none' : Int) (w : World) (hn : Hid (zs.length = n)) (hl : n ≤ 9223372036854775807) (hr : WRow w A zs) (hu : (Lit.int .u8 at').wf = true) (hv : In64 none') :
    Calls Try.prog 7 #[.slice A n c, .int .u8 at', .int .i64 none'] w fun e w' => e = .returned (.bool true) ∧ Below w.heap.size w w' := by
  have hu' : 0 ≤ at' ∧ at' ≤ 255 := by simpa [Lit.wf, IntKind.min, IntKind.max, IntKind.signed, IntKind.bits] using hu
  obtain ⟨u0, u1⟩ := hu'
  have WR := Lib.hid hr
  have HZ := Lib.hid hr.words
  have HV := Lib.hid hv
  clear hr hu hv
  by_cases h300 : 300 < n
  · have h3 : (300 : Int) < (n : Int) := by omega
    go_enter Try.func7, Try.ntmps7
    go_wp2_with fail
    refine (shown_any _).mono ?_
    rintro e w1 ⟨rfl, hb1⟩
    go_wp2_with fail
    go_ret
    exact ⟨rfl, hb1⟩
  · have h3 : ¬ (300 : Int) < (n : Int) := by omega
    obtain ⟨k, hk⟩ : ∃ k : Int, k = at'.tmod ((n : Int) + 1) := ⟨_, rfl⟩
    have ek : at'.tmod ((n : Int) + 1) = k := hk.symm
    have hkb : 0 ≤ k ∧ k ≤ 300 := by
      rw [hk, Int.tmod_eq_emod_of_nonneg u0]
      have h1 := Int.emod_nonneg at' (show (n : Int) + 1 ≠ 0 by omega)
      have h2 := Int.emod_lt_of_pos at' (show 0 < (n : Int) + 1 by omega)
      omega
    have wn : IntKind.i64.wrap ((n : Int) + 1) = (n : Int) + 1 := IntWalk.i64_in _ (by omega)
    have wa : IntKind.i64.wrap at' = at' := IntWalk.i64_in _ (by omega)
    have wk : IntKind.i64.wrap k = k := IntWalk.i64_in _ (by omega)
    have hnz : ((n : Int) + 1 == 0) = false := by rw [beq_eq_false_iff_ne]; omega
    clear hk
    go_enter Try.func7, Try.ntmps7
    go_wp2_with fail
    refine (shown_any _).mono ?_
    rintro e w1 ⟨rfl, hb1⟩
    have B1 := Lib.hid hb1
    clear hb1
    go_wp2_with fail
    clear ek wn wa hnz
    have Z0 := Lib.hid (show Zr w1 w1 (.slice none 0 0) 0 [] (.slice none 0 0) 0 [] from ⟨Ab.none _ _, rfl, fun z hz => by simp at hz, fun z hz => by simp at hz, Below.refl _ _⟩)
    go_loopw [8, 9, 11] (fun va vb j wr => ∃ (i q : Nat) (ys : List Int), i ≤ n ∧ q ≤ 2 * i ∧ j = .int .i64 i ∧ Hid (Zr w1 wr va i (zs.take i) vb q ys)) (fun _ _ j _ => n - (intOf j).toNat)
    case atStart => exact ⟨0, 0, [], Nat.zero_le _, Nat.zero_le _, rfl, Z0⟩
    case round =>
      clear Z0
      obtain ⟨i, q, ys, hi, hq, rfl, Z⟩ := hrel
      by_cases hlt : i < n
      · obtain ⟨x, hx⟩ : ∃ x, zs[i]? = some x := ⟨_, List.getElem?_eq_getElem (by have := hn.out; omega)⟩
        have hxb := HZ.out x (List.mem_of_getElem? hx)
        have HX := Lib.hid hx
        obtain ⟨gb, go, rfl, _, _⟩ := WR.out i x hx
        have i0 : (0 : Int) ≤ (i : Int) := by omega
        have i1 : (i : Int) < (n : Int) := by omega
        have wx : IntKind.i64.wrap x = x := IntWalk.i64_in _ (by omega)
        clear hx
        by_cases hik : (i : Int) = k
        · have heq : ((i : Int) == k) = true := by rw [beq_iff_eq]; exact hik
          by_cases hz : 0 < none'
          · have hmin : min none' 0 = 0 := by omega
            clear hik
            have hbi := below_new wr (.cells #[.int .i64 0] 3)
            have Zi := Lib.hid (Z.out.step hbi)
            have Ri := Lib.hid (row_at wr 0 wr.heap.size rfl)
            have hsi := Zi.out.below.size
            obtain ⟨⟨Aa, ca, rfl⟩, Ab', cb, rfl⟩ := Z.out.ab.forms
            clear hbi
            go_wp2_with (first
              | (refine wpList_append_ab (by rfl) _ _ (by rfl) w1.heap.size (.slice Ab' q cb) q ys (.slice Aa i ca) i (zs.take i) Zi.out.ab.swap (by rfl) ⟨wr.heap.size, 0, none⟩ 1 1 [0] (by rfl) Ri.out (by omega) (by omega) (by exact Nat.le_trans hsi (by simp)) ?_; intro g4 q4 w4 hab4 hg4; have Z4 := Lib.hid (Zi.out.zero (by omega) (by unfold In64; omega) hab4 hg4); have hb5 := below_new w4 (.cells #[.int .i64 x] 3); have Z5 := Lib.hid (Z4.out.step hb5); have R5 := Lib.hid (row_at w4 x w4.heap.size rfl); have hs5 : w1.heap.size ≤ (w4.alloc (.cells #[.int .i64 x] 3)).heap.size := Z5.out.below.size; have c0 := (WR.out.below (B1.out.trans (Z4.out.below.mono B1.out.size))).at HX.out; clear hab4 hg4 hb5)
              | (refine wpList_append_ab (by rfl) _ _ (by rfl) w1.heap.size (.slice Aa i ca) i (zs.take i) (.slice (some ⟨g4, 0, none⟩) (q + 1) q4) (q + 1) (ys ++ [0]) Z5.out.ab (by rfl) ⟨w4.heap.size, 0, none⟩ 1 1 [x] (by rfl) R5.out (by omega) (by omega) hs5 ?_; intro g6 q6 w6 hab6 hg6; have hb7 := below_new w6 (.cells #[.int .i64 x] 3); have A7 := Lib.hid (hab6.step hb7); have R7 := Lib.hid (row_at w6 x w6.heap.size rfl); have b6 := Z5.out.below.grown hg6 Z5.out.below.size (fun k e => (Z5.out.ab.a.lt k e).1); have hs7 : w1.heap.size ≤ (w6.alloc (.cells #[.int .i64 x] 3)).heap.size := Nat.le_trans b6.size hb7.size; have d6 := (WR.out.below (B1.out.trans (b6.mono B1.out.size))).at HX.out; have H6 := Lib.hid hab6; have G6 := Lib.hid hg6; have HB7 := Lib.hid hb7; clear hab6 hg6 b6 hb7)
              | (refine wpList_append_ab (by rfl) _ _ (by rfl) w1.heap.size (.slice (some ⟨g4, 0, none⟩) (q + 1) q4) (q + 1) (ys ++ [0]) (.slice (some ⟨g6, 0, none⟩) (i + 1) q6) (i + 1) (zs.take i ++ [x]) A7.out.swap (by rfl) ⟨w6.heap.size, 0, none⟩ 1 1 [x] (by rfl) R7.out (by omega) (by omega) hs7 ?_; intro g8 q8 w8 hab8 hg8))
            have Z8 := Lib.hid (both Z5.out (by unfold In64; omega) H6.out G6.out HB7.out hab8 hg8)
            have HT := Lib.hid (show zs.take (i + 1) = zs.take i ++ [x] by rw [List.take_add_one, HX.out]; rfl)
            clear hab8 hg8 HB7 A7 R7 R5 Z5 H6 G6 d6 c0 Zi Ri
            go_wp2_with fail
            go_roundw
            case rel => exact ⟨i + 1, q + 1 + 1, _, by omega, by omega, by go_num, Lib.hid (by rw [HT.out]; exact Z8.out)⟩
            case measure => simp [intOf]; omega
          · have hmin : min none' 0 = none' := by omega
            clear hik
            have hbi := below_new wr (.cells #[.int .i64 none'] 3)
            have Zi := Lib.hid (Z.out.step hbi)
            have Ri := Lib.hid (row_at wr none' wr.heap.size rfl)
            have hsi := Zi.out.below.size
            obtain ⟨⟨Aa, ca, rfl⟩, Ab', cb, rfl⟩ := Z.out.ab.forms
            clear hbi
            go_wp2_with (first
              | (refine wpList_append_ab (by rfl) _ _ (by rfl) w1.heap.size (.slice Ab' q cb) q ys (.slice Aa i ca) i (zs.take i) Zi.out.ab.swap (by rfl) ⟨wr.heap.size, 0, none⟩ 1 1 [none'] (by rfl) Ri.out (by omega) (by omega) (by exact Nat.le_trans hsi (by simp)) ?_; intro g4 q4 w4 hab4 hg4; have Z4 := Lib.hid (Zi.out.zero (by omega) HV.out hab4 hg4); have hb5 := below_new w4 (.cells #[.int .i64 x] 3); have Z5 := Lib.hid (Z4.out.step hb5); have R5 := Lib.hid (row_at w4 x w4.heap.size rfl); have hs5 : w1.heap.size ≤ (w4.alloc (.cells #[.int .i64 x] 3)).heap.size := Z5.out.below.size; have c0 := (WR.out.below (B1.out.trans (Z4.out.below.mono B1.out.size))).at HX.out; clear hab4 hg4 hb5)
              | (refine wpList_append_ab (by rfl) _ _ (by rfl) w1.heap.size (.slice Aa i ca) i (zs.take i) (.slice (some ⟨g4, 0, none⟩) (q + 1) q4) (q + 1) (ys ++ [none']) Z5.out.ab (by rfl) ⟨w4.heap.size, 0, none⟩ 1 1 [x] (by rfl) R5.out (by omega) (by omega) hs5 ?_; intro g6 q6 w6 hab6 hg6; have hb7 := below_new w6 (.cells #[.int .i64 x] 3); have A7 := Lib.hid (hab6.step hb7); have R7 := Lib.hid (row_at w6 x w6.heap.size rfl); have b6 := Z5.out.below.grown hg6 Z5.out.below.size (fun k e => (Z5.out.ab.a.lt k e).1); have hs7 : w1.heap.size ≤ (w6.alloc (.cells #[.int .i64 x] 3)).heap.size := Nat.le_trans b6.size hb7.size; have d6 := (WR.out.below (B1.out.trans (b6.mono B1.out.size))).at HX.out; have H6 := Lib.hid hab6; have G6 := Lib.hid hg6; have HB7 := Lib.hid hb7; clear hab6 hg6 b6 hb7)
              | (refine wpList_append_ab (by rfl) _ _ (by rfl) w1.heap.size (.slice (some ⟨g4, 0, none⟩) (q + 1) q4) (q + 1) (ys ++ [none']) (.slice (some ⟨g6, 0, none⟩) (i + 1) q6) (i + 1) (zs.take i ++ [x]) A7.out.swap (by rfl) ⟨w6.heap.size, 0, none⟩ 1 1 [x] (by rfl) R7.out (by omega) (by omega) hs7 ?_; intro g8 q8 w8 hab8 hg8))
            have Z8 := Lib.hid (both Z5.out (by unfold In64; omega) H6.out G6.out HB7.out hab8 hg8)
            have HT := Lib.hid (show zs.take (i + 1) = zs.take i ++ [x] by rw [List.take_add_one, HX.out]; rfl)
            clear hab8 hg8 HB7 A7 R7 R5 Z5 H6 G6 d6 c0 Zi Ri
            go_wp2_with fail
            go_roundw
            case rel => exact ⟨i + 1, q + 1 + 1, _, by omega, by omega, by go_num, Lib.hid (by rw [HT.out]; exact Z8.out)⟩
            case measure => simp [intOf]; omega
        · have hne : ((i : Int) == k) = false := by rw [beq_eq_false_iff_ne]; exact hik
          have c0 := (WR.out.below (B1.out.trans (Z.out.below.mono B1.out.size))).at HX.out
          have hb5 := below_new wr (.cells #[.int .i64 x] 3)
          have Z5 := Lib.hid (Z.out.step hb5)
          have R5 := Lib.hid (row_at wr x wr.heap.size rfl)
          have hs5 := Z5.out.below.size
          obtain ⟨⟨Aa, ca, rfl⟩, Ab', cb, rfl⟩ := Z.out.ab.forms
          clear hb5
          go_wp2_with (first
            | (refine wpList_append_ab (by rfl) _ _ (by rfl) w1.heap.size (.slice Aa i ca) i (zs.take i) (.slice Ab' q cb) q ys Z5.out.ab (by rfl) ⟨wr.heap.size, 0, none⟩ 1 1 [x] (by rfl) R5.out (by omega) (by omega) (by exact Nat.le_trans hs5 (by simp)) ?_; intro g6 q6 w6 hab6 hg6; have hb7 := below_new w6 (.cells #[.int .i64 x] 3); have A7 := Lib.hid (hab6.step hb7); have R7 := Lib.hid (row_at w6 x w6.heap.size rfl); have b6 := Z5.out.below.grown hg6 Z5.out.below.size (fun k e => (Z5.out.ab.a.lt k e).1); have hs7 : w1.heap.size ≤ (w6.alloc (.cells #[.int .i64 x] 3)).heap.size := Nat.le_trans b6.size hb7.size; have d6 := (WR.out.below (B1.out.trans (b6.mono B1.out.size))).at HX.out; have H6 := Lib.hid hab6; have G6 := Lib.hid hg6; have HB7 := Lib.hid hb7; clear hab6 hg6 b6 hb7)
            | (refine wpList_append_ab (by rfl) _ _ (by rfl) w1.heap.size (.slice Ab' q cb) q ys (.slice (some ⟨g6, 0, none⟩) (i + 1) q6) (i + 1) (zs.take i ++ [x]) A7.out.swap (by rfl) ⟨w6.heap.size, 0, none⟩ 1 1 [x] (by rfl) R7.out (by omega) (by omega) hs7 ?_; intro g8 q8 w8 hab8 hg8))
          have Z8 := Lib.hid (both Z5.out (by unfold In64; omega) H6.out G6.out HB7.out hab8 hg8)
          have HT := Lib.hid (show zs.take (i + 1) = zs.take i ++ [x] by rw [List.take_add_one, HX.out]; rfl)
          clear hab8 hg8 HB7 A7 R7 R5 Z5 H6 G6 d6 c0
          go_wp2_with fail
          go_roundw
          case rel => exact ⟨i + 1, q + 1, _, by omega, by omega, by go_num, Lib.hid (by rw [HT.out]; exact Z8.out)⟩
          case measure => simp [intOf]; omega
      · obtain rfl : i = n := by omega
        have hZ := Z.out
        rw [List.take_of_length_le (by have := hn.out; omega)] at hZ
        obtain ⟨A1, q1, rfl, hr1, _⟩ := Row.of_own' hZ.ab.a
        obtain ⟨A2, q2, rfl, hr2, _⟩ := Row.of_own' hZ.ab.b
        have R1 := Lib.hid hr1
        have R2 := Lib.hid hr2
        have HB := Lib.hid (B1.out.trans (hZ.below.mono B1.out.size))
        have hS1 := sum_any A1 i q1 zs wr hr1 (Lib.hid hZ.fa)
        have hS2 := fun W (h : Row W A2 q q2 ys) => sum_any A2 q q2 ys W h (Lib.hid hZ.fb)
        rw [hZ.sum] at hS2
        obtain ⟨⟨f, g⟩, hfg⟩ : ∃ fg, fg = Gp.sum zs := ⟨_, rfl⟩
        rw [← hfg] at hS1 hS2
        unfold TellC cv at hS1 hS2
        simp only at hS1 hS2
        have HS1 := Lib.hid hS1
        have HS2 := Lib.hid hS2
        have HE := Lib.hid (fun W => eql_one (f, g) W)
        have hE1 : ∀ W, (binOp .eql 25 (.agg #[.int .i64 f, .int .i64 g]) (.agg #[.int .i64 f, .int .i64 g])).run Try.prog W = .ok (.bool true) W := fun W => eql_one (f, g) W
        have hE2 : ∀ W, (binOp .eql 25 (.agg #[.int .i64 0, .int .i64 0]) (.agg #[.int .i64 0, .int .i64 0])).run Try.prog W = .ok (.bool true) W := fun W => eql_one (0, 0) W
        have HS3 := Lib.hid (fun W => sum_any none 0 0 [] W (Row.nothing W) (Lib.hid (fun z hz => by simp at hz)))
        clear hZ hr1 hr2 hS1 hS2 hfg Z HE hlt hi
        go_wp2_with fail
        refine HS1.out.mono ?_
        rintro e w3 ⟨rfl, hb3⟩
        have R3 := Lib.hid (R2.out.below hb3)
        have B3 := Lib.hid (HB.out.trans (hb3.mono HB.out.size))
        clear hb3 HS1 R1 R2 HB
        go_wp2_with fail
        refine (HS2.out _ R3.out).mono ?_
        rintro e w4 ⟨rfl, hb4⟩
        have B4 := Lib.hid (B3.out.trans (hb4.mono B3.out.size))
        clear hb4 B3 HS2 R3
        go_wp2_with fail
        refine (HS3.out _).mono ?_
        rintro e w5 ⟨rfl, hb5⟩
        rw [show cv (Gp.sum []) = .agg #[.int .i64 0, .int .i64 0] from rfl]
        have B5 := Lib.hid (B4.out.trans (hb5.mono B4.out.size))
        clear hb5 B4 HS3
        go_wp2_with fail
        go_ret
        exact ⟨rfl, B5.out⟩
set_option maxRecDepth 100000 in
theorem lifted (os : Os) (started : os.Started) (H : Type) (enc : TypeId × Value → H) :
    ReturnsInHanded {} Try.checked os 7 .any (Rows.costZeroSpec.pre6 enc Try.prog Try.f7 Rows.costZeroRow.domain false) (Rows.costZeroSpec.post enc Try.prog Try.f7 false true false false) := by
  refine returnsInHanded_of_change (C := Try.checked) own started (by kernel_rfl) Try.func7
    (ChangeSpec.witness6 (enc := enc) (C := Try.checked) false ⟨#[], #[.slice none 0 0, .int .u8 0, .int .i64 0], []⟩ 8 (by kernel_rfl) (by kernel_rfl) (by kernel_rfl) (by kernel_rfl)) ?_
  intro W base args ds gs before hval0 hW hcnd _
  have hval : ∀ (j : Nat) t v, Try.f7.params[j]? = some t → args[j]? = some v → Value.okWide Try.prog W .any base t v := hval0
  have hW' := hW
  obtain ⟨p, q, hA0, hV, rfl, hfz, hnd⟩ := hW
  have hA : DataW.TrodAll enc Try.prog W 0 (fun _ => true) true Try.f7.params.toList args.toList ds p := hA0
  rw [Try.params7] at hA hval
  obtain ⟨v0, vs0, d0, ds0, p0, q0, hargs, rfl, rfl, h0, r0⟩ := trodAll_cons hA
  obtain ⟨v1, vs1, d1, ds1, p1, q1, rfl, rfl, rfl, h1, r1⟩ := trodAll_cons r0
  obtain ⟨v2, vs2, d2, ds2, p2, q2, rfl, rfl, rfl, h2, r2⟩ := trodAll_cons r1
  obtain ⟨rfl, rfl, rfl⟩ := trodAll_nil r2
  obtain rfl : args = #[v0, v1, v2] := by cases args; simp_all
  obtain ⟨rfl, rfl⟩ := trodVars_none hV
  have k0 := h0
  have lt0 : ∀ x ∈ p0, x.block < W.heap.size := by obtain ⟨m, hm⟩ := k0; exact DataW.trod_lt m _ _ _ hm
  obtain ⟨a0, len0, cap0, rfl⟩ := okWide_slice Try.underlying34 (hval 0 34 v0 rfl rfl)
  obtain ⟨aa0, ll0, cc0, z0, ev0, hn0, hr0⟩ : ∃ A n c zs, Value.slice a0 len0 cap0 = .slice A n c ∧ (zs.length = n ∧ n ≤ 9223372036854775807) ∧ WRow W A zs := by
    obtain ⟨fuel, hf⟩ := h0
    exact open_words (by simpa [Value.cells] using hf)
  injection ev0 with ea0 eb0 ec0
  subst ea0 eb0 ec0
  obtain ⟨a1, rfl, rfl, rfl, w1⟩ := open_int Try.underlying5 (hval 1 5 v1 rfl rfl) h1
  obtain ⟨a2, rfl, rfl, rfl, w2⟩ := open_int Try.underlying3 (hval 2 3 v2 rfl rfl) h2
  clear hA0 hval0
  refine (walk a0 len0 cap0 z0 a1 a2 W (Lib.hid hn0.1) hn0.2 hr0 w1 (in64_of_wf w2)).mono fun e W' ⟨he, bel⟩ => ?_
  subst he
  exact ⟨_, rfl, _, _, _, [], _, [], hW', trodAll_mk1 (shut_bool Try.underlying4 _), (trodAll_cons_mk (Below.trod laidOut (by kernel_rfl) (of_decide_eq_true (by kernel_rfl)) k0 bel lt0) (trodAll_cons_mk (shut_int Try.underlying5 w1) (trodAll_cons_mk (shut_int Try.underlying3 w2) trodAll_mk0))), rfl, bel.frame _, fun h => by cases h⟩
theorem over : Rows.costZeroRow.holds Try.pinned (OpenSpec.ofChange Rows.costZeroSpec) :=
  OpenClaim.holds_of_wide 7 Try.f7 rfl rfl rfl rfl rfl rfl rfl ⟨rfl, rfl, rfl, rfl, rfl⟩ rfl rfl rfl rfl rfl (by kernel_rfl) Try.func7 (by kernel_rfl)
    (of_decide_eq_true (by kernel_rfl)) (by unfold Func.isWrapper; first | (rw [if_pos (by decide +kernel)]; kernel_rfl) | (rw [if_neg (by decide +kernel)]; exact ⟨rfl, rfl⟩))
    (fun os started H enc _ => lifted os started H enc)
theorem proved : Rows.CostZeroSaid := over
end Go.Proofs.Ytceboejhdgjgoaa.costZero

