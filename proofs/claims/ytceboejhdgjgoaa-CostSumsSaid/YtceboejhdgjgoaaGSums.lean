/- CostSums: in whatever order moves come they cost the same; as long as it is below the greatest cost, all ways together, and as many as there were: the call answers true and changes nothing that was there; for every input. -/
import Derived.Test.YtceboejhdgjgoaaGShown
import Derived.Test.YtceboejhdgjgoaaTwoRows
import Derived.Deep.RegionHeld3
namespace Go.Proofs.Ytceboejhdgjgoaa.costSums
open Go.ChangeShapes Go.WideShapes Go.ChangeAt Go.RowKit
set_option linter.unusedVariables false

theorem held_trans {W9 W w' : World} (h : Below W9.heap.size W9 W) (hb : Below W.heap.size W w') : Below W9.heap.size W9 w' := h.trans (hb.mono h.size)
/-- What the loop has: the first so many ways, and as many of them in the other order. -/
structure Zs (w0 W : World) (va : Value) (na : Nat) (xs : List Int) (vb : Value) (ys : List Int) : Prop where
  ab : Ab w0.heap.size W va na xs vb na ys
  below : Below w0.heap.size w0 W
theorem Zs.step {w0 W W' : World} {va vb : Value} {na : Nat} {xs ys : List Int} (h : Zs w0 W va na xs vb ys) (hb : Below W.heap.size W W') : Zs w0 W' va na xs vb ys := ⟨h.ab.step hb, h.below.trans (hb.mono h.below.size)⟩
theorem both {w0 W W1 W2 : World} {va vb va' vb' : Value} {na : Nat} {xs ys : List Int} {x y : Int} (h : Zs w0 W va na xs vb ys) (h1 : Ab w0.heap.size W1 va' (na + 1) (xs ++ [x]) vb na ys) (g1 : W.grownBy W1 va.ownBlock) (hb : Below W1.heap.size W1 W2) {W3 : World} (h2 : Ab w0.heap.size W3 vb' (na + 1) (ys ++ [y]) va' (na + 1) (xs ++ [x])) (g2 : W2.grownBy W3 vb.ownBlock) : Zs w0 W3 va' (na + 1) (xs ++ [x]) vb' (ys ++ [y]) := by
  have b1 := h.below.grown g1 h.below.size (fun k e => (h.ab.a.lt k e).1)
  have b2 := b1.trans (hb.mono b1.size)
  exact ⟨h2.swap, b2.grown g2 b2.size (fun k e => (h1.b.lt k e).1)⟩
set_option maxRecDepth 100000 in
set_option maxHeartbeats 4000000 in
theorem walk (A : Option Addr) (n c : Nat) (zs : List Int) (by' : Int) (w : World) (hn : Hid (zs.length = n)) (hl : n ≤ 9223372036854775807) (hr : WRow w A zs) (hu : (Lit.int .u8 by').wf = true) :
    Calls Try.prog 4 #[.slice A n c, .int .u8 by'] w fun e w' => e = .returned (.bool true) ∧ Below w.heap.size w w' := by
  have hu' : 0 ≤ by' ∧ by' ≤ 255 := by simpa [Lit.wf, IntKind.min, IntKind.max, IntKind.signed, IntKind.bits] using hu
  obtain ⟨u0, u1⟩ := hu'
  have WR := Lib.hid hr
  have HZ := Lib.hid hr.words
  clear hr hu
  by_cases hbad : 500 < n ∨ n = 0
  · by_cases h500 : 500 < n
    · have h3 : (500 : Int) < (n : Int) := by omega
      clear hbad
      go_enter Try.func4, Try.ntmps4
      go_wp2_with fail
      refine (shown_any _).mono ?_
      rintro e w1 ⟨rfl, hb1⟩
      go_wp2_with fail
      go_ret
      exact ⟨rfl, hb1⟩
    · obtain rfl : n = 0 := by omega
      clear hbad
      go_enter Try.func4, Try.ntmps4
      go_wp2_with fail
      refine (shown_any _).mono ?_
      rintro e w1 ⟨rfl, hb1⟩
      go_wp2_with fail
      go_ret
      exact ⟨rfl, hb1⟩
  · have h3 : ¬ (500 : Int) < (n : Int) := by omega
    have h0 : ((n : Int) == 0) = false := by rw [beq_eq_false_iff_ne]; omega
    have h1n : 1 ≤ n := by omega
    have h5n : n ≤ 500 := by omega
    obtain ⟨k, hk, hkn⟩ : ∃ k : Nat, (k : Int) = by'.tmod (n : Int) ∧ k < n := by
      have h1 := Int.emod_nonneg by' (show (n : Int) ≠ 0 by omega)
      have h2 := Int.emod_lt_of_pos by' (show 0 < (n : Int) by omega)
      refine ⟨(by' % (n : Int)).toNat, ?_, by omega⟩
      rw [Int.tmod_eq_emod_of_nonneg u0]
      omega
    have ek : by'.tmod (n : Int) = (k : Int) := hk.symm
    have wa : IntKind.i64.wrap by' = by' := IntWalk.i64_in _ (by omega)
    have wk : IntKind.i64.wrap (k : Int) = (k : Int) := IntWalk.i64_in _ (by omega)
    clear hk hbad
    go_enter Try.func4, Try.ntmps4
    go_wp2_with fail
    refine (shown_any _).mono ?_
    rintro e w1 ⟨rfl, hb1⟩
    have B1 := Lib.hid hb1
    clear hb1
    have Z0 := Lib.hid (show Zs w1 w1 (.slice none 0 0) 0 [] (.slice none 0 0) [] from ⟨Ab.none _ _, Below.refl _ _⟩)
    go_wp2_with fail
    clear ek wa
    go_loopw [7, 8, 9, 10, 11] (fun va vb s m j wr => ∃ (i : Nat) (t q : Int), i ≤ n ∧ s = .int .i64 t ∧ m = .int .i64 q ∧ j = .int .i64 i ∧ (0 ≤ t ∧ t ≤ i * 65535) ∧ (0 ≤ q ∧ q ≤ i) ∧ Hid (t = Gp.tot (zs.take i)) ∧ Hid (q = Gp.many (zs.take i)) ∧ Hid (Zs w1 wr va i (zs.take i) vb ((Gp.rot zs k).take i))) (fun _ _ _ _ j _ => n - (intOf j).toNat)
    case atStart => exact ⟨0, 0, 0, Nat.zero_le _, rfl, rfl, rfl, by omega, by omega, Lib.hid rfl, Lib.hid rfl, Z0⟩
    case round =>
      clear Z0
      obtain ⟨i, t, q, hi, rfl, rfl, rfl, ht, hq, HTo, HMa, Z⟩ := hrel
      by_cases hlt : i < n
      · obtain ⟨x, hx⟩ : ∃ x, zs[i]? = some x := ⟨_, List.getElem?_eq_getElem (by have := hn.out; omega)⟩
        have hxb := HZ.out x (List.mem_of_getElem? hx)
        have HX := Lib.hid hx
        have hrg := Gp.rot_get hn.out hkn hlt
        obtain ⟨j, hj⟩ : ∃ j, j = n - 1 - (i + k) % n := ⟨_, rfl⟩
        obtain ⟨r, hrm⟩ : ∃ r, r = (i + k) % n := ⟨_, rfl⟩
        have hrn : r < n := by rw [hrm]; exact Nat.mod_lt _ (by omega)
        rw [← hrm] at hj
        rw [← hrm, ← hj] at hrg
        obtain ⟨y, hy⟩ : ∃ y, zs[j]? = some y := ⟨_, List.getElem?_eq_getElem (by have := hn.out; omega)⟩
        rw [hy] at hrg
        have hyb := HZ.out y (List.mem_of_getElem? hy)
        have HY := Lib.hid hy
        have HRG := Lib.hid hrg
        obtain ⟨gb, go, rfl, _, _⟩ := WR.out i x hx
        have HT1 := Lib.hid (Gp.tot_take hx hxb.1)
        have HM1 := Lib.hid (Gp.many_take hx)
        have i0 : (0 : Int) ≤ (i : Int) := by omega
        have i1 : (i : Int) < (n : Int) := by omega
        have j0 : (0 : Int) ≤ (j : Int) := by omega
        have j1 : (j : Int) < (n : Int) := by omega
        have wx : IntKind.i64.wrap x = x := IntWalk.i64_in _ (by omega)
        have wy : IntKind.i64.wrap y = y := IntWalk.i64_in _ (by omega)
        have s1 : IntKind.i64.wrap ((n : Int) - 1) = (n : Int) - 1 := IntWalk.i64_in _ (by omega)
        have s2 : IntKind.i64.wrap ((i : Int) + (k : Int)) = (i : Int) + (k : Int) := IntWalk.i64_in _ (by omega)
        have s3 : ((i : Int) + (k : Int)).tmod (n : Int) = (r : Int) := by
          rw [Int.tmod_eq_emod_of_nonneg (by omega), hrm]
          rw [← Int.natCast_add, ← Int.natCast_emod]
        have s4 : IntKind.i64.wrap (r : Int) = (r : Int) := IntWalk.i64_in _ (by omega)
        have s5 : IntKind.i64.wrap ((n : Int) - 1 - (r : Int)) = (j : Int) := by rw [show (n : Int) - 1 - (r : Int) = (j : Int) by omega]; exact IntWalk.i64_in _ (by omega)
        have s6 : (n : Int) - 1 - (r : Int) = (j : Int) := by omega
        have s7 : IntKind.i64.wrap (t + x) = t + x := IntWalk.i64_in _ (by omega)
        have s8 : IntKind.i64.wrap (q + 1) = q + 1 := IntWalk.i64_in _ (by omega)
        have c0 := (WR.out.below (B1.out.trans (Z.out.below.mono B1.out.size))).at HX.out
        have hb5 := below_new wr (.cells #[.int .i64 x] 3)
        have Z5 := Lib.hid (Z.out.step hb5)
        have R5 := Lib.hid (row_at wr x wr.heap.size rfl)
        have hs5 := Z5.out.below.size
        obtain ⟨⟨Aa, ca, rfl⟩, Ab', cb, rfl⟩ := Z.out.ab.forms
        clear hb5 hx hy hrg hrm hj
        by_cases hx1 : 0 < x
        · have HX2 := Lib.hid (show (if 1 ≤ x then (1 : Int) else 0) = 1 from if_pos (by omega))
          go_wp2_with (first
            | (refine wpList_append_ab (by rfl) _ _ (by rfl) w1.heap.size (.slice Aa i ca) i (zs.take i) (.slice Ab' i cb) i ((Gp.rot zs k).take i) Z5.out.ab (by rfl) ⟨wr.heap.size, 0, none⟩ 1 1 [x] (by rfl) R5.out (by omega) (by omega) (by exact Nat.le_trans hs5 (by simp)) ?_; intro g6 q6 w6 hab6 hg6; have hb7 := below_new w6 (.cells #[.int .i64 y] 3); have A7 := Lib.hid (hab6.step hb7); have R7 := Lib.hid (row_at w6 y w6.heap.size rfl); have b6 := Z5.out.below.grown hg6 Z5.out.below.size (fun k e => (Z5.out.ab.a.lt k e).1); have hs7 : w1.heap.size ≤ (w6.alloc (.cells #[.int .i64 y] 3)).heap.size := Nat.le_trans b6.size hb7.size; have d6 := (WR.out.below (B1.out.trans (b6.mono B1.out.size))).at HY.out; have H6 := Lib.hid hab6; have G6 := Lib.hid hg6; have HB7 := Lib.hid hb7; clear hab6 hg6 b6 hb7)
            | (refine wpList_append_ab (by rfl) _ _ (by rfl) w1.heap.size (.slice Ab' i cb) i ((Gp.rot zs k).take i) (.slice (some ⟨g6, 0, none⟩) (i + 1) q6) (i + 1) (zs.take i ++ [x]) A7.out.swap (by rfl) ⟨w6.heap.size, 0, none⟩ 1 1 [y] (by rfl) R7.out (by omega) (by omega) hs7 ?_; intro g8 q8 w8 hab8 hg8; have Z8 := Lib.hid (both Z5.out H6.out G6.out HB7.out hab8 hg8); have e0 := (WR.out.below (B1.out.trans (Z8.out.below.mono B1.out.size))).at HX.out; clear hab8 hg8))
          go_roundw
          case rel => exact ⟨i + 1, t + x, (q + 1), by omega, rfl, rfl, by go_num, by omega, by omega, Lib.hid (by rw [HT1.out, ← HTo.out]), Lib.hid (by rw [HM1.out, ← HMa.out, (HX2.out)]), Lib.hid (by rw [List.take_add_one, HX.out, List.take_add_one, HRG.out]; exact Z8.out)⟩
          case measure => simp [intOf]; omega
        · have HX2 := Lib.hid (show q + (if 1 ≤ x then (1 : Int) else 0) = q from by rw [if_neg (by omega), Int.add_zero])
          go_wp2_with (first
            | (refine wpList_append_ab (by rfl) _ _ (by rfl) w1.heap.size (.slice Aa i ca) i (zs.take i) (.slice Ab' i cb) i ((Gp.rot zs k).take i) Z5.out.ab (by rfl) ⟨wr.heap.size, 0, none⟩ 1 1 [x] (by rfl) R5.out (by omega) (by omega) (by exact Nat.le_trans hs5 (by simp)) ?_; intro g6 q6 w6 hab6 hg6; have hb7 := below_new w6 (.cells #[.int .i64 y] 3); have A7 := Lib.hid (hab6.step hb7); have R7 := Lib.hid (row_at w6 y w6.heap.size rfl); have b6 := Z5.out.below.grown hg6 Z5.out.below.size (fun k e => (Z5.out.ab.a.lt k e).1); have hs7 : w1.heap.size ≤ (w6.alloc (.cells #[.int .i64 y] 3)).heap.size := Nat.le_trans b6.size hb7.size; have d6 := (WR.out.below (B1.out.trans (b6.mono B1.out.size))).at HY.out; have H6 := Lib.hid hab6; have G6 := Lib.hid hg6; have HB7 := Lib.hid hb7; clear hab6 hg6 b6 hb7)
            | (refine wpList_append_ab (by rfl) _ _ (by rfl) w1.heap.size (.slice Ab' i cb) i ((Gp.rot zs k).take i) (.slice (some ⟨g6, 0, none⟩) (i + 1) q6) (i + 1) (zs.take i ++ [x]) A7.out.swap (by rfl) ⟨w6.heap.size, 0, none⟩ 1 1 [y] (by rfl) R7.out (by omega) (by omega) hs7 ?_; intro g8 q8 w8 hab8 hg8; have Z8 := Lib.hid (both Z5.out H6.out G6.out HB7.out hab8 hg8); have e0 := (WR.out.below (B1.out.trans (Z8.out.below.mono B1.out.size))).at HX.out; clear hab8 hg8))
          go_roundw
          case rel => exact ⟨i + 1, t + x, q, by omega, rfl, rfl, by go_num, by omega, by omega, Lib.hid (by rw [HT1.out, ← HTo.out]), Lib.hid (by rw [HM1.out, ← HMa.out, (HX2.out)]), Lib.hid (by rw [List.take_add_one, HX.out, List.take_add_one, HRG.out]; exact Z8.out)⟩
          case measure => simp [intOf]; omega
      · obtain rfl : i = n := by omega
        have hZ := Z.out
        have hTo := HTo.out
        have hMa := HMa.out
        rw [List.take_of_length_le (by have := hn.out; omega), List.take_of_length_le (by rw [Gp.rot_length]; have := hn.out; omega)] at hZ
        rw [List.take_of_length_le (by have := hn.out; omega)] at hTo hMa
        obtain ⟨A1, q1, rfl, hr1, _⟩ := Row.of_own' hZ.ab.a
        obtain ⟨A2, q2, rfl, hr2, _⟩ := Row.of_own' hZ.ab.b
        have R2 := Lib.hid hr2
        have HB := Lib.hid (B1.out.trans (hZ.below.mono B1.out.size))
        have h64 : ∀ z ∈ zs, In64 z := fun z hz => by have := HZ.out z hz; unfold In64; omega
        have hS1 := sum_any A1 i q1 zs wr hr1 (Lib.hid h64)
        have hS2 := fun W (h : Row W A2 i q2 (Gp.rot zs k)) => sum_any A2 i q2 (Gp.rot zs k) W h (Lib.hid (fun z hz => h64 z ((Gp.rot_perm zs k).mem_iff.1 hz)))
        rw [Gp.sum_perm (Gp.rot_perm zs k)] at hS2
        have hsum := Gp.sum_eq zs
        have hmay := Gp.sum_may zs
        rw [← hTo, ← hMa, show min q 65535 = q by omega] at hsum
        by_cases hb : 65535 < t
        · have hmt : min t 65535 = 65535 := by omega
          rw [hmt] at hsum
          rw [hsum] at hS1 hS2 hmay
          have HMy := Lib.hid (fun W => may_any 65535 q true (Lib.hid (decide_eq_true hmay)) W)
          unfold TellC cv at hS1 hS2
          simp only at hS1 hS2
          have HS1 := Lib.hid hS1
          have HS2 := Lib.hid hS2
          have hE1 : ∀ W, (binOp .eql 25 (.agg #[.int .i64 65535, .int .i64 q]) (.agg #[.int .i64 65535, .int .i64 q])).run Try.prog W = .ok (.bool true) W := fun W => eql_one (65535, q) W
          clear hZ hr1 hr2 hS1 hS2 hsum hmay hTo hMa Z HTo HMa hlt hi h64
          go_wp2_with fail
          refine HS1.out.mono ?_
          rintro e w3 ⟨rfl, hb3⟩
          have hb4 := below_new w3 (.cells #[.int .i64 65535, .int .i64 q] 25)
          have C4 := Lib.hid (Cel2.new w3 (.int .i64 65535) (.int .i64 q) 25)
          have R4 := Lib.hid ((R2.out.below hb3).below hb4)
          have B4 := Lib.hid (HB.out.trans ((hb3.trans (hb4.mono hb3.size)).mono HB.out.size))
          clear hb3 hb4 HS1 R2 HB
          have c0 := C4.out.c0
          have c1 := C4.out.c1
          go_wp2_with fail
          generalize w3.alloc (.cells #[.int .i64 65535, .int .i64 q] 25) = U at *
          obtain ⟨Px, hPx⟩ : ∃ Px, Px = w3.heap.size := ⟨_, rfl⟩
          rw [← hPx] at C4 c0 c1 ⊢
          clear hPx
          have bz : Below U.heap.size U U.drew := (Below.refl _ _).drew
          go_region_held3 (fun w' => w'.cell? ⟨Px, 0, none⟩ = some (.int .i64 65535) ∧ w'.cell? ⟨Px, 1, none⟩ = some (.int .i64 q))
            (first
              | (go_split_ands; refine ⟨keepcell hbX (by assumption), keepcell hbX (by assumption)⟩)
              | (refine ⟨c0, c1⟩))
            (first
              | (go_at_call 16; refine (HS2.out _ (R4.out.below bz)).mono ?_; rintro e u1 ⟨rfl, hbX⟩; have m1 := held_trans bz hbX)
              | (go_at_call 9; refine (HMy.out _).mono ?_; rintro e u2 ⟨rfl, hbX⟩; have m2 := held_trans m1 hbX))
          have B6 := Lib.hid (B4.out.trans (m2.mono B4.out.size))
          clear m1 m2 bz hbX B4 C4 c0 c1 R4 HS2
          go_wp2_with fail
          go_ret
          exact ⟨rfl, B6.out⟩
        · have hmt : min t 65535 = t := by omega
          rw [hmt] at hsum
          have hmi : (if 65535 < t then (65535 : Int) else t) = t := if_neg hb
          have htt : (t == (if 65535 < t then (65535 : Int) else t)) = true := by rw [hmi]; exact beq_self_eq_true t
          rw [hsum] at hS1 hS2 hmay
          have HMy := Lib.hid (fun W => may_any t q true (Lib.hid (decide_eq_true hmay)) W)
          unfold TellC cv at hS1 hS2
          simp only at hS1 hS2
          have HS1 := Lib.hid hS1
          have HS2 := Lib.hid hS2
          have hE1 : ∀ W, (binOp .eql 25 (.agg #[.int .i64 t, .int .i64 q]) (.agg #[.int .i64 t, .int .i64 q])).run Try.prog W = .ok (.bool true) W := fun W => eql_one (t, q) W
          clear hZ hr1 hr2 hS1 hS2 hsum hmay hTo hMa Z HTo HMa hlt hi h64
          go_wp2_with fail
          refine HS1.out.mono ?_
          rintro e w3 ⟨rfl, hb3⟩
          have hb4 := below_new w3 (.cells #[.int .i64 t, .int .i64 q] 25)
          have C4 := Lib.hid (Cel2.new w3 (.int .i64 t) (.int .i64 q) 25)
          have R4 := Lib.hid ((R2.out.below hb3).below hb4)
          have B4 := Lib.hid (HB.out.trans ((hb3.trans (hb4.mono hb3.size)).mono HB.out.size))
          clear hb3 hb4 HS1 R2 HB
          have c0 := C4.out.c0
          have c1 := C4.out.c1
          go_wp2_with fail
          generalize w3.alloc (.cells #[.int .i64 t, .int .i64 q] 25) = U at *
          obtain ⟨Px, hPx⟩ : ∃ Px, Px = w3.heap.size := ⟨_, rfl⟩
          rw [← hPx] at C4 c0 c1 ⊢
          clear hPx
          have bz : Below U.heap.size U U.drew := (Below.refl _ _).drew
          go_region_held3 (fun w' => w'.cell? ⟨Px, 0, none⟩ = some (.int .i64 t) ∧ w'.cell? ⟨Px, 1, none⟩ = some (.int .i64 q))
            (first
              | (go_split_ands; refine ⟨keepcell hbX (by assumption), keepcell hbX (by assumption)⟩)
              | (refine ⟨c0, c1⟩))
            (first
              | (go_at_call 16; refine (HS2.out _ (R4.out.below bz)).mono ?_; rintro e u1 ⟨rfl, hbX⟩; have m1 := held_trans bz hbX)
              | (go_at_call 9; refine (HMy.out _).mono ?_; rintro e u2 ⟨rfl, hbX⟩; have m2 := held_trans m1 hbX))
          have B6 := Lib.hid (B4.out.trans (m2.mono B4.out.size))
          clear m1 m2 bz hbX B4 C4 c0 c1 R4 HS2
          go_wp2_with fail
          go_ret
          exact ⟨rfl, B6.out⟩
set_option maxRecDepth 100000 in
theorem lifted (os : Os) (started : os.Started) (H : Type) (enc : TypeId × Value → H) :
    ReturnsInHanded {} Try.checked os 4 .any (Rows.costSumsSpec.pre6 enc Try.prog Try.f4 Rows.costSumsRow.domain false) (Rows.costSumsSpec.post enc Try.prog Try.f4 false true false false) := by
  refine returnsInHanded_of_change (C := Try.checked) own started (by kernel_rfl) Try.func4
    (ChangeSpec.witness6 (enc := enc) (C := Try.checked) false ⟨#[], #[.slice none 0 0, .int .u8 0], []⟩ 8 (by kernel_rfl) (by kernel_rfl) (by kernel_rfl) (by kernel_rfl)) ?_
  intro W base args ds gs before hval0 hW hcnd _
  have hval : ∀ (j : Nat) t v, Try.f4.params[j]? = some t → args[j]? = some v → Value.okWide Try.prog W .any base t v := hval0
  have hW' := hW
  obtain ⟨p, q, hA0, hV, rfl, hfz, hnd⟩ := hW
  have hA : DataW.TrodAll enc Try.prog W 0 (fun _ => true) true Try.f4.params.toList args.toList ds p := hA0
  rw [Try.params4] at hA hval
  obtain ⟨v0, vs0, d0, ds0, p0, q0, hargs, rfl, rfl, h0, r0⟩ := trodAll_cons hA
  obtain ⟨v1, vs1, d1, ds1, p1, q1, rfl, rfl, rfl, h1, r1⟩ := trodAll_cons r0
  obtain ⟨rfl, rfl, rfl⟩ := trodAll_nil r1
  obtain rfl : args = #[v0, v1] := by cases args; simp_all
  obtain ⟨rfl, rfl⟩ := trodVars_none hV
  have k0 := h0
  have lt0 : ∀ x ∈ p0, x.block < W.heap.size := by obtain ⟨m, hm⟩ := k0; exact DataW.trod_lt m _ _ _ hm
  obtain ⟨a0, len0, cap0, rfl⟩ := okWide_slice Try.underlying34 (hval 0 34 v0 rfl rfl)
  obtain ⟨aa0, ll0, cc0, z0, ev0, hn0, hr0⟩ : ∃ A n c zs, Value.slice a0 len0 cap0 = .slice A n c ∧ (zs.length = n ∧ n ≤ 9223372036854775807) ∧ WRow W A zs := by
    obtain ⟨fuel, hf⟩ := h0
    exact open_words (by simpa [Value.cells] using hf)
  injection ev0 with ea0 eb0 ec0
  subst ea0 eb0 ec0
  obtain ⟨a1, rfl, rfl, rfl, w1⟩ := open_int Try.underlying5 (hval 1 5 v1 rfl rfl) h1
  clear hA0 hval0
  refine (walk a0 len0 cap0 z0 a1 W (Lib.hid hn0.1) hn0.2 hr0 w1).mono fun e W' ⟨he, bel⟩ => ?_
  subst he
  exact ⟨_, rfl, _, _, _, [], _, [], hW', trodAll_mk1 (shut_bool Try.underlying4 _), (trodAll_cons_mk (Below.trod laidOut (by kernel_rfl) (of_decide_eq_true (by kernel_rfl)) k0 bel lt0) (trodAll_cons_mk (shut_int Try.underlying5 w1) trodAll_mk0)), rfl, bel.frame _, fun h => by cases h⟩
theorem over : Rows.costSumsRow.holds Try.pinned (OpenSpec.ofChange Rows.costSumsSpec) :=
  OpenClaim.holds_of_wide 4 Try.f4 rfl rfl rfl rfl rfl rfl rfl ⟨rfl, rfl, rfl, rfl, rfl⟩ rfl rfl rfl rfl rfl (by kernel_rfl) Try.func4 (by kernel_rfl)
    (of_decide_eq_true (by kernel_rfl)) (by unfold Func.isWrapper; first | (rw [if_pos (by decide +kernel)]; kernel_rfl) | (rw [if_neg (by decide +kernel)]; exact ⟨rfl, rfl⟩))
    (fun os started H enc _ => lifted os started H enc)
theorem proved : Rows.CostSumsSaid := over
end Go.Proofs.Ytceboejhdgjgoaa.costSums

