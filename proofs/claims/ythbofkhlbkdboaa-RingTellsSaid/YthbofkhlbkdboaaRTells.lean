/- RingTells: what any ring is with any one put, added, taken, or its half, and all of it, are the document's: the call answers true and changes nothing that was there; for every input. -/
import Derived.Test.YthbofkhlbkdboaaRCel
import Derived.Test.YthbofkhlbkdboaaRHalf
import Derived.Test.YthbofkhlbkdboaaRMay
import Derived.Test.YthbofkhlbkdboaaRRefPut
import Derived.Test.YthbofkhlbkdboaaRRefMay
namespace Go.Proofs.Ythbofkhlbkdboaa.ringTells
open Go.ChangeShapes Go.WideShapes Go.ChangeAt Go.RowKit
set_option linter.unusedVariables false

set_option maxHeartbeats 8000000 in
set_option maxRecDepth 100000 in
theorem walk (x : Int) (A : Option Addr) (n c : Nat) (zs : List Int) (g s : Int) (w : World) (h : Row w A n c zs) :
    Calls Try.prog 3 #[.agg #[.int .i64 x, .slice A n c], .int .i64 g, .int .i64 s] w fun e w' => e = .returned (.bool true) ∧ Below w.heap.size w w' := by
  have H := Lib.hid h
  have hlen := Lib.hid h.len
  have P := Lib.hid (RI.new (y := x) 24 h)
  have B : Hid (Bl w _) := Lib.hid ⟨below_new w (.cells #[.int .i64 x, .slice A n c] 24)⟩
  clear h
  go_enter Try.func3, Try.ntmps3
  go_wp2_with fail
  refine (shown_any _).mono ?_
  rintro e w1 ⟨rfl, hb⟩
  replace P := Lib.hid (P.out.step hb)
  replace B := Lib.hid (B.out.step hb)
  have p0 := P.out.cel.c0
  have p1 := P.out.cel.c1
  clear hb
  by_cases h200 : 200 < n
  · have i1 : (200 : Int) < (n : Int) := by omega
    have i2 : decide ((200 : Int) < (n : Int)) = true := by simpa using i1
    go_wp2_with fail
    go_ret
    exact ⟨rfl, B.out.b⟩
  · have i1 : ¬ (200 : Int) < (n : Int) := by omega
    have i2 : decide ((200 : Int) < (n : Int)) = false := by simpa using i1
    have h3 : n ≤ 200 := by omega
    obtain ⟨y1, l1, t1, E1⟩ : ∃ y l t, Rp.put (x, zs) g s = ((y, l), t) := ⟨_, _, _, rfl⟩
    obtain ⟨y2, l2, t2, E2⟩ : ∃ y l t, Rp.add (x, zs) g s = ((y, l), t) := ⟨_, _, _, rfl⟩
    obtain ⟨y3, l3, f3, E3⟩ : ∃ y l f, Rp.take (x, zs) = ((y, l), f) := ⟨_, _, _, rfl⟩
    obtain ⟨y4, l4, t4, E4⟩ : ∃ y l t, Rp.half (x, zs) = ((y, l), t) := ⟨_, _, _, rfl⟩
    have F1 := Lib.hid E1
    have F2 := Lib.hid E2
    have F3 := Lib.hid E3
    have F4 := Lib.hid E4
    clear E1 E2 E3 E4
    go_wp2_with fail
    refine (made_any x A n c zs _ P.out.row (by omega)).mono ?_
    rintro e w2 ⟨A2, n2, c2, rfl, hr2, hb2⟩
    obtain rfl : n = n2 := by have h1 : zs.length = n2 := hr2.len; have h2 := hlen.out; omega
    have hb := below_then hb2 (.cells #[.int .i64 x, .slice A2 n c2] 26)
    replace P := Lib.hid (P.out.step hb)
    replace B := Lib.hid (B.out.step hb)
    have X := Lib.hid (RI.new (y := x) 26 hr2)
    clear p0 p1 hb hb2 hr2
    have x0 := X.out.cel.c0
    have x1 := X.out.cel.c1
    have p0 := P.out.cel.c0
    have p1 := P.out.cel.c1
    go_wp2_with fail
    refine (put_any x A2 n c2 zs g s _ X.out.row (by omega)).mono ?_
    rintro e w5 ⟨A5, n5, c5, B5, m5, d5, rfl, hr, _, hq, _, hb0⟩
    rw [F1.out] at hr hq ⊢
    have hb := below_then hb0 (.cells #[.int .i64 y1, .slice A5 n5 c5] 26)
    have I5 := Lib.hid (RI.new (y := y1) 26 hr)
    have T5 := Lib.hid (hq.below_alloc (.cells #[.int .i64 y1, .slice A5 n5 c5] 26))
    replace P := Lib.hid (P.out.step hb)
    replace B := Lib.hid (B.out.step hb)
    replace X := Lib.hid (X.out.step hb)
    clear hr hq hb0 hb x0 x1 p0 p1
    have x0 := X.out.cel.c0
    have x1 := X.out.cel.c1
    have p0 := P.out.cel.c0
    have p1 := P.out.cel.c1
    go_wp2_with fail
    refine (refPut_any x A n c zs g s _ P.out.row (by omega)).mono ?_
    rintro e w6 ⟨A6, n6, c6, B6, m6, d6, rfl, hr, hq, hb0⟩
    rw [F1.out] at hr hq ⊢
    have hb := below_then hb0 (.cells #[.int .i64 y1, .slice A6 n6 c6] 24)
    have I6 := Lib.hid (RI.new (y := y1) 24 hr)
    have T6 := Lib.hid (hq.below_alloc (.cells #[.int .i64 y1, .slice A6 n6 c6] 24))
    replace P := Lib.hid (P.out.step hb)
    replace B := Lib.hid (B.out.step hb)
    replace X := Lib.hid (X.out.step hb)
    replace I5 := Lib.hid (I5.out.step hb)
    replace T5 := Lib.hid (T5.out.step hb)
    clear hr hq hb0 hb x0 x1 p0 p1
    have x0 := X.out.cel.c0
    have x1 := X.out.cel.c1
    have p0 := P.out.cel.c0
    have p1 := P.out.cel.c1
    go_wp2_with fail
    refine (add_any x A2 n c2 zs g s _ X.out.row (by omega)).mono ?_
    rintro e w7 ⟨A7, n7, c7, B7, m7, d7, rfl, hr, _, hq, _, hb0⟩
    rw [F2.out] at hr hq ⊢
    have hb := below_then hb0 (.cells #[.int .i64 y2, .slice A7 n7 c7] 26)
    have I7 := Lib.hid (RI.new (y := y2) 26 hr)
    have T7 := Lib.hid (hq.below_alloc (.cells #[.int .i64 y2, .slice A7 n7 c7] 26))
    replace P := Lib.hid (P.out.step hb)
    replace B := Lib.hid (B.out.step hb)
    replace X := Lib.hid (X.out.step hb)
    replace I5 := Lib.hid (I5.out.step hb)
    replace T5 := Lib.hid (T5.out.step hb)
    replace I6 := Lib.hid (I6.out.step hb)
    replace T6 := Lib.hid (T6.out.step hb)
    clear hr hq hb0 hb x0 x1 p0 p1
    have x0 := X.out.cel.c0
    have x1 := X.out.cel.c1
    have p0 := P.out.cel.c0
    have p1 := P.out.cel.c1
    go_wp2_with fail
    refine (refAdd_any x A n c zs g s _ P.out.row (by omega)).mono ?_
    rintro e w8 ⟨A8, n8, c8, B8, m8, d8, rfl, hr, _, hq, _, hb0⟩
    rw [F2.out] at hr hq ⊢
    have hb := below_then hb0 (.cells #[.int .i64 y2, .slice A8 n8 c8] 24)
    have I8 := Lib.hid (RI.new (y := y2) 24 hr)
    have T8 := Lib.hid (hq.below_alloc (.cells #[.int .i64 y2, .slice A8 n8 c8] 24))
    replace P := Lib.hid (P.out.step hb)
    replace B := Lib.hid (B.out.step hb)
    replace X := Lib.hid (X.out.step hb)
    replace I5 := Lib.hid (I5.out.step hb)
    replace T5 := Lib.hid (T5.out.step hb)
    replace I6 := Lib.hid (I6.out.step hb)
    replace T6 := Lib.hid (T6.out.step hb)
    replace I7 := Lib.hid (I7.out.step hb)
    replace T7 := Lib.hid (T7.out.step hb)
    clear hr hq hb0 hb x0 x1 p0 p1
    have x0 := X.out.cel.c0
    have x1 := X.out.cel.c1
    have p0 := P.out.cel.c0
    have p1 := P.out.cel.c1
    go_wp2_with fail
    clear x0 x1 p0 p1
    generalize (w8.alloc (.cells #[.int .i64 y2, .slice A8 n8 c8] 24)) = V at *
    have a0 := I5.out.cel.c0
    have a1 := I5.out.cel.c1
    have a2 := I6.out.cel.c0
    have a3 := I6.out.cel.c1
    have a4 := I7.out.cel.c0
    have a5 := I7.out.cel.c1
    have a6 := I8.out.cel.c0
    have a7 := I8.out.cel.c1
    have bz : Below V.heap.size V V.drew := (Below.refl _ _).drew
    have rf : (true : Bool) = true := rfl
    clear rf
    go_region_held3 (fun w' => w'.cell? ⟨w5.heap.size, 0, none⟩ = some (.int .i64 y1) ∧ w'.cell? ⟨w5.heap.size, 1, none⟩ = some (.slice A5 n5 c5) ∧ w'.cell? ⟨w6.heap.size, 0, none⟩ = some (.int .i64 y1) ∧ w'.cell? ⟨w6.heap.size, 1, none⟩ = some (.slice A6 n6 c6) ∧ w'.cell? ⟨w7.heap.size, 0, none⟩ = some (.int .i64 y2) ∧ w'.cell? ⟨w7.heap.size, 1, none⟩ = some (.slice A7 n7 c7) ∧ w'.cell? ⟨w8.heap.size, 0, none⟩ = some (.int .i64 y2) ∧ w'.cell? ⟨w8.heap.size, 1, none⟩ = some (.slice A8 n8 c8))
      (first
        | (go_split_ands; refine ⟨keepcell hbX (by assumption), keepcell hbX (by assumption), keepcell hbX (by assumption), keepcell hbX (by assumption), keepcell hbX (by assumption), keepcell hbX (by assumption), keepcell hbX (by assumption), keepcell hbX (by assumption)⟩)
        | (refine ⟨a0, a1, a2, a3, a4, a5, a6, a7⟩))
      (first
        | (go_at_call_of 17 (Value.slice A5 n5 c5); refine (real_any y1 A5 n5 c5 l1 _ (I5.out.row.below bz)).mono ?_; rintro e v1 ⟨Ar, nr, cr, rfl, hr1, hbX⟩; have b1 := held_trans bz hbX)
        | (go_at_call_of 16 (Value.slice A6 n6 c6); refine (same_row y1 y1 Ar A6 nr n6 cr c6 l1 l1 _ rfl rfl hr1 (I6.out.row.below b1)).mono ?_; rintro e v2 ⟨rfl, hbX⟩; have b2 := held_trans b1 hbX)
        | (go_at_call_of 18 (Value.slice B5 m5 d5); refine (ints_row B5 B6 m5 m6 d5 d6 t1 t1 _ rfl (T5.out.below b2) (T6.out.below b2)).mono ?_; rintro e v3 ⟨rfl, hbX⟩; have b3 := held_trans b2 hbX)
        | (go_at_call_of 17 (Value.slice A7 n7 c7); refine (real_any y2 A7 n7 c7 l2 _ (I7.out.row.below b3)).mono ?_; rintro e v4 ⟨As, ns, cs, rfl, hr4, hbX⟩; have b4 := held_trans b3 hbX)
        | (go_at_call_of 16 (Value.slice A8 n8 c8); refine (same_row y2 y2 As A8 ns n8 cs c8 l2 l2 _ rfl rfl hr4 (I8.out.row.below b4)).mono ?_; rintro e v5 ⟨rfl, hbX⟩; have b5 := held_trans b4 hbX)
        | (go_at_call_of 18 (Value.slice B7 m7 d7); refine (ints_row B7 B8 m7 m8 d7 d8 t2 t2 _ rfl (T7.out.below b5) (T8.out.below b5)).mono ?_; rintro e v6 ⟨rfl, hbX⟩; have b6 := held_trans b5 hbX))
    replace P := Lib.hid (P.out.step b6)
    replace B := Lib.hid (B.out.step b6)
    replace X := Lib.hid (X.out.step b6)
    have x0 := X.out.cel.c0
    have x1 := X.out.cel.c1
    have p0 := P.out.cel.c0
    have p1 := P.out.cel.c1
    clear a0 a1 a2 a3 a4 a5 a6 a7 bz b1 b2 b3 b4 b5 b6 hr1 hr4 I5 I6 I7 I8 T5 T6 T7 T8
    go_wp2_with fail
    refine (take_any x A2 n c2 zs _ X.out.row (by omega)).mono ?_
    rintro e w9 ⟨A9, n9, c9, rfl, hr, _, hb0⟩
    rw [F3.out] at hr ⊢
    have hb := below_then hb0 (.cells #[.int .i64 y3, .slice A9 n9 c9] 26)
    have I9 := Lib.hid (RI.new (y := y3) 26 hr)
    replace P := Lib.hid (P.out.step hb)
    replace B := Lib.hid (B.out.step hb)
    replace X := Lib.hid (X.out.step hb)
    clear hr hb0 hb x0 x1 p0 p1
    have x0 := X.out.cel.c0
    have x1 := X.out.cel.c1
    have p0 := P.out.cel.c0
    have p1 := P.out.cel.c1
    go_wp2_with fail
    refine (refTake_any x A n c zs _ P.out.row (by omega)).mono ?_
    rintro e w10 ⟨A10, n10, c10, rfl, hr, hb0⟩
    rw [F3.out] at hr ⊢
    have hb := below_then hb0 (.cells #[.int .i64 y3, .slice A10 n10 c10] 24)
    have I10 := Lib.hid (RI.new (y := y3) 24 hr)
    replace P := Lib.hid (P.out.step hb)
    replace B := Lib.hid (B.out.step hb)
    replace X := Lib.hid (X.out.step hb)
    replace I9 := Lib.hid (I9.out.step hb)
    clear hr hb0 hb x0 x1 p0 p1
    have x0 := X.out.cel.c0
    have x1 := X.out.cel.c1
    have p0 := P.out.cel.c0
    have p1 := P.out.cel.c1
    go_wp2_with fail
    refine (half_any x A2 n c2 zs _ X.out.row (by omega)).mono ?_
    rintro e w11 ⟨A11, n11, c11, B11, m11, d11, rfl, hr, _, hq, _, hb0⟩
    rw [F4.out] at hr hq ⊢
    have hb := below_then hb0 (.cells #[.int .i64 y4, .slice A11 n11 c11] 26)
    have I11 := Lib.hid (RI.new (y := y4) 26 hr)
    have T11 := Lib.hid (hq.below_alloc (.cells #[.int .i64 y4, .slice A11 n11 c11] 26))
    replace P := Lib.hid (P.out.step hb)
    replace B := Lib.hid (B.out.step hb)
    replace X := Lib.hid (X.out.step hb)
    replace I9 := Lib.hid (I9.out.step hb)
    replace I10 := Lib.hid (I10.out.step hb)
    clear hr hq hb0 hb x0 x1 p0 p1
    have x0 := X.out.cel.c0
    have x1 := X.out.cel.c1
    have p0 := P.out.cel.c0
    have p1 := P.out.cel.c1
    go_wp2_with fail
    refine (refHalf_any x A n c zs _ P.out.row (by omega)).mono ?_
    rintro e w12 ⟨A12, n12, c12, B12, m12, d12, rfl, hr, hq, hb0⟩
    rw [F4.out] at hr hq ⊢
    have hb := below_then hb0 (.cells #[.int .i64 y4, .slice A12 n12 c12] 24)
    have I12 := Lib.hid (RI.new (y := y4) 24 hr)
    have T12 := Lib.hid (hq.below_alloc (.cells #[.int .i64 y4, .slice A12 n12 c12] 24))
    replace P := Lib.hid (P.out.step hb)
    replace B := Lib.hid (B.out.step hb)
    replace X := Lib.hid (X.out.step hb)
    replace I9 := Lib.hid (I9.out.step hb)
    replace I10 := Lib.hid (I10.out.step hb)
    replace I11 := Lib.hid (I11.out.step hb)
    replace T11 := Lib.hid (T11.out.step hb)
    clear hr hq hb0 hb x0 x1 p0 p1
    have x0 := X.out.cel.c0
    have x1 := X.out.cel.c1
    have p0 := P.out.cel.c0
    have p1 := P.out.cel.c1
    go_wp2_with fail
    clear x0 x1 p0 p1 hbX
    generalize (w12.alloc (.cells #[.int .i64 y4, .slice A12 n12 c12] 24)) = U at *
    have a0 := I9.out.cel.c0
    have a1 := I9.out.cel.c1
    have a2 := I10.out.cel.c0
    have a3 := I10.out.cel.c1
    have a4 := I11.out.cel.c0
    have a5 := I11.out.cel.c1
    have a6 := I12.out.cel.c0
    have a7 := I12.out.cel.c1
    have a8 := X.out.cel.c0
    have a9 := X.out.cel.c1
    have a10 := P.out.cel.c0
    have a11 := P.out.cel.c1
    have bz : Below U.heap.size U U.drew := (Below.refl _ _).drew
    go_region_held3 (fun w' => w'.cell? ⟨w9.heap.size, 0, none⟩ = some (.int .i64 y3) ∧ w'.cell? ⟨w9.heap.size, 1, none⟩ = some (.slice A9 n9 c9) ∧ w'.cell? ⟨w10.heap.size, 0, none⟩ = some (.int .i64 y3) ∧ w'.cell? ⟨w10.heap.size, 1, none⟩ = some (.slice A10 n10 c10) ∧ w'.cell? ⟨w11.heap.size, 0, none⟩ = some (.int .i64 y4) ∧ w'.cell? ⟨w11.heap.size, 1, none⟩ = some (.slice A11 n11 c11) ∧ w'.cell? ⟨w12.heap.size, 0, none⟩ = some (.int .i64 y4) ∧ w'.cell? ⟨w12.heap.size, 1, none⟩ = some (.slice A12 n12 c12) ∧ w'.cell? ⟨w2.heap.size, 0, none⟩ = some (.int .i64 x) ∧ w'.cell? ⟨w2.heap.size, 1, none⟩ = some (.slice A2 n c2) ∧ w'.cell? ⟨w.heap.size, 0, none⟩ = some (.int .i64 x) ∧ w'.cell? ⟨w.heap.size, 1, none⟩ = some (.slice A n c))
      (first
        | (go_split_ands; refine ⟨keepcell hbX (by assumption), keepcell hbX (by assumption), keepcell hbX (by assumption), keepcell hbX (by assumption), keepcell hbX (by assumption), keepcell hbX (by assumption), keepcell hbX (by assumption), keepcell hbX (by assumption), keepcell hbX (by assumption), keepcell hbX (by assumption), keepcell hbX (by assumption), keepcell hbX (by assumption)⟩)
        | (refine ⟨a0, a1, a2, a3, a4, a5, a6, a7, a8, a9, a10, a11⟩))
      (first
        | (go_at_call_of 17 (Value.slice A9 n9 c9); refine (real_any y3 A9 n9 c9 l3 _ (I9.out.row.below bz)).mono ?_; rintro e v1 ⟨Ar, nr, cr, rfl, hr1, hbX⟩; have b1 := held_trans bz hbX)
        | (go_at_call_of 16 (Value.slice A10 n10 c10); refine (same_row y3 y3 Ar A10 nr n10 cr c10 l3 l3 _ rfl rfl hr1 (I10.out.row.below b1)).mono ?_; rintro e v2 ⟨rfl, hbX⟩; have b2 := held_trans b1 hbX)
        | (go_at_call_of 17 (Value.slice A11 n11 c11); refine (real_any y4 A11 n11 c11 l4 _ (I11.out.row.below b2)).mono ?_; rintro e v3 ⟨As, ns, cs, rfl, hr3, hbX⟩; have b3 := held_trans b2 hbX)
        | (go_at_call_of 16 (Value.slice A12 n12 c12); refine (same_row y4 y4 As A12 ns n12 cs c12 l4 l4 _ rfl rfl hr3 (I12.out.row.below b3)).mono ?_; rintro e v4 ⟨rfl, hbX⟩; have b4 := held_trans b3 hbX)
        | (go_at_call_of 18 (Value.slice B11 m11 d11); refine (ints_row B11 B12 m11 m12 d11 d12 t4 t4 _ rfl (T11.out.below b4) (T12.out.below b4)).mono ?_; rintro e v5 ⟨rfl, hbX⟩; have b5 := held_trans b4 hbX)
        | (go_at_call 23; refine (all_any x A2 n c2 zs _ (by first | exact X.out.row.below b5 | exact X.out.row.below bQ) (by omega)).mono ?_; rintro e vP ⟨AP, nP, cP, rfl, hrP, _, hbX⟩; have bP : Below U.heap.size U vP := (by first | exact held_trans b5 hbX | exact held_trans bQ hbX); have hbP := hbX)
        | (go_at_call 24; refine (refAll_any x A n c zs _ (by first | exact P.out.row.below b5 | exact P.out.row.below bP) (by omega)).mono ?_; rintro e vQ ⟨AQ, nQ, cQ, rfl, hrQ, hbX⟩; have bQ : Below U.heap.size U vQ := (by first | exact held_trans b5 hbX | exact held_trans bP hbX); have hbQ := hbX)
        | (go_at_call_of 18 (Value.slice AP nP cP); refine (ints_row AP AQ nP nQ cP cQ (Rp.all (x, zs)) (Rp.all (x, zs)) _ rfl (by first | exact hrP | exact hrP.below hbQ) (by first | exact hrQ | exact hrQ.below hbP)).mono ?_; rintro e v8 ⟨rfl, hbX⟩; have b8 : Below U.heap.size U v8 := (by first | exact held_trans bQ hbX | exact held_trans bP hbX))
        | (go_at_call 25; refine (may_any x A2 n c2 zs s _ (by first | exact X.out.row.below b8 | exact X.out.row.below bN) (by omega)).mono ?_; rintro e vM ⟨rfl, hbX⟩; have bM : Below U.heap.size U vM := (by first | exact held_trans b8 hbX | exact held_trans bN hbX))
        | (go_at_call 26; refine (refMay_any x A n c zs s _ (by first | exact P.out.row.below b8 | exact P.out.row.below bM) (by omega)).mono ?_; rintro e vN ⟨rfl, hbX⟩; have bN : Below U.heap.size U vN := (by first | exact held_trans b8 hbX | exact held_trans bM hbX))
        | (go_at_call_of 17 (Value.slice A2 n c2); refine (real_any x A2 n c2 zs _ (by first | exact X.out.row.below bN | exact X.out.row.below bM)).mono ?_; rintro e v11 ⟨At, nt, ct, rfl, hr11, hbX⟩; have b11 : Below U.heap.size U v11 := (by first | exact held_trans bN hbX | exact held_trans bM hbX))
        | (go_at_call_of 16 (Value.slice A n c); refine (same_row x x At A nt n ct c zs zs _ rfl rfl hr11 (P.out.row.below b11)).mono ?_; rintro e v12 ⟨rfl, hbX⟩; have b12 := held_trans b11 hbX))
    all_goals
      have BZ := Lib.hid (B.out.step b12)
      clear a0 a1 a2 a3 a4 a5 a6 a7 a8 a9 a10 a11 bz b1 b2 b3 b4 b5 b8 b11 b12 hr1 hr3 hr11 hrP hrQ
      go_wp2_with fail
      go_ret
      exact ⟨rfl, BZ.out.b⟩
set_option maxRecDepth 100000 in
theorem lifted (os : Os) (started : os.Started) (H : Type) (enc : TypeId × Value → H) :
    ReturnsInHanded {} Try.checked os 3 .any (Rows.ringTellsSpec.pre6 enc Try.prog Try.f3 Rows.ringTellsRow.domain false) (Rows.ringTellsSpec.post enc Try.prog Try.f3 false true false false) := by
  refine returnsInHanded_of_change (C := Try.checked) own started (by kernel_rfl) Try.func3
    (ChangeSpec.witness6 (enc := enc) (C := Try.checked) false ⟨#[], #[.agg #[.int .i64 0, .slice none 0 0], .int .i64 0, .int .i64 0], []⟩ 8 (by kernel_rfl) (by kernel_rfl) (by kernel_rfl) (by kernel_rfl)) ?_
  intro W base args ds gs before hval0 hW hcnd _
  have hval : ∀ (j : Nat) t v, Try.f3.params[j]? = some t → args[j]? = some v → Value.okWide Try.prog W .any base t v := hval0
  have hW' := hW
  obtain ⟨p, q, hA0, hV, rfl, hfz, hnd⟩ := hW
  have hA : DataW.TrodAll enc Try.prog W 0 (fun _ => true) true Try.f3.params.toList args.toList ds p := hA0
  rw [Try.params3] at hA hval
  obtain ⟨v0, vs0, d0, ds0, p0, q0, hargs, rfl, rfl, h0, r0⟩ := trodAll_cons hA
  obtain ⟨v1, vs1, d1, ds1, p1, q1, rfl, rfl, rfl, h1, r1⟩ := trodAll_cons r0
  obtain ⟨v2, vs2, d2, ds2, p2, q2, rfl, rfl, rfl, h2, r2⟩ := trodAll_cons r1
  obtain ⟨rfl, rfl, rfl⟩ := trodAll_nil r2
  obtain rfl : args = #[v0, v1, v2] := by cases args; simp_all
  obtain ⟨rfl, rfl⟩ := trodVars_none hV
  have k0 := h0
  have lt0 : ∀ x ∈ p0, x.block < W.heap.size := by obtain ⟨m, hm⟩ := k0; exact DataW.trod_lt m _ _ _ hm
  obtain ⟨x0, a0, len0, cap0, z0, rfl, hr0⟩ := open_ring (hval 0 24 v0 rfl rfl) h0
  obtain ⟨a1, rfl, rfl, rfl, w1⟩ := open_int Try.underlying3 (hval 1 3 v1 rfl rfl) h1
  obtain ⟨a2, rfl, rfl, rfl, w2⟩ := open_int Try.underlying3 (hval 2 3 v2 rfl rfl) h2
  clear hA0 hval0
  refine (walk x0 a0 len0 cap0 z0 a1 a2 W hr0).mono fun e W' ⟨he, bel⟩ => ?_
  subst he
  exact ⟨_, rfl, _, _, _, [], _, [], hW', trodAll_mk1 (shut_bool Try.underlying4 _), (trodAll_cons_mk (Below.trod laidOut (by kernel_rfl) (of_decide_eq_true (by kernel_rfl)) k0 bel lt0) (trodAll_cons_mk (shut_int Try.underlying3 w1) (trodAll_cons_mk (shut_int Try.underlying3 w2) trodAll_mk0))), rfl, bel.frame _, fun h => by cases h⟩
theorem over : Rows.ringTellsRow.holds Try.pinned (OpenSpec.ofChange Rows.ringTellsSpec) :=
  OpenClaim.holds_of_wide 3 Try.f3 rfl rfl rfl rfl rfl rfl rfl ⟨rfl, rfl, rfl, rfl, rfl⟩ rfl rfl rfl rfl rfl (by kernel_rfl) Try.func3 (by kernel_rfl)
    (of_decide_eq_true (by kernel_rfl)) (by unfold Func.isWrapper; first | (rw [if_pos (by decide +kernel)]; kernel_rfl) | (rw [if_neg (by decide +kernel)]; exact ⟨rfl, rfl⟩))
    (fun os started H enc _ => lifted os started H enc)
theorem proved : Rows.RingTellsSaid := over
end Go.Proofs.Ythbofkhlbkdboaa.ringTells

