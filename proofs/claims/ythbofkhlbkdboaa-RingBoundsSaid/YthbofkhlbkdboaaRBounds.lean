/- RingBounds: a ring of a size that may be has never more than its size in a row, and so on: the call answers true and changes nothing that was there; for every input. -/
import Derived.Test.YthbofkhlbkdboaaRCel
import Derived.Test.YthbofkhlbkdboaaRHalf
import Derived.Test.YthbofkhlbkdboaaRMay
namespace Go.Proofs.Ythbofkhlbkdboaa.ringBounds
open Go.ChangeShapes Go.WideShapes Go.ChangeAt Go.RowKit
set_option linter.unusedVariables false

set_option maxHeartbeats 8000000 in
set_option maxRecDepth 100000 in
theorem walk (A0 : Option Addr) (n0 c0 : Nat) (zs : List Int) (a : Int) (w : World) (hn : Hid (zs.length = n0)) (hl : n0 ≤ 9223372036854775807) (h : BRow w A0 zs) (hu : (Lit.int .u8 a).wf = true) :
    Calls Try.prog 5 #[.slice A0 n0 c0, .int .u8 a] w fun e w' => e = .returned (.bool true) ∧ Below w.heap.size w w' := by
  have hu' : 0 ≤ a ∧ a ≤ 255 := by simpa [Lit.wf, IntKind.min, IntKind.max, IntKind.signed, IntKind.bits] using hu
  obtain ⟨u0, u1⟩ := hu'
  obtain ⟨k0, hk0⟩ : ∃ k : Nat, (k : Int) = a % 30 := ⟨(a % 30).toNat, by omega⟩
  obtain ⟨N, hNk⟩ : ∃ N, N = k0 + 2 := ⟨_, rfl⟩
  have t1 : a.tmod 30 = (k0 : Int) := by rw [hk0]; exact Int.tmod_eq_emod_of_nonneg u0
  have t2 : a % 30 = (k0 : Int) := hk0.symm
  have t3 : IntKind.i64.wrap (2 + (k0 : Int)) = (N : Int) := by rw [IntWalk.i64_in _ (by omega)]; omega
  have hN2 : 2 ≤ N := by omega
  have hN31 : N ≤ 31 := by omega
  obtain ⟨hh, hhd⟩ : ∃ hh, hh = N / 2 := ⟨_, rfl⟩
  have t4 : (N : Int).tdiv 2 = (hh : Int) := by rw [hhd]; rfl
  have t5 : (N : Int) / 2 = (hh : Int) := by omega
  have hh15 : hh ≤ 15 := by omega
  have HH := Lib.hid hhd
  have HL := Lib.hid h
  clear hu hk0 hNk h hhd
  go_enter Try.func5, Try.ntmps5
  go_wp2_with fail
  refine (shown_any _).mono ?_
  rintro e w1 ⟨rfl, hb1⟩
  have B1 := Lib.hid hb1
  clear hb1
  have C1 := Lib.hid (Cel.new w1 (.int .i64 0) (.slice none 0 0) 26)
  have B1' := Lib.hid (B1.out.trans ((below_new w1 (.cells #[.int .i64 0, .slice none 0 0] 26)).mono B1.out.size))
  have hw1 : w.heap.size ≤ w1.heap.size := B1.out.size
  go_wp2_with fail
  clear t1 t2 t3
  go_loopw [8] (fun i wr => ∃ (k : Nat) (y : Int) (A : Option Addr) (m c : Nat) (l : List Int), k ≤ 300 ∧ i = .int .i64 k ∧ Hid (Cel wr w1.heap.size (.int .i64 y) (.slice A m c)) ∧ Hid (Row wr A m c l) ∧ Hid (Rp.Good (y, l) N k) ∧ Hid (Below w.heap.size w wr)) (fun i _ => 300 - (intOf i).toNat)
  case atStart => exact ⟨0, 0, none, 0, 0, [], by omega, rfl, C1, Lib.hid (Row.nothing _), Lib.hid (Rp.Good.nil N), B1'⟩
  case round =>
    obtain ⟨k, y, A, m, c, l, hk, rfl, HC, HR, HG, HB⟩ := hrel
    have hm : m ≤ 31 := by have h1 := HR.out.len; have h2 := HG.out.1; simp only at h2; omega
    by_cases hlt : k < n0
    · have i1 : (k : Int) < (n0 : Int) := by omega
      have i2 : decide ((k : Int) < (n0 : Int)) = true := by simpa using i1
      by_cases hlt3 : k < 300
      · have i3 : (k : Int) < 300 := by omega
        have i4 : decide ((k : Int) < 300) = true := by simpa using i3
        have i5 : (0 : Int) ≤ (k : Int) := by omega
        have g0 := HC.out.c0
        have g1 := HC.out.c1
        have hR := HC.out.lt
        obtain ⟨z, hzk⟩ : ∃ z, zs[k]? = some z := ⟨_, List.getElem?_eq_getElem (by rw [hn.out]; exact hlt)⟩
        obtain ⟨b, off, hA, hbk, hcz, hz0, hz1⟩ := (HL.out.below HB.out) k z hzk
        subst hA
        have HZ := Lib.hid hzk
        have i6 : IntKind.i64.wrap ((k : Int) + 1) = (k : Int) + 1 := IntWalk.i64_in _ (by omega)
        clear hzk
        by_cases h3 : z % 3 = 0
        · have a1 : z.tmod 3 = 0 := by rw [Int.tmod_eq_emod_of_nonneg hz0]; exact h3
          obtain ⟨P, hP⟩ : ∃ P, P = Rp.add (y, l) ((k : Int) + 1) N := ⟨_, rfl⟩
          have hPl : P.1.2.length ≤ N ∧ (P.2 = [] ∨ P.2.length = hh + 1) := by rw [hP, HH.out]; exact Rp.add_len (y, l) _ N hN2 HG.out.1
          have HG3 := Lib.hid (show Rp.Good P.1 N (k + 1) by rw [hP]; exact HG.out.add hN2)
          go_wp2_with fail
          refine (add_any y A m c l ((k : Int) + 1) N _ HR.out (by omega)).mono ?_
          clear a1
          rintro e w3 ⟨A3, m3, c3, B3', q3, d3, rfl, hr3, hf3, hq3, hgf3, hb3⟩
          rw [← hP] at hr3 hq3 ⊢
          obtain ⟨⟨y3, l3⟩, t3⟩ := P
          simp only at hr3 hq3 hP ⊢
          have hq : q3 = 0 ∨ q3 = hh + 1 := by
            have h1 := hq3.len
            have h2 := hPl.2
            rcases h2 with h2 | h2
            · left; rw [← h1]; simp only at h2; rw [h2]; rfl
            · right; simp only at h2; omega
          clear hP hPl
          have C3 := HC.out.step hb3
          have x0 := C3.c0
          have x1 := C3.c1
          have x2 := C3.f0
          have x3 := C3.f1
          have HC3 := Lib.hid (C3.put (.int .i64 y3) (.slice A3 m3 c3))
          have y0 := HC3.out.c0
          have y1 := HC3.out.c1
          have HR3 := Lib.hid (hr3.put (b := w1.heap.size) (u := .int .i64 y3) (v := .slice A3 m3 c3) (hf3.mono hR))
          have HB3 := Lib.hid (below_put (b := w1.heap.size) (u := .int .i64 y3) (v := .slice A3 m3 c3) (HB.out.trans (hb3.mono HB.out.size)) hw1)
          have HL3 := Lib.hid (HL.out.below (HB3.out))
          have hm3 : m3 ≤ N := by have h1 := hr3.len; have h2 := HG3.out.1; simp only at h2; omega
          have d1 : ¬ (N : Int) < (m3 : Int) := by omega
          have d2 : decide ((N : Int) < (m3 : Int)) = false := by simpa using d1
          have HMay := Lib.hid (HG3.out.may hN2)
          clear hr3 hf3 hq3 hgf3 hb3 C3 g0 g1 hcz HC HR HG
          rcases hq with hq | hq
          · subst hq
            go_wp2_with fail
            refine (may_any y3 A3 m3 c3 l3 N _ HR3.out (by omega)).mono ?_
            rintro e w4 ⟨he, hb4⟩
            rw [HMay.out] at he
            subst he
            have HC4 := Lib.hid (HC3.out.step hb4)
            have HR4 := Lib.hid (HR3.out.below hb4)
            have HB4 := Lib.hid (HB3.out.trans (hb4.mono HB3.out.size))
            obtain ⟨b', off', hA', hbk', hcz, hz0', hz1'⟩ := (HL3.out.below hb4) k z HZ.out
            injection hA' with hA'
            injection hA' with ea eb
            subst ea eb
            have v0 := HC4.out.c0
            have v1 := HC4.out.c1
            have hR4 := HC4.out.lt
            clear y0 y1 x0 x1 x2 x3 hb4 hz0' hz1'
            by_cases h7 : z % 7 = 0
            · have a1 : z.tmod 7 = 0 := by rw [Int.tmod_eq_emod_of_nonneg hz0]; exact h7
              go_wp2_with fail
              refine (half_any y3 A3 m3 c3 l3 _ HR4.out (by omega)).mono ?_
              rintro e w5 ⟨A5, m5, c5, B5, q5, d5, rfl, hr5, hf5, hq5, hgf5, hb5⟩
              obtain ⟨y5, hy5⟩ : ∃ y5, y5 = (Rp.half (y3, l3)).1.1 := ⟨_, rfl⟩
              obtain ⟨l5, hl5⟩ : ∃ l5, l5 = (Rp.half (y3, l3)).1.2 := ⟨_, rfl⟩
              have e1 : (Rp.half (y3, l3)).1 = (y5, l5) := by rw [hy5, hl5]
              have hhl := Rp.half_len (y3, l3)
              have hG5 := HG3.out.half
              rw [e1] at hhl hG5
              have hm5 := hq5.len
              have hm6 := hr5.len
              rw [← hl5] at hr5 hm6
              rw [hm5] at hhl
              simp only [hm6] at hhl
              obtain ⟨j1, j2, _⟩ := hhl
              rw [← hy5]
              have HG5 := Lib.hid hG5
              have f1 : ¬ (q5 : Int) < (m5 : Int) := by omega
              have f2 : decide ((q5 : Int) < (m5 : Int)) = false := by simpa using f1
              have hm7 : m5 ≤ 31 := by have h2 := hG5.1; simp only at h2; omega
              have f3 : IntKind.i64.wrap ((m5 : Int) + 1) = (m5 : Int) + 1 := IntWalk.i64_in _ (by omega)
              have f4 : ¬ (m5 : Int) + 1 < (q5 : Int) := by omega
              have f5 : decide ((m5 : Int) + 1 < (q5 : Int)) = false := by simpa using f4
              have C5 := (HC4.out.step hb5).alloc (.cells #[.int .i64 y5, .slice A5 m5 c5] 26)
              have x0 := C5.c0
              have x1 := C5.c1
              have x2 := C5.f0
              have x3 := C5.f1
              have HC5 := Lib.hid (C5.put (.int .i64 y5) (.slice A5 m5 c5))
              have HR5 := Lib.hid ((hr5.below_alloc (.cells #[.int .i64 y5, .slice A5 m5 c5] 26)).put (b := w1.heap.size) (u := .int .i64 y5) (v := .slice A5 m5 c5) (hf5.mono hR4))
              have HB5 := Lib.hid (below_put (b := w1.heap.size) (u := .int .i64 y5) (v := .slice A5 m5 c5) (((HB4.out.trans (hb5.mono HB4.out.size)).alloc (by have := hb5.size; have := HB4.out.size; omega) (.cells #[.int .i64 y5, .slice A5 m5 c5] 26))) hw1)
              clear hr5 hf5 hq5 hgf5 hb5 C5 v0 v1 hy5 hl5 e1 hG5 hm5 hm6 j1 j2
              go_wp2_with fail
              go_roundw
              case rel => exact ⟨k + 1, y5, A5, m5, c5, l5, by omega, by go_num, HC5, HR5, HG5, HB5⟩
              case measure => simp [intOf]; omega
            · have a1 : (z % 7 == 0) = false := by rw [beq_eq_false_iff_ne]; exact h7
              have a2 : z.tmod 7 = z % 7 := Int.tmod_eq_emod_of_nonneg hz0
              have a3 : (z.tmod 7 == 0) = false := by rw [a2]; exact a1
              go_wp2_with fail
              go_roundw
              case rel => exact ⟨k + 1, y3, A3, m3, c3, l3, by omega, by go_num, HC4, HR4, HG3, HB4⟩
              case measure => simp [intOf]; omega
          · subst hq
            have e1 : (((hh + 1 : Nat) : Int) != 0) = true := by rw [bne_iff_ne]; omega
            have e2 : ((hh : Int) + 1 != 0) = true := by rw [bne_iff_ne]; omega
            have e3 : IntKind.i64.wrap ((hh : Int) + 1) = (hh : Int) + 1 := IntWalk.i64_in _ (by omega)
            go_wp2_with fail
            refine (may_any y3 A3 m3 c3 l3 N _ HR3.out (by omega)).mono ?_
            rintro e w4 ⟨he, hb4⟩
            rw [HMay.out] at he
            subst he
            clear e1 e2 e3
            have HC4 := Lib.hid (HC3.out.step hb4)
            have HR4 := Lib.hid (HR3.out.below hb4)
            have HB4 := Lib.hid (HB3.out.trans (hb4.mono HB3.out.size))
            obtain ⟨b', off', hA', hbk', hcz, hz0', hz1'⟩ := (HL3.out.below hb4) k z HZ.out
            injection hA' with hA'
            injection hA' with ea eb
            subst ea eb
            have v0 := HC4.out.c0
            have v1 := HC4.out.c1
            have hR4 := HC4.out.lt
            clear y0 y1 x0 x1 x2 x3 hb4 hz0' hz1'
            by_cases h7 : z % 7 = 0
            · have a1 : z.tmod 7 = 0 := by rw [Int.tmod_eq_emod_of_nonneg hz0]; exact h7
              go_wp2_with fail
              refine (half_any y3 A3 m3 c3 l3 _ HR4.out (by omega)).mono ?_
              rintro e w5 ⟨A5, m5, c5, B5, q5, d5, rfl, hr5, hf5, hq5, hgf5, hb5⟩
              obtain ⟨y5, hy5⟩ : ∃ y5, y5 = (Rp.half (y3, l3)).1.1 := ⟨_, rfl⟩
              obtain ⟨l5, hl5⟩ : ∃ l5, l5 = (Rp.half (y3, l3)).1.2 := ⟨_, rfl⟩
              have e1 : (Rp.half (y3, l3)).1 = (y5, l5) := by rw [hy5, hl5]
              have hhl := Rp.half_len (y3, l3)
              have hG5 := HG3.out.half
              rw [e1] at hhl hG5
              have hm5 := hq5.len
              have hm6 := hr5.len
              rw [← hl5] at hr5 hm6
              rw [hm5] at hhl
              simp only [hm6] at hhl
              obtain ⟨j1, j2, _⟩ := hhl
              rw [← hy5]
              have HG5 := Lib.hid hG5
              have f1 : ¬ (q5 : Int) < (m5 : Int) := by omega
              have f2 : decide ((q5 : Int) < (m5 : Int)) = false := by simpa using f1
              have hm7 : m5 ≤ 31 := by have h2 := hG5.1; simp only at h2; omega
              have f3 : IntKind.i64.wrap ((m5 : Int) + 1) = (m5 : Int) + 1 := IntWalk.i64_in _ (by omega)
              have f4 : ¬ (m5 : Int) + 1 < (q5 : Int) := by omega
              have f5 : decide ((m5 : Int) + 1 < (q5 : Int)) = false := by simpa using f4
              have C5 := (HC4.out.step hb5).alloc (.cells #[.int .i64 y5, .slice A5 m5 c5] 26)
              have x0 := C5.c0
              have x1 := C5.c1
              have x2 := C5.f0
              have x3 := C5.f1
              have HC5 := Lib.hid (C5.put (.int .i64 y5) (.slice A5 m5 c5))
              have HR5 := Lib.hid ((hr5.below_alloc (.cells #[.int .i64 y5, .slice A5 m5 c5] 26)).put (b := w1.heap.size) (u := .int .i64 y5) (v := .slice A5 m5 c5) (hf5.mono hR4))
              have HB5 := Lib.hid (below_put (b := w1.heap.size) (u := .int .i64 y5) (v := .slice A5 m5 c5) (((HB4.out.trans (hb5.mono HB4.out.size)).alloc (by have := hb5.size; have := HB4.out.size; omega) (.cells #[.int .i64 y5, .slice A5 m5 c5] 26))) hw1)
              clear hr5 hf5 hq5 hgf5 hb5 C5 v0 v1 hy5 hl5 e1 hG5 hm5 hm6 j1 j2
              go_wp2_with fail
              go_roundw
              case rel => exact ⟨k + 1, y5, A5, m5, c5, l5, by omega, by go_num, HC5, HR5, HG5, HB5⟩
              case measure => simp [intOf]; omega
            · have a1 : (z % 7 == 0) = false := by rw [beq_eq_false_iff_ne]; exact h7
              have a2 : z.tmod 7 = z % 7 := Int.tmod_eq_emod_of_nonneg hz0
              have a3 : (z.tmod 7 == 0) = false := by rw [a2]; exact a1
              go_wp2_with fail
              go_roundw
              case rel => exact ⟨k + 1, y3, A3, m3, c3, l3, by omega, by go_num, HC4, HR4, HG3, HB4⟩
              case measure => simp [intOf]; omega
        · have a1 : (z % 3 == 0) = false := by rw [beq_eq_false_iff_ne]; exact h3
          have a2 : z.tmod 3 = z % 3 := Int.tmod_eq_emod_of_nonneg hz0
          have a3 : (z.tmod 3 == 0) = false := by rw [a2]; exact a1
          obtain ⟨P, hP⟩ : ∃ P, P = Rp.put (y, l) ((k : Int) + 1) N := ⟨_, rfl⟩
          have hPl : P.1.2.length ≤ N ∧ (P.2 = [] ∨ P.2.length = hh + 1) := by rw [hP, HH.out]; exact Rp.put_len (y, l) _ N hN2 HG.out.1
          have HG3 := Lib.hid (show Rp.Good P.1 N (k + 1) by rw [hP]; exact HG.out.put hN2)
          go_wp2_with fail
          refine (put_any y A m c l ((k : Int) + 1) N _ HR.out (by omega)).mono ?_
          clear a1 a2 a3
          rintro e w3 ⟨A3, m3, c3, B3', q3, d3, rfl, hr3, hf3, hq3, hgf3, hb3⟩
          rw [← hP] at hr3 hq3 ⊢
          obtain ⟨⟨y3, l3⟩, t3⟩ := P
          simp only at hr3 hq3 hP ⊢
          have hq : q3 = 0 ∨ q3 = hh + 1 := by
            have h1 := hq3.len
            have h2 := hPl.2
            rcases h2 with h2 | h2
            · left; rw [← h1]; simp only at h2; rw [h2]; rfl
            · right; simp only at h2; omega
          clear hP hPl
          have C3 := HC.out.step hb3
          have x0 := C3.c0
          have x1 := C3.c1
          have x2 := C3.f0
          have x3 := C3.f1
          have HC3 := Lib.hid (C3.put (.int .i64 y3) (.slice A3 m3 c3))
          have y0 := HC3.out.c0
          have y1 := HC3.out.c1
          have HR3 := Lib.hid (hr3.put (b := w1.heap.size) (u := .int .i64 y3) (v := .slice A3 m3 c3) (hf3.mono hR))
          have HB3 := Lib.hid (below_put (b := w1.heap.size) (u := .int .i64 y3) (v := .slice A3 m3 c3) (HB.out.trans (hb3.mono HB.out.size)) hw1)
          have HL3 := Lib.hid (HL.out.below (HB3.out))
          have hm3 : m3 ≤ N := by have h1 := hr3.len; have h2 := HG3.out.1; simp only at h2; omega
          have d1 : ¬ (N : Int) < (m3 : Int) := by omega
          have d2 : decide ((N : Int) < (m3 : Int)) = false := by simpa using d1
          have HMay := Lib.hid (HG3.out.may hN2)
          clear hr3 hf3 hq3 hgf3 hb3 C3 g0 g1 hcz HC HR HG
          rcases hq with hq | hq
          · subst hq
            go_wp2_with fail
            refine (may_any y3 A3 m3 c3 l3 N _ HR3.out (by omega)).mono ?_
            rintro e w4 ⟨he, hb4⟩
            rw [HMay.out] at he
            subst he
            have HC4 := Lib.hid (HC3.out.step hb4)
            have HR4 := Lib.hid (HR3.out.below hb4)
            have HB4 := Lib.hid (HB3.out.trans (hb4.mono HB3.out.size))
            obtain ⟨b', off', hA', hbk', hcz, hz0', hz1'⟩ := (HL3.out.below hb4) k z HZ.out
            injection hA' with hA'
            injection hA' with ea eb
            subst ea eb
            have v0 := HC4.out.c0
            have v1 := HC4.out.c1
            have hR4 := HC4.out.lt
            clear y0 y1 x0 x1 x2 x3 hb4 hz0' hz1'
            by_cases h7 : z % 7 = 0
            · have a1 : z.tmod 7 = 0 := by rw [Int.tmod_eq_emod_of_nonneg hz0]; exact h7
              go_wp2_with fail
              refine (half_any y3 A3 m3 c3 l3 _ HR4.out (by omega)).mono ?_
              rintro e w5 ⟨A5, m5, c5, B5, q5, d5, rfl, hr5, hf5, hq5, hgf5, hb5⟩
              obtain ⟨y5, hy5⟩ : ∃ y5, y5 = (Rp.half (y3, l3)).1.1 := ⟨_, rfl⟩
              obtain ⟨l5, hl5⟩ : ∃ l5, l5 = (Rp.half (y3, l3)).1.2 := ⟨_, rfl⟩
              have e1 : (Rp.half (y3, l3)).1 = (y5, l5) := by rw [hy5, hl5]
              have hhl := Rp.half_len (y3, l3)
              have hG5 := HG3.out.half
              rw [e1] at hhl hG5
              have hm5 := hq5.len
              have hm6 := hr5.len
              rw [← hl5] at hr5 hm6
              rw [hm5] at hhl
              simp only [hm6] at hhl
              obtain ⟨j1, j2, _⟩ := hhl
              rw [← hy5]
              have HG5 := Lib.hid hG5
              have f1 : ¬ (q5 : Int) < (m5 : Int) := by omega
              have f2 : decide ((q5 : Int) < (m5 : Int)) = false := by simpa using f1
              have hm7 : m5 ≤ 31 := by have h2 := hG5.1; simp only at h2; omega
              have f3 : IntKind.i64.wrap ((m5 : Int) + 1) = (m5 : Int) + 1 := IntWalk.i64_in _ (by omega)
              have f4 : ¬ (m5 : Int) + 1 < (q5 : Int) := by omega
              have f5 : decide ((m5 : Int) + 1 < (q5 : Int)) = false := by simpa using f4
              have C5 := (HC4.out.step hb5).alloc (.cells #[.int .i64 y5, .slice A5 m5 c5] 26)
              have x0 := C5.c0
              have x1 := C5.c1
              have x2 := C5.f0
              have x3 := C5.f1
              have HC5 := Lib.hid (C5.put (.int .i64 y5) (.slice A5 m5 c5))
              have HR5 := Lib.hid ((hr5.below_alloc (.cells #[.int .i64 y5, .slice A5 m5 c5] 26)).put (b := w1.heap.size) (u := .int .i64 y5) (v := .slice A5 m5 c5) (hf5.mono hR4))
              have HB5 := Lib.hid (below_put (b := w1.heap.size) (u := .int .i64 y5) (v := .slice A5 m5 c5) (((HB4.out.trans (hb5.mono HB4.out.size)).alloc (by have := hb5.size; have := HB4.out.size; omega) (.cells #[.int .i64 y5, .slice A5 m5 c5] 26))) hw1)
              clear hr5 hf5 hq5 hgf5 hb5 C5 v0 v1 hy5 hl5 e1 hG5 hm5 hm6 j1 j2
              go_wp2_with fail
              go_roundw
              case rel => exact ⟨k + 1, y5, A5, m5, c5, l5, by omega, by go_num, HC5, HR5, HG5, HB5⟩
              case measure => simp [intOf]; omega
            · have a1 : (z % 7 == 0) = false := by rw [beq_eq_false_iff_ne]; exact h7
              have a2 : z.tmod 7 = z % 7 := Int.tmod_eq_emod_of_nonneg hz0
              have a3 : (z.tmod 7 == 0) = false := by rw [a2]; exact a1
              go_wp2_with fail
              go_roundw
              case rel => exact ⟨k + 1, y3, A3, m3, c3, l3, by omega, by go_num, HC4, HR4, HG3, HB4⟩
              case measure => simp [intOf]; omega
          · subst hq
            have e1 : (((hh + 1 : Nat) : Int) != 0) = true := by rw [bne_iff_ne]; omega
            have e2 : ((hh : Int) + 1 != 0) = true := by rw [bne_iff_ne]; omega
            have e3 : IntKind.i64.wrap ((hh : Int) + 1) = (hh : Int) + 1 := IntWalk.i64_in _ (by omega)
            go_wp2_with fail
            refine (may_any y3 A3 m3 c3 l3 N _ HR3.out (by omega)).mono ?_
            rintro e w4 ⟨he, hb4⟩
            rw [HMay.out] at he
            subst he
            clear e1 e2 e3
            have HC4 := Lib.hid (HC3.out.step hb4)
            have HR4 := Lib.hid (HR3.out.below hb4)
            have HB4 := Lib.hid (HB3.out.trans (hb4.mono HB3.out.size))
            obtain ⟨b', off', hA', hbk', hcz, hz0', hz1'⟩ := (HL3.out.below hb4) k z HZ.out
            injection hA' with hA'
            injection hA' with ea eb
            subst ea eb
            have v0 := HC4.out.c0
            have v1 := HC4.out.c1
            have hR4 := HC4.out.lt
            clear y0 y1 x0 x1 x2 x3 hb4 hz0' hz1'
            by_cases h7 : z % 7 = 0
            · have a1 : z.tmod 7 = 0 := by rw [Int.tmod_eq_emod_of_nonneg hz0]; exact h7
              go_wp2_with fail
              refine (half_any y3 A3 m3 c3 l3 _ HR4.out (by omega)).mono ?_
              rintro e w5 ⟨A5, m5, c5, B5, q5, d5, rfl, hr5, hf5, hq5, hgf5, hb5⟩
              obtain ⟨y5, hy5⟩ : ∃ y5, y5 = (Rp.half (y3, l3)).1.1 := ⟨_, rfl⟩
              obtain ⟨l5, hl5⟩ : ∃ l5, l5 = (Rp.half (y3, l3)).1.2 := ⟨_, rfl⟩
              have e1 : (Rp.half (y3, l3)).1 = (y5, l5) := by rw [hy5, hl5]
              have hhl := Rp.half_len (y3, l3)
              have hG5 := HG3.out.half
              rw [e1] at hhl hG5
              have hm5 := hq5.len
              have hm6 := hr5.len
              rw [← hl5] at hr5 hm6
              rw [hm5] at hhl
              simp only [hm6] at hhl
              obtain ⟨j1, j2, _⟩ := hhl
              rw [← hy5]
              have HG5 := Lib.hid hG5
              have f1 : ¬ (q5 : Int) < (m5 : Int) := by omega
              have f2 : decide ((q5 : Int) < (m5 : Int)) = false := by simpa using f1
              have hm7 : m5 ≤ 31 := by have h2 := hG5.1; simp only at h2; omega
              have f3 : IntKind.i64.wrap ((m5 : Int) + 1) = (m5 : Int) + 1 := IntWalk.i64_in _ (by omega)
              have f4 : ¬ (m5 : Int) + 1 < (q5 : Int) := by omega
              have f5 : decide ((m5 : Int) + 1 < (q5 : Int)) = false := by simpa using f4
              have C5 := (HC4.out.step hb5).alloc (.cells #[.int .i64 y5, .slice A5 m5 c5] 26)
              have x0 := C5.c0
              have x1 := C5.c1
              have x2 := C5.f0
              have x3 := C5.f1
              have HC5 := Lib.hid (C5.put (.int .i64 y5) (.slice A5 m5 c5))
              have HR5 := Lib.hid ((hr5.below_alloc (.cells #[.int .i64 y5, .slice A5 m5 c5] 26)).put (b := w1.heap.size) (u := .int .i64 y5) (v := .slice A5 m5 c5) (hf5.mono hR4))
              have HB5 := Lib.hid (below_put (b := w1.heap.size) (u := .int .i64 y5) (v := .slice A5 m5 c5) (((HB4.out.trans (hb5.mono HB4.out.size)).alloc (by have := hb5.size; have := HB4.out.size; omega) (.cells #[.int .i64 y5, .slice A5 m5 c5] 26))) hw1)
              clear hr5 hf5 hq5 hgf5 hb5 C5 v0 v1 hy5 hl5 e1 hG5 hm5 hm6 j1 j2
              go_wp2_with fail
              go_roundw
              case rel => exact ⟨k + 1, y5, A5, m5, c5, l5, by omega, by go_num, HC5, HR5, HG5, HB5⟩
              case measure => simp [intOf]; omega
            · have a1 : (z % 7 == 0) = false := by rw [beq_eq_false_iff_ne]; exact h7
              have a2 : z.tmod 7 = z % 7 := Int.tmod_eq_emod_of_nonneg hz0
              have a3 : (z.tmod 7 == 0) = false := by rw [a2]; exact a1
              go_wp2_with fail
              go_roundw
              case rel => exact ⟨k + 1, y3, A3, m3, c3, l3, by omega, by go_num, HC4, HR4, HG3, HB4⟩
              case measure => simp [intOf]; omega
      · have i3 : ¬ (k : Int) < 300 := by omega
        have i4 : decide ((k : Int) < 300) = false := by simpa using i3
        go_wp2_with fail
        go_ret
        exact ⟨rfl, HB.out⟩
    · have i1 : ¬ (k : Int) < (n0 : Int) := by omega
      have i2 : decide ((k : Int) < (n0 : Int)) = false := by simpa using i1
      go_wp2_with fail
      go_ret
      exact ⟨rfl, HB.out⟩
set_option maxRecDepth 100000 in
theorem lifted (os : Os) (started : os.Started) (H : Type) (enc : TypeId × Value → H) :
    ReturnsInHanded {} Try.checked os 5 .any (Rows.ringBoundsSpec.pre6 enc Try.prog Try.f5 Rows.ringBoundsRow.domain false) (Rows.ringBoundsSpec.post enc Try.prog Try.f5 false true false false) := by
  refine returnsInHanded_of_change (C := Try.checked) own started (by kernel_rfl) Try.func5
    (ChangeSpec.witness6 (enc := enc) (C := Try.checked) false ⟨#[], #[.slice none 0 0, .int .u8 0], []⟩ 8 (by kernel_rfl) (by kernel_rfl) (by kernel_rfl) (by kernel_rfl)) ?_
  intro W base args ds gs before hval0 hW hcnd _
  have hval : ∀ (j : Nat) t v, Try.f5.params[j]? = some t → args[j]? = some v → Value.okWide Try.prog W .any base t v := hval0
  have hW' := hW
  obtain ⟨p, q, hA0, hV, rfl, hfz, hnd⟩ := hW
  have hA : DataW.TrodAll enc Try.prog W 0 (fun _ => true) true Try.f5.params.toList args.toList ds p := hA0
  rw [Try.params5] at hA hval
  obtain ⟨v0, vs0, d0, ds0, p0, q0, hargs, rfl, rfl, h0, r0⟩ := trodAll_cons hA
  obtain ⟨v1, vs1, d1, ds1, p1, q1, rfl, rfl, rfl, h1, r1⟩ := trodAll_cons r0
  obtain ⟨rfl, rfl, rfl⟩ := trodAll_nil r1
  obtain rfl : args = #[v0, v1] := by cases args; simp_all
  obtain ⟨rfl, rfl⟩ := trodVars_none hV
  have k0 := h0
  have lt0 : ∀ x ∈ p0, x.block < W.heap.size := by obtain ⟨m, hm⟩ := k0; exact DataW.trod_lt m _ _ _ hm
  obtain ⟨a0, len0, cap0, rfl⟩ := okWide_slice Try.underlying47 (hval 0 47 v0 rfl rfl)
  obtain ⟨aa0, ll0, cc0, z0, ev0, hn0, hr0⟩ : ∃ A n c zs, Value.slice a0 len0 cap0 = .slice A n c ∧ (zs.length = n ∧ n ≤ 9223372036854775807) ∧ BRow W A zs := by
    obtain ⟨fuel, hf⟩ := h0
    exact open_bytes (by simpa [Value.cells] using hf)
  injection ev0 with ea0 eb0 ec0
  subst ea0 eb0 ec0
  obtain ⟨a1, rfl, rfl, rfl, w1⟩ := open_int Try.underlying5 (hval 1 5 v1 rfl rfl) h1
  clear hA0 hval0
  refine (walk a0 len0 cap0 z0 a1 W (Lib.hid hn0.1) hn0.2 hr0 w1).mono fun e W' ⟨he, bel⟩ => ?_
  subst he
  exact ⟨_, rfl, _, _, _, [], _, [], hW', trodAll_mk1 (shut_bool Try.underlying4 _), (trodAll_cons_mk (Below.trod laidOut (by kernel_rfl) (of_decide_eq_true (by kernel_rfl)) k0 bel lt0) (trodAll_cons_mk (shut_int Try.underlying5 w1) trodAll_mk0)), rfl, bel.frame _, fun h => by cases h⟩
theorem over : Rows.ringBoundsRow.holds Try.pinned (OpenSpec.ofChange Rows.ringBoundsSpec) :=
  OpenClaim.holds_of_wide 5 Try.f5 rfl rfl rfl rfl rfl rfl rfl ⟨rfl, rfl, rfl, rfl, rfl⟩ rfl rfl rfl rfl rfl (by kernel_rfl) Try.func5 (by kernel_rfl)
    (of_decide_eq_true (by kernel_rfl)) (by unfold Func.isWrapper; first | (rw [if_pos (by decide +kernel)]; kernel_rfl) | (rw [if_neg (by decide +kernel)]; exact ⟨rfl, rfl⟩))
    (fun os started H enc _ => lifted os started H enc)
theorem proved : Rows.RingBoundsSaid := over
end Go.Proofs.Ythbofkhlbkdboaa.ringBounds

