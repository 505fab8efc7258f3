/- RingOrder: what was added is taken in turn, who was put is taken ahead of all: the call answers true and changes nothing that was there; for every input. -/
import Derived.Test.YthbofkhlbkdboaaRCel
namespace Go.Proofs.Ythbofkhlbkdboaa.ringOrder
open Go.ChangeShapes Go.WideShapes Go.ChangeAt Go.RowKit
set_option linter.unusedVariables false

/-- The numbers from 1 to k. -/
def upto (k : Nat) : List Int := (List.range k).map fun (j : Nat) => (j : Int) + 1
theorem upto_length (k : Nat) : (upto k).length = k := by unfold upto; simp
theorem upto_succ (k : Nat) : upto (k + 1) = upto k ++ [(k : Int) + 1] := by unfold upto; rw [List.range_succ, List.map_append]; rfl
theorem upto_at {k j : Nat} (h : j < k) : (upto k)[j]? = some ((j : Int) + 1) := by unfold upto; simp [h]
theorem add_upto {j : Nat} (h : j < 20) : Rp.add (0, upto j) ((j : Int) + 1) 20 = ((0, upto (j + 1)), []) := by
  unfold Rp.add
  rw [if_pos (by rw [upto_length]; exact h), upto_succ]
theorem take_upto {k j : Nat} (h : j < k) : Rp.take (0, (upto k).drop j) = ((0, (upto k).drop (j + 1)), (j : Int) + 1) := by
  unfold Rp.take
  simp only [if_pos]
  rw [List.drop_drop]
  congr 1
  have := upto_at h
  rw [List.headD_eq_head?_getD, List.head?_drop, this]
  rfl
theorem take_none (k : Nat) : Rp.take (0, (upto k).drop k) = ((0, []), 0) := by
  rw [List.drop_of_length_le (by rw [upto_length]; exact Nat.le_refl _)]; rfl
set_option maxHeartbeats 4000000 in
set_option maxRecDepth 100000 in
theorem walk (a b : Int) (w : World) (hu : (Lit.int .u8 a).wf = true) (hv : (Lit.int .u8 b).wf = true) :
    Calls Try.prog 6 #[.int .u8 a, .int .u8 b] w fun e w' => e = .returned (.bool true) ∧ Below w.heap.size w w' := by
  have hu' : 0 ≤ a ∧ a ≤ 255 := by simpa [Lit.wf, IntKind.min, IntKind.max, IntKind.signed, IntKind.bits] using hu
  have hv' : 0 ≤ b ∧ b ≤ 255 := by simpa [Lit.wf, IntKind.min, IntKind.max, IntKind.signed, IntKind.bits] using hv
  obtain ⟨u0, u1⟩ := hu'
  obtain ⟨v0, v1⟩ := hv'
  obtain ⟨k, hk⟩ : ∃ k : Nat, (k : Int) = a % 20 := ⟨(a % 20).toNat, by omega⟩
  have hk20 : k < 20 := by omega
  have t1 : a.tmod 20 = (k : Int) := by rw [hk]; exact Int.tmod_eq_emod_of_nonneg u0
  have t2 : a % 20 = (k : Int) := hk.symm
  clear hu hv hk
  go_enter Try.func6, Try.ntmps6
  go_wp2_with fail
  refine (shown_any _).mono ?_
  rintro e w1 ⟨rfl, hb1⟩
  have B1 := Lib.hid hb1
  clear hb1
  go_wp2_with fail
  have C1 := Lib.hid (Cel.new w1 (.int .i64 0) (.slice none 0 0) 26)
  have B1' := Lib.hid (B1.out.trans ((below_new w1 (.cells #[.int .i64 0, .slice none 0 0] 26)).mono B1.out.size))
  have hw1 : w.heap.size ≤ w1.heap.size := B1.out.size
  go_loopw [8] (fun i wr => ∃ (j : Nat) (A : Option Addr) (n c : Nat), j ≤ k ∧ i = .int .i64 ((j : Int) + 1) ∧ Hid (Cel wr w1.heap.size (.int .i64 0) (.slice A n c)) ∧ Hid (Row wr A n c (upto j)) ∧ Hid (Below w.heap.size w wr)) (fun i _ => 21 - (intOf i).toNat)
  case atStart => exact ⟨0, none, 0, 0, Nat.zero_le _, rfl, C1, Lib.hid (Row.nothing _), B1'⟩
  case round =>
    obtain ⟨j, A, n, c, hj, rfl, HC, HR, HB⟩ := hrel
    have g0 := HC.out.c0
    have g1 := HC.out.c1
    obtain rfl : j = n := by have := HR.out.len; rw [upto_length] at this; exact this
    have hR := HC.out.lt
    by_cases hlt : j < k
    · have i1 : (j : Int) + 1 ≤ (k : Int) := by omega
      have HA := Lib.hid (add_upto (j := j) (by omega))
      go_wp2_with fail
      refine (add_any 0 A j c (upto j) ((j : Int) + 1) 20 _ HR.out (by omega)).mono ?_
      rintro e w2 ⟨A2, n2, c2, B2, m2, d2, rfl, hr2, hf2, hq2, hg2, hb2⟩
      rw [HA.out] at hr2 hq2 ⊢
      obtain rfl : 0 = m2 := hq2.len
      have C2 := (HC.out.step hb2).alloc (.cells #[.int .i64 0, .slice A2 n2 c2] 26)
      have q0 := C2.c0
      have q1 := C2.c1
      have q2 := C2.f0
      have q3 := C2.f1
      have HC2 := Lib.hid (C2.put (.int .i64 0) (.slice A2 n2 c2))
      have HR2 := Lib.hid ((hr2.below_alloc (.cells #[.int .i64 0, .slice A2 n2 c2] 26)).put (b := w1.heap.size) (u := .int .i64 0) (v := .slice A2 n2 c2) (hf2.mono hR))
      have HB2 := Lib.hid (below_put (b := w1.heap.size) (u := .int .i64 0) (v := .slice A2 n2 c2) (((HB.out.trans (hb2.mono HB.out.size)).alloc (by have := hb2.size; have := HB.out.size; omega) (.cells #[.int .i64 0, .slice A2 n2 c2] 26))) hw1)
      clear hr2 hf2 hq2 hg2 hb2 C2 g0 g1
      go_wp2_with fail
      go_roundw
      case rel => exact ⟨j + 1, A2, n2, c2, by omega, by go_num, HC2, HR2, HB2⟩
      case measure => simp [intOf]; omega
    · obtain rfl : j = k := by omega
      by_cases hm : b % 2 = 1
      · have m1 : b.tmod 2 = 1 := by rw [Int.tmod_eq_emod_of_nonneg v0]; exact hm
        go_wp2_with fail
        refine (put_any 0 A j c (upto j) 100 20 _ HR.out (by omega)).mono ?_
        rintro e w2 ⟨A2, n2, c2, B2, m2, d2, rfl, hr2, hf2, hq2, hg2, hb2⟩
        rw [show Rp.put (0, upto j) 100 20 = ((100, upto j), []) from rfl] at hr2 hq2 ⊢
        obtain rfl : 0 = m2 := hq2.len
        obtain rfl : j = n2 := by have := hr2.len; rw [upto_length] at this; exact this
        have C2 := (HC.out.step hb2).alloc (.cells #[.int .i64 100, .slice A2 j c2] 26)
        have q0 := C2.c0
        have q1 := C2.c1
        have q2 := C2.f0
        have q3 := C2.f1
        have HC2 := Lib.hid (C2.put (.int .i64 100) (.slice A2 j c2))
        have HR2 := Lib.hid ((hr2.below_alloc (.cells #[.int .i64 100, .slice A2 j c2] 26)).put (b := w1.heap.size) (u := .int .i64 100) (v := .slice A2 j c2) (hf2.mono hR))
        have HB2 := Lib.hid (below_put (b := w1.heap.size) (u := .int .i64 100) (v := .slice A2 j c2) (((HB.out.trans (hb2.mono HB.out.size)).alloc (by have := hb2.size; have := HB.out.size; omega) (.cells #[.int .i64 100, .slice A2 j c2] 26))) hw1)
        have s0 := HC2.out.c0
        have s1 := HC2.out.c1
        have hlt2 := HC2.out.lt
        clear hr2 hf2 hq2 hg2 hb2 C2 g0 g1
        go_wp2_with fail
        refine (take_any 100 A2 j c2 (upto j) _ HR2.out (by omega)).mono ?_
        rintro e w3 ⟨A3, n3, c3, rfl, hr3, hf3, hb3⟩
        rw [show Rp.take (100, upto j) = ((0, upto j), 100) from rfl] at hr3 ⊢
        have C3 := (HC2.out.step hb3).alloc (.cells #[.int .i64 0, .slice A3 n3 c3] 26)
        have p0 := C3.c0
        have p1 := C3.c1
        have p2 := C3.f0
        have p3 := C3.f1
        have HC3 := Lib.hid (C3.put (.int .i64 0) (.slice A3 n3 c3))
        have HR3 := Lib.hid ((hr3.below_alloc (.cells #[.int .i64 0, .slice A3 n3 c3] 26)).put (b := w1.heap.size) (u := .int .i64 0) (v := .slice A3 n3 c3) (hf3.mono hlt2))
        have HB3 := Lib.hid (below_put (b := w1.heap.size) (u := .int .i64 0) (v := .slice A3 n3 c3) (((HB2.out.trans (hb3.mono HB2.out.size)).alloc (by have := hb3.size; have := HB2.out.size; omega) (.cells #[.int .i64 0, .slice A3 n3 c3] 26))) hw1)
        clear hr3 hf3 hb3 C3 q0 q1 q2 q3 s0 s1 HC2 HR2 HB2 HC HR HB
        go_wp2_with fail
        go_loopw [15] (fun i wr => ∃ (t : Nat) (A : Option Addr) (n c : Nat), t ≤ j ∧ i = .int .i64 ((t : Int) + 1) ∧ Hid (Cel wr w1.heap.size (.int .i64 0) (.slice A n c)) ∧ Hid (Row wr A n c ((upto j).drop t)) ∧ Hid (Below w.heap.size w wr)) (fun i _ => 21 - (intOf i).toNat)
        case atStart => exact ⟨0, _, _, _, Nat.zero_le _, rfl, HC3, HR3, HB3⟩
        case round =>
          obtain ⟨t, A, n, c, ht, rfl, HC, HR, HB⟩ := hrel
          have g0 := HC.out.c0
          have g1 := HC.out.c1
          have hR := HC.out.lt
          have HN := Lib.hid (show n ≤ 100000 by have := HR.out.len; rw [List.length_drop, upto_length] at this; omega)
          by_cases hlt : t < j
          · have i1 : (t : Int) + 1 ≤ (j : Int) := by omega
            have HA := Lib.hid (take_upto hlt)
            go_wp2_with fail
            refine (take_any 0 A n c ((upto j).drop t) _ HR.out HN.out).mono ?_
            rintro e w2 ⟨A2, n2, c2, rfl, hr2, hf2, hb2⟩
            rw [HA.out] at hr2 ⊢
            have C2 := (HC.out.step hb2).alloc (.cells #[.int .i64 0, .slice A2 n2 c2] 26)
            have q0 := C2.c0
            have q1 := C2.c1
            have q2 := C2.f0
            have q3 := C2.f1
            have HC2 := Lib.hid (C2.put (.int .i64 0) (.slice A2 n2 c2))
            have HR2 := Lib.hid ((hr2.below_alloc (.cells #[.int .i64 0, .slice A2 n2 c2] 26)).put (b := w1.heap.size) (u := .int .i64 0) (v := .slice A2 n2 c2) (hf2.mono hR))
            have HB2 := Lib.hid (below_put (b := w1.heap.size) (u := .int .i64 0) (v := .slice A2 n2 c2) (((HB.out.trans (hb2.mono HB.out.size)).alloc (by have := hb2.size; have := HB.out.size; omega) (.cells #[.int .i64 0, .slice A2 n2 c2] 26))) hw1)
            clear hr2 hf2 hb2 C2 g0 g1
            go_wp2_with fail
            go_roundw
            case rel => exact ⟨t + 1, A2, n2, c2, by omega, by go_num, HC2, HR2, HB2⟩
            case measure => simp [intOf]; omega
          · obtain rfl : t = j := by omega
            have HA := Lib.hid (take_none t)
            go_wp2_with fail
            refine (take_any 0 A n c ((upto t).drop t) _ HR.out HN.out).mono ?_
            rintro e w2 ⟨A2, n2, c2, rfl, hr2, hf2, hb2⟩
            rw [HA.out] at hr2 ⊢
            have HB2 := Lib.hid ((HB.out.trans (hb2.mono HB.out.size)).alloc (by have := hb2.size; have := HB.out.size; omega) (.cells #[.int .i64 0, .slice A2 n2 c2] 26))
            clear hr2 hf2 hb2
            go_wp2_with fail
            go_ret
            exact ⟨rfl, HB2.out⟩
      · have m1 : (b % 2 == 1) = false := by rw [beq_eq_false_iff_ne]; exact hm
        go_wp2_with fail
        go_loopw [15] (fun i wr => ∃ (t : Nat) (A : Option Addr) (n c : Nat), t ≤ j ∧ i = .int .i64 ((t : Int) + 1) ∧ Hid (Cel wr w1.heap.size (.int .i64 0) (.slice A n c)) ∧ Hid (Row wr A n c ((upto j).drop t)) ∧ Hid (Below w.heap.size w wr)) (fun i _ => 21 - (intOf i).toNat)
        case atStart => exact ⟨0, _, _, _, Nat.zero_le _, rfl, HC, HR, HB⟩
        case round =>
          obtain ⟨t, A, n, c, ht, rfl, HC, HR, HB⟩ := hrel
          have g0 := HC.out.c0
          have g1 := HC.out.c1
          have hR := HC.out.lt
          have HN := Lib.hid (show n ≤ 100000 by have := HR.out.len; rw [List.length_drop, upto_length] at this; omega)
          by_cases hlt : t < j
          · have i1 : (t : Int) + 1 ≤ (j : Int) := by omega
            have HA := Lib.hid (take_upto hlt)
            go_wp2_with fail
            refine (take_any 0 A n c ((upto j).drop t) _ HR.out HN.out).mono ?_
            rintro e w2 ⟨A2, n2, c2, rfl, hr2, hf2, hb2⟩
            rw [HA.out] at hr2 ⊢
            have C2 := (HC.out.step hb2).alloc (.cells #[.int .i64 0, .slice A2 n2 c2] 26)
            have q0 := C2.c0
            have q1 := C2.c1
            have q2 := C2.f0
            have q3 := C2.f1
            have HC2 := Lib.hid (C2.put (.int .i64 0) (.slice A2 n2 c2))
            have HR2 := Lib.hid ((hr2.below_alloc (.cells #[.int .i64 0, .slice A2 n2 c2] 26)).put (b := w1.heap.size) (u := .int .i64 0) (v := .slice A2 n2 c2) (hf2.mono hR))
            have HB2 := Lib.hid (below_put (b := w1.heap.size) (u := .int .i64 0) (v := .slice A2 n2 c2) (((HB.out.trans (hb2.mono HB.out.size)).alloc (by have := hb2.size; have := HB.out.size; omega) (.cells #[.int .i64 0, .slice A2 n2 c2] 26))) hw1)
            clear hr2 hf2 hb2 C2 g0 g1
            go_wp2_with fail
            go_roundw
            case rel => exact ⟨t + 1, A2, n2, c2, by omega, by go_num, HC2, HR2, HB2⟩
            case measure => simp [intOf]; omega
          · obtain rfl : t = j := by omega
            have HA := Lib.hid (take_none t)
            go_wp2_with fail
            refine (take_any 0 A n c ((upto t).drop t) _ HR.out HN.out).mono ?_
            rintro e w2 ⟨A2, n2, c2, rfl, hr2, hf2, hb2⟩
            rw [HA.out] at hr2 ⊢
            have HB2 := Lib.hid ((HB.out.trans (hb2.mono HB.out.size)).alloc (by have := hb2.size; have := HB.out.size; omega) (.cells #[.int .i64 0, .slice A2 n2 c2] 26))
            clear hr2 hf2 hb2
            go_wp2_with fail
            go_ret
            exact ⟨rfl, HB2.out⟩
set_option maxRecDepth 100000 in
theorem lifted (os : Os) (started : os.Started) (H : Type) (enc : TypeId × Value → H) :
    ReturnsInHanded {} Try.checked os 6 .any (Rows.ringOrderSpec.pre6 enc Try.prog Try.f6 Rows.ringOrderRow.domain false) (Rows.ringOrderSpec.post enc Try.prog Try.f6 false true false false) := by
  refine returnsInHanded_of_change (C := Try.checked) own started (by kernel_rfl) Try.func6
    (ChangeSpec.witness6 (enc := enc) (C := Try.checked) false ⟨#[], #[.int .u8 0, .int .u8 0], []⟩ 8 (by kernel_rfl) (by kernel_rfl) (by kernel_rfl) (by kernel_rfl)) ?_
  intro W base args ds gs before hval0 hW hcnd _
  have hval : ∀ (j : Nat) t v, Try.f6.params[j]? = some t → args[j]? = some v → Value.okWide Try.prog W .any base t v := hval0
  have hW' := hW
  obtain ⟨p, q, hA0, hV, rfl, hfz, hnd⟩ := hW
  have hA : DataW.TrodAll enc Try.prog W 0 (fun _ => true) true Try.f6.params.toList args.toList ds p := hA0
  rw [Try.params6] at hA hval
  obtain ⟨v0, vs0, d0, ds0, p0, q0, hargs, rfl, rfl, h0, r0⟩ := trodAll_cons hA
  obtain ⟨v1, vs1, d1, ds1, p1, q1, rfl, rfl, rfl, h1, r1⟩ := trodAll_cons r0
  obtain ⟨rfl, rfl, rfl⟩ := trodAll_nil r1
  obtain rfl : args = #[v0, v1] := by cases args; simp_all
  obtain ⟨rfl, rfl⟩ := trodVars_none hV
  obtain ⟨a0, rfl, rfl, rfl, w0⟩ := open_int Try.underlying5 (hval 0 5 v0 rfl rfl) h0
  obtain ⟨a1, rfl, rfl, rfl, w1⟩ := open_int Try.underlying5 (hval 1 5 v1 rfl rfl) h1
  clear hA0 hval0
  refine (walk a0 a1 W w0 w1).mono fun e W' ⟨he, bel⟩ => ?_
  subst he
  exact ⟨_, rfl, _, _, _, [], _, [], hW', trodAll_mk1 (shut_bool Try.underlying4 _), (trodAll_cons_mk (shut_int Try.underlying5 w0) (trodAll_cons_mk (shut_int Try.underlying5 w1) trodAll_mk0)), rfl, bel.frame _, fun h => by cases h⟩
theorem over : Rows.ringOrderRow.holds Try.pinned (OpenSpec.ofChange Rows.ringOrderSpec) :=
  OpenClaim.holds_of_wide 6 Try.f6 rfl rfl rfl rfl rfl rfl rfl ⟨rfl, rfl, rfl, rfl, rfl⟩ rfl rfl rfl rfl rfl (by kernel_rfl) Try.func6 (by kernel_rfl)
    (of_decide_eq_true (by kernel_rfl)) (by unfold Func.isWrapper; first | (rw [if_pos (by decide +kernel)]; kernel_rfl) | (rw [if_neg (by decide +kernel)]; exact ⟨rfl, rfl⟩))
    (fun os started H enc _ => lifted os started H enc)
theorem proved : Rows.RingOrderSaid := over
end Go.Proofs.Ythbofkhlbkdboaa.ringOrder

