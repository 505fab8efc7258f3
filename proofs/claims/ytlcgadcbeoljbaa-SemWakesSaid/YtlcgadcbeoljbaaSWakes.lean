/- SemWakes: as many are woken as were released while some waited; who waits is woken once, in turn: the call answers true and changes nothing that was there; for every input. -/
import Derived.Test.YtlcgadcbeoljbaaSCel
import Derived.Test.YtlcgadcbeoljbaaSMay
import Derived.Test.YtlcgadcbeoljbaaFrame
namespace Go.Proofs.Ytlcgadcbeoljbaa.semWakes
open Go.ChangeShapes Go.WideShapes Go.ChangeAt Go.RowKit
set_option linter.unusedVariables false

/-- m numbers, from a on. -/
def up (a m : Nat) : List Int := (List.range' a m).map (fun (i : Nat) => (i : Int))
theorem up_length (a m : Nat) : (up a m).length = m := by unfold up; simp
theorem up_zero (a : Nat) : up a 0 = [] := rfl
theorem up_snoc (a m : Nat) : up a (m + 1) = up a m ++ [((a + m : Nat) : Int)] := by
  unfold up
  rw [List.range'_concat, List.map_append]
  simp
theorem up_cons (a m : Nat) : up a (m + 1) = (a : Int) :: up (a + 1) m := by
  unfold up
  rw [List.range'_succ]
  simp
/-- What is left of a count of c, after k that came. -/
def left (c k : Nat) : Nat := c - k
theorem acq_step (c k : Nat) : Sp.acq ((left c k : Int), up (c + 1) (k - c)) (((k + 1 : Nat)) : Int) = (((left c (k + 1) : Int), up (c + 1) (k + 1 - c)), decide (k + 1 ≤ c)) := by
  unfold Sp.acq left
  by_cases h : k < c
  · rw [if_pos (by simp only; omega), show k + 1 - c = 0 by omega, show k - c = 0 by omega]
    simp only [up_zero]
    rw [decide_eq_true (by omega)]
    congr 2
    omega
  · rw [if_neg (by simp only; omega), decide_eq_false (by omega), show k + 1 - c = (k - c) + 1 by omega, up_snoc, show c + 1 + (k - c) = k + 1 by omega]
    congr 2
    show ((c - k : Nat) : Int) = ((c - (k + 1) : Nat) : Int)
    omega
theorem rel_step (a m : Nat) : Sp.rel ((0 : Int), up a (m + 1)) = ((0, up (a + 1) m), (a : Int)) := by
  rw [up_cons]
  rfl
set_option maxHeartbeats 4000000 in
set_option maxRecDepth 100000 in
theorem walk (z y : Int) (w : World) (hz : (Lit.int .u8 z).wf = true) (hy : (Lit.int .u8 y).wf = true) :
    Calls Try.prog 5 #[.int .u8 z, .int .u8 y] w fun e w' => e = .returned (.bool true) ∧ Below w.heap.size w w' := by
  have hz' : 0 ≤ z ∧ z ≤ 255 := by simpa [Lit.wf, IntKind.min, IntKind.max, IntKind.signed, IntKind.bits] using hz
  have hy' : 0 ≤ y ∧ y ≤ 255 := by simpa [Lit.wf, IntKind.min, IntKind.max, IntKind.signed, IntKind.bits] using hy
  obtain ⟨u0, u1⟩ := hz'
  obtain ⟨u2, u3⟩ := hy'
  obtain ⟨c, m1, m2, hc⟩ := mod_nat 6 u0 (by omega)
  obtain ⟨n, m3, m4, hn⟩ := mod_nat 40 u2 (by omega)
  have m1 : z.tmod 6 = (c : Int) := m1
  have m2 : z % 6 = (c : Int) := m2
  have m3 : y.tmod 40 = (n : Int) := m3
  have m4 : y % 40 = (n : Int) := m4
  clear hz hy
  go_enter Try.func5, Try.ntmps5
  go_wp2_with fail
  refine (shown_any _).mono ?_
  rintro e w1 ⟨rfl, hb1⟩
  have B1 := Lib.hid hb1
  clear hb1
  go_wp2_with fail
  have C1 := Lib.hid (Cel.new w1 (.int .i64 (c : Int)) (.slice none 0 0) 26)
  have L1 := Lib.hid (Bl.mk (B1.out.alloc B1.out.size (.cells #[.int .i64 (c : Int), .slice none 0 0] 26)))
  have hbw : w.heap.size ≤ w1.heap.size := B1.out.size
  generalize w1.heap.size = b at C1 hbw ⊢
  have R1 := Lib.hid (RI.mk C1.out (Row.nothing _))
  clear C1
  go_loopw [9] (fun i wr => ∃ (k : Nat) (v : Int) (A : Option Addr) (m cc : Nat) (l : List Int), k ≤ n ∧ i = .int .i64 ((k : Int) + 1) ∧ Hid (v = (left c k : Int) ∧ l = up (c + 1) (k - c)) ∧ Hid (RI wr b v A m cc l) ∧ Hid (Bl w wr)) (fun i _ => n + 1 - (intOf i).toNat)
  case atStart => exact ⟨0, _, none, 0, 0, [], Nat.zero_le _, rfl, Lib.hid ⟨rfl, by rw [show 0 - c = 0 by omega]; rfl⟩, R1, L1⟩
  case round =>
    obtain ⟨k, v, A, m, cc, l, hk, rfl, HV, HR, HB⟩ := hrel
    have d0 := HR.out.cel.c0
    have d1 := HR.out.cel.c1
    have hbr : b < wr.heap.size := HR.out.cel.lt
    have hv1 : 0 ≤ v := by rw [HV.out.1]; omega
    have hv2 : v ≤ 6 := by rw [HV.out.1]; unfold left; omega
    have hm : m ≤ 40 := by have h1 := HR.out.row.len; rw [HV.out.2, up_length] at h1; omega
    by_cases hkn : k < n
    · have p1 : (k : Int) + 1 ≤ (n : Int) := by omega
      obtain ⟨v2, hv⟩ : ∃ v2, v2 = (left c (k + 1) : Int) := ⟨_, rfl⟩
      obtain ⟨l2, hl⟩ : ∃ l2, l2 = up (c + 1) (k + 1 - c) := ⟨_, rfl⟩
      have HV2 := Lib.hid (And.intro hv hl)
      have he := acq_step c k
      rw [← hv, ← hl, ← HV.out.1, ← HV.out.2, show (((k + 1 : Nat)) : Int) = (k : Int) + 1 by omega] at he
      clear hv hl
      by_cases hkc : k + 1 ≤ c
      · rw [decide_eq_true hkc] at he
        have HE := Lib.hid he
        have p2 : (k : Int) + 1 ≤ (c : Int) := by omega
        have p3 : decide ((k : Int) + 1 ≤ (c : Int)) = true := by simpa using p2
        clear he
        go_wp2_with fail
        refine (acq_any v A m cc l ((k : Int) + 1) _ HR.out.row (by omega) (by omega) (by omega)).mono ?_
        rintro e w2 ⟨A2, n2, c2, rfl, hr2, hf2, hb2⟩
        rw [HE.out] at hr2 ⊢
        have hb3 := below_then hb2 (.cells #[.int .i64 v2, .slice A2 n2 c2] 26)
        have C2 := HR.out.cel.step hb3
        have N2 := RI.new (y := v2) (l := l2) 26 hr2
        have B2 := Lib.hid (HB.out.step hb3)
        have e0 := C2.c0
        have e1 := C2.c1
        have e2 := C2.f0
        have e3 := C2.f1
        have e4 := N2.cel.c0
        have e5 := N2.cel.c1
        have C4 := Lib.hid (RI.mk (C2.put (.int .i64 v2) (.slice A2 n2 c2)) (N2.row.put (b := b) (u := .int .i64 v2) (v := .slice A2 n2 c2) (hf2.mono hbr)))
        have B4 := Lib.hid (Bl.mk (below_put (b := b) (u := .int .i64 v2) (v := .slice A2 n2 c2) B2.out.b hbw))
        clear hr2 hf2 hb2 hb3 HR HB HE C2 N2 B2 d0 d1
        go_wp2_with fail
        go_roundw
        case rel => exact ⟨k + 1, v2, A2, n2, c2, l2, by omega, by go_num, HV2, C4, B4⟩
        case measure => simp [intOf]; omega
      · rw [decide_eq_false hkc] at he
        have HE := Lib.hid he
        have p2 : ¬ (k : Int) + 1 ≤ (c : Int) := by omega
        have p3 : decide ((k : Int) + 1 ≤ (c : Int)) = false := by simpa using p2
        clear he
        go_wp2_with fail
        refine (acq_any v A m cc l ((k : Int) + 1) _ HR.out.row (by omega) (by omega) (by omega)).mono ?_
        rintro e w2 ⟨A2, n2, c2, rfl, hr2, hf2, hb2⟩
        rw [HE.out] at hr2 ⊢
        have hb3 := below_then hb2 (.cells #[.int .i64 v2, .slice A2 n2 c2] 26)
        have C2 := HR.out.cel.step hb3
        have N2 := RI.new (y := v2) (l := l2) 26 hr2
        have B2 := Lib.hid (HB.out.step hb3)
        have e0 := C2.c0
        have e1 := C2.c1
        have e2 := C2.f0
        have e3 := C2.f1
        have e4 := N2.cel.c0
        have e5 := N2.cel.c1
        have C4 := Lib.hid (RI.mk (C2.put (.int .i64 v2) (.slice A2 n2 c2)) (N2.row.put (b := b) (u := .int .i64 v2) (v := .slice A2 n2 c2) (hf2.mono hbr)))
        have B4 := Lib.hid (Bl.mk (below_put (b := b) (u := .int .i64 v2) (v := .slice A2 n2 c2) B2.out.b hbw))
        clear hr2 hf2 hb2 hb3 HR HB HE C2 N2 B2 d0 d1
        go_wp2_with fail
        go_roundw
        case rel => exact ⟨k + 1, v2, A2, n2, c2, l2, by omega, by go_num, HV2, C4, B4⟩
        case measure => simp [intOf]; omega
    · obtain rfl : n = k := by omega
      have HVn := Lib.hid HV.out.1
      have hvn : v = (left c n : Int) := HV.out.1
      have H0 := Lib.hid (show v = (left c n : Int) ∧ l = up (c + 1) (c + 1 + (n - c) - (c + 1)) from ⟨HV.out.1, by rw [HV.out.2, show c + 1 + (n - c) - (c + 1) = n - c by omega]⟩)
      obtain ⟨wo, rfl⟩ : ∃ wo : World, wo = wr := ⟨_, rfl⟩
      obtain ⟨N, hN⟩ : ∃ N, N = c + 1 + (n - c) := ⟨_, rfl⟩
      rw [← hN] at H0
      clear d0 d1
      go_wp2_with fail
      go_loopw [12] (fun i wr => ∃ (a : Nat) (A : Option Addr) (m cc : Nat) (l : List Int), c + 1 ≤ a ∧ a ≤ N ∧ i = .int .i64 (a : Int) ∧ Hid (l = up a (N - a)) ∧ Hid (RI wr b v A m cc l) ∧ Hid (Bl w wr)) (fun i _ => n + 1 - (intOf i).toNat)
      case atStart => exact ⟨c + 1, A, m, cc, l, Nat.le_refl _, by omega, by go_num, Lib.hid H0.out.2, HR, HB⟩
      case round =>
        obtain ⟨a, A3, m3, cc3, l3, ha, haN, rfl, HL3, HR3, HB3⟩ := hrel
        have d0 := HR3.out.cel.c0
        have d1 := HR3.out.cel.c1
        have hbr3 : b < wr.heap.size := HR3.out.cel.lt
        have hm3 : m3 ≤ 40 := by have h1 := HR3.out.row.len; rw [HL3.out, up_length] at h1; omega
        by_cases han : a ≤ n
        · have p1 : (a : Int) ≤ (n : Int) := by omega
          have hv0 : v = 0 := by rw [hvn]; unfold left; omega
          subst hv0
          obtain ⟨l2, hl⟩ : ∃ l2, l2 = up (a + 1) (N - (a + 1)) := ⟨_, rfl⟩
          have HL2 := Lib.hid hl
          have HE := Lib.hid (show Sp.rel (0, l3) = ((0, l2), (a : Int)) by rw [HL3.out, hl, show N - a = (N - (a + 1)) + 1 by omega]; exact rel_step a _)
          have t1 : ((a : Int) != (a : Int)) = false := by simp
          clear hl hvn
          go_wp2_with fail
          refine (rel_any 0 A3 m3 cc3 l3 _ HR3.out.row (by omega) (by omega) (by omega)).mono ?_
          rintro e w2 ⟨A2, n2, c2, rfl, hr2, hf2, hb2⟩
          rw [HE.out] at hr2 ⊢
          have hb3 := below_then hb2 (.cells #[.int .i64 0, .slice A2 n2 c2] 26)
          have C2 := HR3.out.cel.step hb3
          have N2 := RI.new (y := 0) (l := l2) 26 hr2
          have B2 := Lib.hid (HB3.out.step hb3)
          have e0 := C2.c0
          have e1 := C2.c1
          have e2 := C2.f0
          have e3 := C2.f1
          have e4 := N2.cel.c0
          have e5 := N2.cel.c1
          have C4 := Lib.hid (RI.mk (C2.put (.int .i64 0) (.slice A2 n2 c2)) (N2.row.put (b := b) (u := .int .i64 0) (v := .slice A2 n2 c2) (hf2.mono hbr3)))
          have B4 := Lib.hid (Bl.mk (below_put (b := b) (u := .int .i64 0) (v := .slice A2 n2 c2) B2.out.b hbw))
          clear hr2 hf2 hb2 hb3 HR3 HB3 HE C2 N2 B2 d0 d1
          go_wp2_with fail
          go_roundw
          case rel => exact ⟨a + 1, A2, n2, c2, l2, by omega, by omega, by go_num, HL2, C4, B4⟩
          case measure => simp [intOf]; omega
        · obtain rfl : l3 = [] := by rw [HL3.out, show N - a = 0 by omega]; rfl
          obtain rfl : 0 = m3 := HR3.out.row.len
          have hv9 : v = max ((c : Int) - (n : Int)) 0 := by rw [hvn]; unfold left; omega
          have s1 : IntKind.i64.wrap ((c : Int) - (n : Int)) = (c : Int) - (n : Int) := IntWalk.i64_in _ (by omega)
          have s2 : IntKind.i64.wrap (max ((c : Int) - (n : Int)) 0 + 1) = max ((c : Int) - (n : Int)) 0 + 1 := IntWalk.i64_in _ (by omega)
          have t1 : (v + 1 == max ((c : Int) - (n : Int)) 0 + 1) = true := by rw [← hv9]; simp
          have HE := Lib.hid (show Sp.rel (v, []) = ((v + 1, []), 0) by unfold Sp.rel; simp only; rw [if_neg (by omega)])
          clear hvn hv9
          go_wp2_with fail
          refine (rel_any v A3 0 cc3 [] _ HR3.out.row (by omega) (by omega) (by omega)).mono ?_
          rintro e w2 ⟨A2, n2, c2, rfl, hr2, hf2, hb2⟩
          rw [HE.out] at hr2 ⊢
          obtain rfl : 0 = n2 := hr2.len
          have B2 := Lib.hid (HB3.out.step (below_then hb2 (.cells #[.int .i64 (v + 1), .slice A2 0 c2] 26)))
          have N2 := Cel.new w2 (.int .i64 (v + 1)) (.slice A2 0 c2) 26
          have e4 := N2.c0
          have e5 := N2.c1
          clear hr2 hf2 hb2 HE N2 d0 d1 HR3 HB3
          go_wp2_with fail
          go_ret
          exact ⟨rfl, B2.out.b⟩
set_option maxRecDepth 100000 in
theorem lifted (os : Os) (started : os.Started) (H : Type) (enc : TypeId × Value → H) :
    ReturnsInHanded {} Try.checked os 5 .any (Rows.semWakesSpec.pre6 enc Try.prog Try.f5 Rows.semWakesRow.domain false) (Rows.semWakesSpec.post enc Try.prog Try.f5 false true false false) := by
  refine returnsInHanded_of_change (C := Try.checked) own started (by kernel_rfl) Try.func5
    (ChangeSpec.witness6 (enc := enc) (C := Try.checked) false ⟨#[], #[.int .u8 0, .int .u8 0], []⟩ 8 (by kernel_rfl) (by kernel_rfl) (by kernel_rfl) (by kernel_rfl)) ?_
  intro W base args ds gs before hval0 hW hcnd _
  have hval : ∀ (j : Nat) t v, Try.f5.params[j]? = some t → args[j]? = some v → Value.okWide Try.prog W .any base t v := hval0
  have hW' := hW
  obtain ⟨p, q, hA0, hV, rfl, hfz, hnd⟩ := hW
  have hA : DataW.TrodAll enc Try.prog W 0 (fun _ => true) true Try.f5.params.toList args.toList ds p := hA0
  rw [Try.params5] at hA hval
  obtain ⟨v0, vs0, d0, ds0, p0, q0, hargs, rfl, rfl, h0, r0⟩ := trodAll_cons hA
  obtain ⟨v1, vs1, d1, ds1, p1, q1, rfl, rfl, rfl, h1, r1⟩ := trodAll_cons r0
  obtain ⟨rfl, rfl, rfl⟩ := trodAll_nil r1
  obtain rfl : args = #[v0, v1] := by cases args; simp_all
  obtain ⟨rfl, rfl⟩ := trodVars_none hV
  obtain ⟨a0, rfl, rfl, rfl, w0⟩ := open_int Try.underlying5 (hval 0 5 v0 rfl rfl) h0
  obtain ⟨a1, rfl, rfl, rfl, w1⟩ := open_int Try.underlying5 (hval 1 5 v1 rfl rfl) h1
  clear hA0 hval0
  refine (walk a0 a1 W w0 w1).mono fun e W' ⟨he, bel⟩ => ?_
  subst he
  exact ⟨_, rfl, _, _, _, [], _, [], hW', trodAll_mk1 (shut_bool Try.underlying4 _), (trodAll_cons_mk (shut_int Try.underlying5 w0) (trodAll_cons_mk (shut_int Try.underlying5 w1) trodAll_mk0)), rfl, bel.frame _, fun h => by cases h⟩
theorem over : Rows.semWakesRow.holds Try.pinned (OpenSpec.ofChange Rows.semWakesSpec) :=
  OpenClaim.holds_of_wide 5 Try.f5 rfl rfl rfl rfl rfl rfl rfl ⟨rfl, rfl, rfl, rfl, rfl⟩ rfl rfl rfl rfl rfl (by kernel_rfl) Try.func5 (by kernel_rfl)
    (of_decide_eq_true (by kernel_rfl)) (by unfold Func.isWrapper; first | (rw [if_pos (by decide +kernel)]; kernel_rfl) | (rw [if_neg (by decide +kernel)]; exact ⟨rfl, rfl⟩))
    (fun os started H enc _ => lifted os started H enc)
theorem proved : Rows.SemWakesSaid := over
end Go.Proofs.Ytlcgadcbeoljbaa.semWakes

