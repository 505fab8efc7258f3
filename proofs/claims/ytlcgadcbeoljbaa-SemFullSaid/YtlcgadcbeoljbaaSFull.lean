/- SemFull: a count never goes above the greatest one; below it each release, where nobody waits, is one more: the call answers true and changes nothing that was there; for every input. -/
import Derived.Test.YtlcgadcbeoljbaaSCel
import Derived.Test.YtlcgadcbeoljbaaSMay
import Derived.Test.YtlcgadcbeoljbaaFrame
namespace Go.Proofs.Ytlcgadcbeoljbaa.semFull
open Go.ChangeShapes Go.WideShapes Go.ChangeAt Go.RowKit
set_option linter.unusedVariables false

/-- How much it counts after k. -/
def cnt (r k : Nat) : Int := if k ≤ r then 1000000 - (r : Int) + (k : Int) else 1000000
theorem cnt_zero (r : Nat) : cnt r 0 = 1000000 - (r : Int) := by unfold cnt; simp
theorem cnt_le {r k : Nat} (h : r < 10) : 999990 ≤ cnt r k ∧ cnt r k ≤ 1000000 := by unfold cnt; split <;> omega
theorem cnt_full {r k : Nat} (h : cnt r k = 1000000) : cnt r (k + 1) = 1000000 := by unfold cnt at h ⊢; split at h <;> split <;> omega
theorem cnt_more {r k : Nat} (h : cnt r k ≠ 1000000) : cnt r (k + 1) = cnt r k + 1 := by unfold cnt at h ⊢; split at h <;> split <;> omega
set_option maxHeartbeats 4000000 in
set_option maxRecDepth 100000 in
theorem walk (z y : Int) (w : World) (hz : (Lit.int .u8 z).wf = true) (hy : (Lit.int .u8 y).wf = true) :
    Calls Try.prog 6 #[.int .u8 z, .int .u8 y] w fun e w' => e = .returned (.bool true) ∧ Below w.heap.size w w' := by
  have hz' : 0 ≤ z ∧ z ≤ 255 := by simpa [Lit.wf, IntKind.min, IntKind.max, IntKind.signed, IntKind.bits] using hz
  have hy' : 0 ≤ y ∧ y ≤ 255 := by simpa [Lit.wf, IntKind.min, IntKind.max, IntKind.signed, IntKind.bits] using hy
  obtain ⟨u0, u1⟩ := hz'
  obtain ⟨u2, u3⟩ := hy'
  obtain ⟨r, m1, m2, hr⟩ := mod_nat 10 u0 (by omega)
  obtain ⟨q, m3, m4, hq⟩ := mod_nat 20 u2 (by omega)
  have m1 : z.tmod 10 = (r : Int) := m1
  have m2 : z % 10 = (r : Int) := m2
  have m3 : y.tmod 20 = (q : Int) := m3
  have m4 : y % 20 = (q : Int) := m4
  have s1 : IntKind.i64.wrap (1000000 - (r : Int)) = 1000000 - (r : Int) := IntWalk.i64_in _ (by omega)
  clear hz hy
  go_enter Try.func6, Try.ntmps6
  go_wp2_with fail
  refine (shown_any _).mono ?_
  rintro e w1 ⟨rfl, hb1⟩
  have B1 := Lib.hid hb1
  clear hb1
  go_wp2_with fail
  have C1 := Lib.hid (Cel.new w1 (.int .i64 (1000000 - (r : Int))) (.slice none 0 0) 26)
  have L1 := Lib.hid (Bl.mk (B1.out.alloc B1.out.size (.cells #[.int .i64 (1000000 - (r : Int)), .slice none 0 0] 26)))
  have hbw : w.heap.size ≤ w1.heap.size := B1.out.size
  generalize w1.heap.size = b at C1 hbw ⊢
  go_loopw [7] (fun i wr => ∃ (k : Nat) (v : Int) (A : Option Addr) (cc : Nat), k ≤ q ∧ i = .int .i64 k ∧ Hid (v = cnt r k) ∧ Hid (Cel wr b (.int .i64 v) (.slice A 0 cc)) ∧ Hid (Row wr A 0 cc []) ∧ Hid (Bl w wr)) (fun i _ => q - (intOf i).toNat)
  case atStart => exact ⟨0, _, none, 0, Nat.zero_le _, rfl, Lib.hid (cnt_zero r).symm, C1, Lib.hid (Row.nothing _), L1⟩
  case round =>
    obtain ⟨k, v, A, cc, hk, rfl, HV, HC, HR, HB⟩ := hrel
    have d0 := HC.out.c0
    have d1 := HC.out.c1
    have hbr : b < wr.heap.size := HC.out.lt
    have hv1 : 999990 ≤ v := by rw [HV.out]; exact (cnt_le hr).1
    have hv2 : v ≤ 1000000 := by rw [HV.out]; exact (cnt_le hr).2
    by_cases hkq : k < q
    · have p1 : (k : Int) < (q : Int) := by omega
      obtain ⟨u, hu⟩ : ∃ u, u = cnt r (k + 1) := ⟨_, rfl⟩
      have HV' := Lib.hid hu
      have hu1 : 999990 ≤ u := by rw [hu]; exact (cnt_le hr).1
      have hu2 : u ≤ 1000000 := by rw [hu]; exact (cnt_le hr).2
      have s2 : IntKind.i64.wrap (v + 1) = v + 1 := IntWalk.i64_in _ (by omega)
      have hu3 : u = min (v + 1) 1000000 := by
        rw [hu]
        by_cases hv : v = 1000000
        · rw [cnt_full (by rw [← HV.out]; exact hv), hv]; rfl
        · rw [cnt_more (by rw [← HV.out]; exact hv), ← HV.out]; omega
      have HE := Lib.hid (show Sp.rel (v, []) = ((u, []), 0) by
        unfold Sp.rel
        simp only
        by_cases hv : v = 1000000
        · rw [if_pos hv, hu3, hv]; rfl
        · rw [if_neg hv, hu3, show min (v + 1) 1000000 = v + 1 by omega])
      have t1 : (u != min (v + 1) 1000000) = false := by rw [hu3]; simp
      clear hu hu3
      go_wp2_with fail
      refine (rel_any _ A 0 cc [] _ HR.out (by omega) (by omega) (by omega)).mono ?_
      rintro e w2 ⟨A2, n2, c2, rfl, hr2, hf2, hb2⟩
      rw [HE.out] at hr2 ⊢
      obtain rfl : 0 = n2 := hr2.len
      obtain ⟨o2, ho2⟩ : ∃ o, o = Obj.cells #[.int .i64 u, .slice A2 0 c2] 26 := ⟨_, rfl⟩
      have hb3 := hb2.trans ((below_new w2 o2).mono hb2.size)
      have C2 := HC.out.step hb3
      have B2 := Lib.hid (HB.out.step hb3)
      have R2 := Lib.hid (hr2.below (below_new w2 o2))
      rw [ho2] at C2 B2 R2
      have N2 := Cel.new w2 (.int .i64 u) (.slice A2 0 c2) 26
      have hs2 := hb2.size
      have hF2 := Lib.hid hf2
      have e0 := C2.c0
      have e1 := C2.c1
      have e2 := N2.c0
      have e3 := N2.c1
      clear hr2 hf2 hb2 hb3 ho2 d0 d1 HC HR HB HE
      go_wp2_with fail
      refine (may_any _ A2 0 c2 [] _ R2.out (by omega)).mono ?_
      rintro e w3 ⟨rfl, hb3⟩
      rw [show decide (Sp.May (u, [])) = true from decide_eq_true ⟨by simp only; omega, by simp only; omega, .inr rfl, fun x hx => by simp at hx, by simp⟩]
      have C3 := C2.step hb3
      have N3 := N2.step hb3
      have B3 := Lib.hid (B2.out.step hb3)
      have R3 := Lib.hid (R2.out.below hb3)
      have f0 := C3.c0
      have f1 := C3.c1
      have f2 := C3.f0
      have f3 := C3.f1
      have f4 := N3.c0
      have f5 := N3.c1
      clear e0 e1 e2 e3 hb3 C2 N2 B2 R2
      have C4 := Lib.hid (C3.put (.int .i64 u) (.slice A2 0 c2))
      have R4 := Lib.hid (R3.out.put (b := b) (u := .int .i64 u) (v := .slice A2 0 c2) (hF2.out.mono hbr))
      have B4 := Lib.hid (Bl.mk (below_put (b := b) (u := .int .i64 u) (v := .slice A2 0 c2) B3.out.b hbw))
      clear C3 N3 R3 B3
      go_wp2_with fail
      go_roundw
      case rel => exact ⟨k + 1, _, A2, c2, by omega, by go_num, HV', C4, R4, B4⟩
      case measure => simp [intOf]; omega
    · obtain rfl : k = q := by omega
      have hv3 : v = min (1000000 - (r : Int) + (k : Int)) 1000000 := by rw [HV.out]; unfold cnt; split <;> omega
      have t1 : (v == min (1000000 - (r : Int) + (k : Int)) 1000000) = true := by rw [hv3]; simp
      have s2 : IntKind.i64.wrap (1000000 - (r : Int) + (k : Int)) = 1000000 - (r : Int) + (k : Int) := IntWalk.i64_in _ (by omega)
      clear hv3
      go_wp2_with fail
      go_ret
      exact ⟨rfl, HB.out.b⟩
set_option maxRecDepth 100000 in
theorem lifted (os : Os) (started : os.Started) (H : Type) (enc : TypeId × Value → H) :
    ReturnsInHanded {} Try.checked os 6 .any (Rows.semFullSpec.pre6 enc Try.prog Try.f6 Rows.semFullRow.domain false) (Rows.semFullSpec.post enc Try.prog Try.f6 false true false false) := by
  refine returnsInHanded_of_change (C := Try.checked) own started (by kernel_rfl) Try.func6
    (ChangeSpec.witness6 (enc := enc) (C := Try.checked) false ⟨#[], #[.int .u8 0, .int .u8 0], []⟩ 8 (by kernel_rfl) (by kernel_rfl) (by kernel_rfl) (by kernel_rfl)) ?_
  intro W base args ds gs before hval0 hW hcnd _
  have hval : ∀ (j : Nat) t v, Try.f6.params[j]? = some t → args[j]? = some v → Value.okWide Try.prog W .any base t v := hval0
  have hW' := hW
  obtain ⟨p, q, hA0, hV, rfl, hfz, hnd⟩ := hW
  have hA : DataW.TrodAll enc Try.prog W 0 (fun _ => true) true Try.f6.params.toList args.toList ds p := hA0
  rw [Try.params6] at hA hval
  obtain ⟨v0, vs0, d0, ds0, p0, q0, hargs, rfl, rfl, h0, r0⟩ := trodAll_cons hA
  obtain ⟨v1, vs1, d1, ds1, p1, q1, rfl, rfl, rfl, h1, r1⟩ := trodAll_cons r0
  obtain ⟨rfl, rfl, rfl⟩ := trodAll_nil r1
  obtain rfl : args = #[v0, v1] := by cases args; simp_all
  obtain ⟨rfl, rfl⟩ := trodVars_none hV
  obtain ⟨a0, rfl, rfl, rfl, w0⟩ := open_int Try.underlying5 (hval 0 5 v0 rfl rfl) h0
  obtain ⟨a1, rfl, rfl, rfl, w1⟩ := open_int Try.underlying5 (hval 1 5 v1 rfl rfl) h1
  clear hA0 hval0
  refine (walk a0 a1 W w0 w1).mono fun e W' ⟨he, bel⟩ => ?_
  subst he
  exact ⟨_, rfl, _, _, _, [], _, [], hW', trodAll_mk1 (shut_bool Try.underlying4 _), (trodAll_cons_mk (shut_int Try.underlying5 w0) (trodAll_cons_mk (shut_int Try.underlying5 w1) trodAll_mk0)), rfl, bel.frame _, fun h => by cases h⟩
theorem over : Rows.semFullRow.holds Try.pinned (OpenSpec.ofChange Rows.semFullSpec) :=
  OpenClaim.holds_of_wide 6 Try.f6 rfl rfl rfl rfl rfl rfl rfl ⟨rfl, rfl, rfl, rfl, rfl⟩ rfl rfl rfl rfl rfl (by kernel_rfl) Try.func6 (by kernel_rfl)
    (of_decide_eq_true (by kernel_rfl)) (by unfold Func.isWrapper; first | (rw [if_pos (by decide +kernel)]; kernel_rfl) | (rw [if_neg (by decide +kernel)]; exact ⟨rfl, rfl⟩))
    (fun os started H enc _ => lifted os started H enc)
theorem proved : Rows.SemFullSaid := over
end Go.Proofs.Ytlcgadcbeoljbaa.semFull

