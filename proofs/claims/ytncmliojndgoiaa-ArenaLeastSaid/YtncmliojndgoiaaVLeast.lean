/- ArenaLeast: numbers that never lived are taken from the least one on, as long as none was freed: the call answers true and changes nothing that was there; for every input. -/
import Derived.Test.YtncmliojndgoiaaVCel
import Derived.Test.YtncmliojndgoiaaFrame
namespace Go.Proofs.Ytncmliojndgoiaa.arenaLeast
open Go.ChangeShapes Go.WideShapes Go.ChangeAt Go.RowKit
set_option linter.unusedVariables false

set_option maxHeartbeats 4000000 in
set_option maxRecDepth 100000 in
theorem walk (z : Int) (w : World) (hu : (Lit.int .u8 z).wf = true) :
    Calls Try.prog 8 #[.int .u8 z] w fun e w' => e = .returned (.bool true) ∧ Below w.heap.size w w' := by
  have hu' : 0 ≤ z ∧ z ≤ 255 := by simpa [Lit.wf, IntKind.min, IntKind.max, IntKind.signed, IntKind.bits] using hu
  obtain ⟨u0, u1⟩ := hu'
  obtain ⟨r, m1, hr⟩ := mod_nat 64 u0 (by omega)
  have m1 : z.tmod 64 = (r : Int) := m1
  have m2 : z % 64 = (r : Int) := by rw [← m1, Int.tmod_eq_emod_of_nonneg u0]
  clear hu
  go_enter Try.func8, Try.ntmps8
  go_wp2_with fail
  refine (shown_any _).mono ?_
  rintro e w1 ⟨rfl, hb1⟩
  have B1 := Lib.hid hb1
  clear hb1
  go_wp2_with fail
  obtain ⟨n, hn⟩ : ∃ n : Nat, n = r + 1 := ⟨_, rfl⟩
  have hnr : 1 + (r : Int) = (n : Int) := by omega
  rw [hnr]
  clear m1 m2 hnr u0 u1
  refine (new_yes n w1 (by omega) (by omega)).mono ?_
  intro e w2 hN
  have C1 := Lib.hid (VC.new B1.out hN)
  obtain ⟨rfl, hx⟩ := hN
  clear hx
  generalize w1.heap.size + 1 = b at C1 ⊢
  generalize (fun k => k = w1.heap.size ∨ k = b) = F at C1
  have F1 := Lib.hid (Vp.Fresh.new n)
  have hn1 : 1 ≤ n ∧ n ≤ 64 := by omega
  obtain ⟨hn1, hn2⟩ := hn1
  clear hn hr
  go_wp2_with fail
  go_loopw [7] (fun i wr => ∃ (k : Nat) (a : Vp.Ar), k ≤ n ∧ i = .int .i64 (k + 1) ∧ Hid (VC w wr b F a k) ∧ Hid (Vp.Fresh a n k)) (fun i _ => n + 1 - (intOf i).toNat)
  case atStart => exact ⟨0, Vp.new n, Nat.zero_le _, rfl, C1, F1⟩
  case round =>
    obtain ⟨k, a, hk, rfl, HC, HF⟩ := hrel
    by_cases hkn : k < n
    · obtain ⟨a', ht, hf'⟩ := HF.out.take hkn
      obtain ⟨tv, ta⟩ := tookV_of ht
      have HF' := Lib.hid hf'
      have HT := Lib.hid tv
      have HTA := Lib.hid ta
      have L1 := Lib.hid (show a'.live.contains ((k : Int) + 1) = true by rw [fresh_has hf', decide_eq_true_eq]; omega)
      have L2 := Lib.hid (show a'.live.contains ((k : Int) + 1 + 1) = false by rw [fresh_has hf', decide_eq_false_iff_not]; omega)
      clear hf' tv ta ht
      go_wp2_with fail
      refine (take_any b F a k wr HC.out.ar (by omega)).mono ?_
      intro e w3 ht
      have C3 := Lib.hid (HC.out.took ht)
      obtain ⟨rfl, hx⟩ := ht
      rw [HTA.out] at C3
      rw [HT.out]
      clear hx
      go_wp2_with fail
      refine (live_any b F a' _ _ w3 C3.out.ar (in64_small (by omega) (by omega))).mono ?_
      rintro e w4 ⟨rfl, hb⟩
      have C4 := Lib.hid (C3.out.step hb)
      rw [L1.out]
      clear hb
      go_wp2_with fail
      refine (live_any b F a' _ _ w4 C4.out.ar (by unfold In64; omega)).mono ?_
      rintro e w5 ⟨rfl, hb⟩
      have C5 := Lib.hid (C4.out.step hb)
      rw [L2.out]
      clear hb
      go_wp2_with fail
      go_roundw
      case rel => exact ⟨k + 1, a', by omega, by go_num, C5, HF'⟩
      case measure => simp [intOf]; omega
    · obtain rfl : k = n := by omega
      have ht := HF.out.full
      obtain ⟨tv, ta⟩ := tookV_of ht
      have HT := Lib.hid tv
      have HTA := Lib.hid ta
      have HL := Lib.hid (show a.live.length = k from HF.out.toFull.len)
      clear tv ta ht
      go_wp2_with fail
      refine (take_any b F a k wr HC.out.ar (by omega)).mono ?_
      intro e w3 ht
      have C3 := Lib.hid (HC.out.took ht)
      obtain ⟨rfl, hx⟩ := ht
      rw [HTA.out] at C3
      rw [HT.out]
      clear hx
      go_wp2_with fail
      refine (count_any b F a _ w3 C3.out.ar).mono ?_
      rintro e w4 ⟨rfl, rfl⟩
      rw [HL.out]
      go_wp2_with fail
      go_ret
      exact ⟨rfl, C3.out.below⟩
set_option maxRecDepth 100000 in
theorem lifted (os : Os) (started : os.Started) (H : Type) (enc : TypeId × Value → H) :
    ReturnsInHanded {} Try.checked os 8 .any (Rows.arenaLeastSpec.pre6 enc Try.prog Try.f8 Rows.arenaLeastRow.domain false) (Rows.arenaLeastSpec.post enc Try.prog Try.f8 false true false false) := by
  refine returnsInHanded_of_change (C := Try.checked) own started (by kernel_rfl) Try.func8
    (ChangeSpec.witness6 (enc := enc) (C := Try.checked) false ⟨#[], #[.int .u8 0], []⟩ 8 (by kernel_rfl) (by kernel_rfl) (by kernel_rfl) (by kernel_rfl)) ?_
  intro W base args ds gs before hval0 hW hcnd _
  have hval : ∀ (j : Nat) t v, Try.f8.params[j]? = some t → args[j]? = some v → Value.okWide Try.prog W .any base t v := hval0
  have hW' := hW
  obtain ⟨p, q, hA0, hV, rfl, hfz, hnd⟩ := hW
  have hA : DataW.TrodAll enc Try.prog W 0 (fun _ => true) true Try.f8.params.toList args.toList ds p := hA0
  rw [Try.params8] at hA hval
  obtain ⟨v0, vs0, d0, ds0, p0, q0, hargs, rfl, rfl, h0, r0⟩ := trodAll_cons hA
  obtain ⟨rfl, rfl, rfl⟩ := trodAll_nil r0
  obtain rfl : args = #[v0] := by cases args; simp_all
  obtain ⟨rfl, rfl⟩ := trodVars_none hV
  obtain ⟨a0, rfl, rfl, rfl, w0⟩ := open_int Try.underlying5 (hval 0 5 v0 rfl rfl) h0
  clear hA0 hval0
  refine (walk a0 W w0).mono fun e W' ⟨he, bel⟩ => ?_
  subst he
  exact ⟨_, rfl, _, _, _, [], _, [], hW', trodAll_mk1 (shut_bool Try.underlying4 _), (trodAll_cons_mk (shut_int Try.underlying5 w0) trodAll_mk0), rfl, bel.frame _, fun h => by cases h⟩
theorem over : Rows.arenaLeastRow.holds Try.pinned (OpenSpec.ofChange Rows.arenaLeastSpec) :=
  OpenClaim.holds_of_wide 8 Try.f8 rfl rfl rfl rfl rfl rfl rfl ⟨rfl, rfl, rfl, rfl, rfl⟩ rfl rfl rfl rfl rfl (by kernel_rfl) Try.func8 (by kernel_rfl)
    (of_decide_eq_true (by kernel_rfl)) (by unfold Func.isWrapper; first | (rw [if_pos (by decide +kernel)]; kernel_rfl) | (rw [if_neg (by decide +kernel)]; exact ⟨rfl, rfl⟩))
    (fun os started H enc _ => lifted os started H enc)
theorem proved : Rows.ArenaLeastSaid := over
end Go.Proofs.Ytncmliojndgoiaa.arenaLeast

