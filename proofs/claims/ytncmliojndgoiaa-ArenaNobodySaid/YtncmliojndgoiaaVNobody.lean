/- ArenaNobody: an arena that is nil has nobody; numbers that are none never live: the call answers true and changes nothing that was there; for every input. -/
import Derived.Test.YtncmliojndgoiaaVShown
import Derived.Test.YtncmliojndgoiaaFrame
namespace Go.Proofs.Ytncmliojndgoiaa.arenaNobody
open Go.ChangeShapes Go.WideShapes Go.ChangeAt Go.RowKit
set_option linter.unusedVariables false

set_option maxHeartbeats 4000000 in
set_option maxRecDepth 100000 in
theorem walk (g : Int) (w : World) (hg : In64 g) :
    Calls Try.prog 6 #[.int .i64 g] w fun e w' => e = .returned (.bool true) ∧ Below w.heap.size w w' := by
  go_enter Try.func6, Try.ntmps6
  go_wp2_with fail
  refine (shown_any _).mono ?_
  rintro e w1 ⟨rfl, hb1⟩
  have B1 := Lib.hid hb1
  clear hb1
  go_wp2_with fail
  refine (take_nil w1).mono ?_
  rintro e w2 ⟨rfl, rfl⟩
  go_wp2_with fail
  refine (new_yes 5 w1 (by omega) (by omega)).mono ?_
  intro e w2 hn
  have C1 := Lib.hid (VC.new B1.out hn)
  obtain ⟨rfl, hx⟩ := hn
  clear hx
  generalize w1.heap.size + 1 = b at C1 ⊢
  generalize (fun k => k = w1.heap.size ∨ k = b) = F at C1
  have hl : (Vp.new 5).live.contains g = false := rfl
  have hge := gen_new 5 g
  go_wp2_with fail
  refine (free_nil g w2).mono ?_
  rintro e w3 ⟨rfl, rfl⟩
  go_wp2_with fail
  refine (live_nil g w2).mono ?_
  rintro e w3 ⟨rfl, rfl⟩
  go_wp2_with fail
  refine (gen_nil g w2).mono ?_
  rintro e w3 ⟨rfl, rfl⟩
  go_wp2_with fail
  refine (count_nil w2).mono ?_
  rintro e w3 ⟨rfl, rfl⟩
  go_wp2_with fail
  refine (live_any b F _ _ g w2 C1.out.ar hg).mono ?_
  rintro e w3 ⟨rfl, hb⟩
  have C3 := Lib.hid (C1.out.step hb)
  rw [hl]
  clear hb
  go_wp2_with fail
  refine (free_any b F _ _ g w3 C3.out.ar hg).mono ?_
  rintro e w4 ⟨rfl, F4, h1, h2, h3⟩
  have C4 := Lib.hid (C3.out.freed h1 h2 h3)
  rw [show (Vp.free (Vp.new 5) g).1 = Vp.new 5 from rfl] at C4
  rw [hl]
  clear h1 h2 h3
  go_wp2_with fail
  refine (gen_any b F4 _ _ g w4 C4.out.ar).mono ?_
  rintro e w5 ⟨rfl, rfl⟩
  rw [hge]
  go_wp2_with fail
  go_ret
  exact ⟨rfl, C4.out.below⟩
set_option maxRecDepth 100000 in
theorem lifted (os : Os) (started : os.Started) (H : Type) (enc : TypeId × Value → H) :
    ReturnsInHanded {} Try.checked os 6 .any (Rows.arenaNobodySpec.pre6 enc Try.prog Try.f6 Rows.arenaNobodyRow.domain false) (Rows.arenaNobodySpec.post enc Try.prog Try.f6 false true false false) := by
  refine returnsInHanded_of_change (C := Try.checked) own started (by kernel_rfl) Try.func6
    (ChangeSpec.witness6 (enc := enc) (C := Try.checked) false ⟨#[], #[.int .i64 0], []⟩ 8 (by kernel_rfl) (by kernel_rfl) (by kernel_rfl) (by kernel_rfl)) ?_
  intro W base args ds gs before hval0 hW hcnd _
  have hval : ∀ (j : Nat) t v, Try.f6.params[j]? = some t → args[j]? = some v → Value.okWide Try.prog W .any base t v := hval0
  have hW' := hW
  obtain ⟨p, q, hA0, hV, rfl, hfz, hnd⟩ := hW
  have hA : DataW.TrodAll enc Try.prog W 0 (fun _ => true) true Try.f6.params.toList args.toList ds p := hA0
  rw [Try.params6] at hA hval
  obtain ⟨v0, vs0, d0, ds0, p0, q0, hargs, rfl, rfl, h0, r0⟩ := trodAll_cons hA
  obtain ⟨rfl, rfl, rfl⟩ := trodAll_nil r0
  obtain rfl : args = #[v0] := by cases args; simp_all
  obtain ⟨rfl, rfl⟩ := trodVars_none hV
  obtain ⟨a0, rfl, rfl, rfl, w0⟩ := open_int Try.underlying3 (hval 0 3 v0 rfl rfl) h0
  clear hA0 hval0
  refine (walk a0 W (in64_of_wf w0)).mono fun e W' ⟨he, bel⟩ => ?_
  subst he
  exact ⟨_, rfl, _, _, _, [], _, [], hW', trodAll_mk1 (shut_bool Try.underlying4 _), (trodAll_cons_mk (shut_int Try.underlying3 w0) trodAll_mk0), rfl, bel.frame _, fun h => by cases h⟩
theorem over : Rows.arenaNobodyRow.holds Try.pinned (OpenSpec.ofChange Rows.arenaNobodySpec) :=
  OpenClaim.holds_of_wide 6 Try.f6 rfl rfl rfl rfl rfl rfl rfl ⟨rfl, rfl, rfl, rfl, rfl⟩ rfl rfl rfl rfl rfl (by kernel_rfl) Try.func6 (by kernel_rfl)
    (of_decide_eq_true (by kernel_rfl)) (by unfold Func.isWrapper; first | (rw [if_pos (by decide +kernel)]; kernel_rfl) | (rw [if_neg (by decide +kernel)]; exact ⟨rfl, rfl⟩))
    (fun os started H enc _ => lifted os started H enc)
theorem proved : Rows.ArenaNobodySaid := over
end Go.Proofs.Ytncmliojndgoiaa.arenaNobody

