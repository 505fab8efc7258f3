/- StatusTells: of any numbers the names, whether there is a step, whether one is able, and how far any row goes, are the document's: the call answers true and changes nothing that was there; for every input. -/
import Derived.Test.YtldehegoaofjnaaUShown
import Derived.Test.YtldehegoaofjnaaURef
import Derived.Test.YtldehegoaofjnaaLFrame
namespace Go.Proofs.Ytldehegoaofjnaa.statusTells
open Go.ChangeShapes Go.WideShapes Go.ChangeAt Go.RowKit
set_option linter.unusedVariables false

set_option maxHeartbeats 4000000 in
theorem walk (a b : Int) (A : Option Addr) (n c : Nat) (zs : List Int) (w : World) (h : Row w A n c zs) (hzs : Hid (∀ z ∈ zs, In64 z)) :
    Calls Try.prog 3 #[.int .i64 a, .int .i64 b, .slice A n c] w fun e w' => e = .returned (.bool true) ∧ Below w.heap.size w w' := by
  have H := Lib.hid h
  have h1 := h.cap
  have h2 := h.most
  clear h
  go_enter Try.func3, Try.ntmps3
  go_wp2_with fail
  refine (shown_any _).mono ?_
  rintro e w1 ⟨rfl, hb⟩
  have HB1 := Lib.hid hb
  clear hb
  by_cases h300 : 300 < n
  · have g1 : (300 : Int) < (n : Int) := by omega
    go_wp2_with fail
    go_ret
    exact ⟨rfl, HB1.out⟩
  · have g1 : ¬ (300 : Int) < (n : Int) := by omega
    by_cases ha : a = 1
    · subst ha
      obtain ⟨st, wh, hv⟩ : ∃ (st : Nat) (wh : Bool), walkV zs = .tuple #[.int .i64 st, .bool wh] := ⟨_, _, rfl⟩
      obtain ⟨S, hs⟩ : ∃ S, str (Sp.nm 1) = S := ⟨_, rfl⟩
      obtain ⟨m, hm⟩ : ∃ m, Sp.may 1 b = m := ⟨_, rfl⟩
      have HV := Lib.hid hv
      have HS := Lib.hid hs
      have HM := Lib.hid hm
      clear hv hs hm
      have HAB := Lib.hid (show Sp.able 1 = true by unfold Sp.able; rfl)
      go_wp2_with fail
      refine (walk_any A n c zs _ (H.out.below HB1.out)).mono ?_
      rintro e w2 ⟨rfl, rfl⟩
      rw [HV.out]
      go_wp2_with fail
      refine (refWalk_any A n c zs _ (H.out.below HB1.out)).mono ?_
      rintro e w3 ⟨rfl, hb⟩
      have HB3 := Lib.hid (HB1.out.trans (hb.mono HB1.out.size))
      clear hb
      rw [HV.out]
      go_wp2_with fail
      refine (name_any 1 _).mono ?_
      rintro e w4 ⟨rfl, rfl⟩
      rw [HS.out]
      go_wp2_with fail
      refine (refName_any 1 _).mono ?_
      rintro e w5 ⟨rfl, hb⟩
      rw [HS.out]
      have HB5 := Lib.hid (HB3.out.trans (hb.mono HB3.out.size))
      clear hb
      go_wp2_with fail
      refine (may_any 1 b _).mono ?_
      rintro e w6 ⟨rfl, rfl⟩
      rw [HM.out]
      go_wp2_with fail
      refine (refMay_any 1 b _).mono ?_
      rintro e w7 ⟨rfl, hb⟩
      rw [HM.out]
      have HB7 := Lib.hid (HB5.out.trans (hb.mono HB5.out.size))
      clear hb
      go_wp2_with fail
      refine (able_any 1 _).mono ?_
      rintro e w8 ⟨rfl, rfl⟩
      rw [HAB.out]
      go_wp2_with fail
      go_ret
      exact ⟨rfl, HB7.out⟩
    · have t1 : (a == 1) = false := by rw [beq_eq_false_iff_ne]; exact ha
      by_cases hc : a = 2
      · subst hc
        obtain ⟨st, wh, hv⟩ : ∃ (st : Nat) (wh : Bool), walkV zs = .tuple #[.int .i64 st, .bool wh] := ⟨_, _, rfl⟩
        obtain ⟨S, hs⟩ : ∃ S, str (Sp.nm 2) = S := ⟨_, rfl⟩
        obtain ⟨m, hm⟩ : ∃ m, Sp.may 2 b = m := ⟨_, rfl⟩
        have HV := Lib.hid hv
        have HS := Lib.hid hs
        have HM := Lib.hid hm
        clear hv hs hm
        have HAB := Lib.hid (show Sp.able 2 = true by unfold Sp.able; rfl)
        go_wp2_with fail
        refine (walk_any A n c zs _ (H.out.below HB1.out)).mono ?_
        rintro e w2 ⟨rfl, rfl⟩
        rw [HV.out]
        go_wp2_with fail
        refine (refWalk_any A n c zs _ (H.out.below HB1.out)).mono ?_
        rintro e w3 ⟨rfl, hb⟩
        have HB3 := Lib.hid (HB1.out.trans (hb.mono HB1.out.size))
        clear hb
        rw [HV.out]
        go_wp2_with fail
        refine (name_any 2 _).mono ?_
        rintro e w4 ⟨rfl, rfl⟩
        rw [HS.out]
        go_wp2_with fail
        refine (refName_any 2 _).mono ?_
        rintro e w5 ⟨rfl, hb⟩
        rw [HS.out]
        have HB5 := Lib.hid (HB3.out.trans (hb.mono HB3.out.size))
        clear hb
        go_wp2_with fail
        refine (may_any 2 b _).mono ?_
        rintro e w6 ⟨rfl, rfl⟩
        rw [HM.out]
        go_wp2_with fail
        refine (refMay_any 2 b _).mono ?_
        rintro e w7 ⟨rfl, hb⟩
        rw [HM.out]
        have HB7 := Lib.hid (HB5.out.trans (hb.mono HB5.out.size))
        clear hb
        go_wp2_with fail
        refine (able_any 2 _).mono ?_
        rintro e w8 ⟨rfl, rfl⟩
        rw [HAB.out]
        go_wp2_with fail
        go_ret
        exact ⟨rfl, HB7.out⟩
      · have t2 : (a == 2) = false := by rw [beq_eq_false_iff_ne]; exact hc
        clear ha hc
        obtain ⟨st, wh, hv⟩ : ∃ (st : Nat) (wh : Bool), walkV zs = .tuple #[.int .i64 st, .bool wh] := ⟨_, _, rfl⟩
        obtain ⟨S, hs⟩ : ∃ S, str (Sp.nm a) = S := ⟨_, rfl⟩
        obtain ⟨m, hm⟩ : ∃ m, Sp.may a b = m := ⟨_, rfl⟩
        have HV := Lib.hid hv
        have HS := Lib.hid hs
        have HM := Lib.hid hm
        clear hv hs hm
        have HAB := Lib.hid (show Sp.able a = false by unfold Sp.able; (rw [t1, t2]; rfl))
        go_wp2_with fail
        refine (walk_any A n c zs _ (H.out.below HB1.out)).mono ?_
        rintro e w2 ⟨rfl, rfl⟩
        rw [HV.out]
        go_wp2_with fail
        refine (refWalk_any A n c zs _ (H.out.below HB1.out)).mono ?_
        rintro e w3 ⟨rfl, hb⟩
        have HB3 := Lib.hid (HB1.out.trans (hb.mono HB1.out.size))
        clear hb
        rw [HV.out]
        go_wp2_with fail
        refine (name_any a _).mono ?_
        rintro e w4 ⟨rfl, rfl⟩
        rw [HS.out]
        go_wp2_with fail
        refine (refName_any a _).mono ?_
        rintro e w5 ⟨rfl, hb⟩
        rw [HS.out]
        have HB5 := Lib.hid (HB3.out.trans (hb.mono HB3.out.size))
        clear hb
        go_wp2_with fail
        refine (may_any a b _).mono ?_
        rintro e w6 ⟨rfl, rfl⟩
        rw [HM.out]
        go_wp2_with fail
        refine (refMay_any a b _).mono ?_
        rintro e w7 ⟨rfl, hb⟩
        rw [HM.out]
        have HB7 := Lib.hid (HB5.out.trans (hb.mono HB5.out.size))
        clear hb
        go_wp2_with fail
        refine (able_any a _).mono ?_
        rintro e w8 ⟨rfl, rfl⟩
        rw [HAB.out]
        go_wp2_with fail
        go_ret
        exact ⟨rfl, HB7.out⟩
set_option maxRecDepth 100000 in
theorem lifted (os : Os) (started : os.Started) (H : Type) (enc : TypeId × Value → H) :
    ReturnsInHanded {} Try.checked os 3 .any (Rows.statusTellsSpec.pre6 enc Try.prog Try.f3 Rows.statusTellsRow.domain false) (Rows.statusTellsSpec.post enc Try.prog Try.f3 false true false false) := by
  refine returnsInHanded_of_change (C := Try.checked) own started (by kernel_rfl) Try.func3
    (ChangeSpec.witness6 (enc := enc) (C := Try.checked) false ⟨#[], #[.int .i64 0, .int .i64 0, .slice none 0 0], []⟩ 8 (by kernel_rfl) (by kernel_rfl) (by kernel_rfl) (by kernel_rfl)) ?_
  intro W base args ds gs before hval0 hW hcnd _
  have hval : ∀ (j : Nat) t v, Try.f3.params[j]? = some t → args[j]? = some v → Value.okWide Try.prog W .any base t v := hval0
  have hW' := hW
  obtain ⟨p, q, hA0, hV, rfl, hfz, hnd⟩ := hW
  have hA : DataW.TrodAll enc Try.prog W 0 (fun _ => true) true Try.f3.params.toList args.toList ds p := hA0
  rw [Try.params3] at hA hval
  obtain ⟨v0, vs0, d0, ds0, p0, q0, hargs, rfl, rfl, h0, r0⟩ := trodAll_cons hA
  obtain ⟨v1, vs1, d1, ds1, p1, q1, rfl, rfl, rfl, h1, r1⟩ := trodAll_cons r0
  obtain ⟨v2, vs2, d2, ds2, p2, q2, rfl, rfl, rfl, h2, r2⟩ := trodAll_cons r1
  obtain ⟨rfl, rfl, rfl⟩ := trodAll_nil r2
  obtain rfl : args = #[v0, v1, v2] := by cases args; simp_all
  obtain ⟨rfl, rfl⟩ := trodVars_none hV
  obtain ⟨a0, rfl, rfl, rfl, w0⟩ := open_int Try.underlying3 (hval 0 3 v0 rfl rfl) h0
  obtain ⟨a1, rfl, rfl, rfl, w1⟩ := open_int Try.underlying3 (hval 1 3 v1 rfl rfl) h1
  have k2 := h2
  have lt2 : ∀ x ∈ p2, x.block < W.heap.size := by obtain ⟨m, hm⟩ := k2; exact DataW.trod_lt m _ _ _ hm
  obtain ⟨a2, len2, cap2, rfl⟩ := okWide_slice Try.underlying22 (hval 2 22 v2 rfl rfl)
  obtain ⟨aa2, ll2, cc2, z2, ev2, hr2⟩ : ∃ A n c zs, Value.slice a2 len2 cap2 = .slice A n c ∧ Row W A n c zs ∧ Hid (∀ z ∈ zs, In64 z) := by
    obtain ⟨fuel, hf⟩ := h2
    exact open_list64 (by simpa [Value.cells] using hf)
  injection ev2 with ea2 eb2 ec2
  subst ea2 eb2 ec2
  clear hA0 hval0
  refine (walk a0 a1 a2 len2 cap2 z2 W hr2.1 hr2.2).mono fun e W' ⟨he, bel⟩ => ?_
  subst he
  exact ⟨_, rfl, _, _, _, [], _, [], hW', trodAll_mk1 (shut_bool Try.underlying4 _), (trodAll_cons_mk (shut_int Try.underlying3 w0) (trodAll_cons_mk (shut_int Try.underlying3 w1) (trodAll_cons_mk (Below.trod laidOut (by kernel_rfl) (of_decide_eq_true (by kernel_rfl)) k2 bel lt2) trodAll_mk0))), rfl, bel.frame _, fun h => by cases h⟩
theorem over : Rows.statusTellsRow.holds Try.pinned (OpenSpec.ofChange Rows.statusTellsSpec) :=
  OpenClaim.holds_of_wide 3 Try.f3 rfl rfl rfl rfl rfl rfl rfl ⟨rfl, rfl, rfl, rfl, rfl⟩ rfl rfl rfl rfl rfl (by kernel_rfl) Try.func3 (by kernel_rfl)
    (of_decide_eq_true (by kernel_rfl)) (by unfold Func.isWrapper; first | (rw [if_pos (by decide +kernel)]; kernel_rfl) | (rw [if_neg (by decide +kernel)]; exact ⟨rfl, rfl⟩))
    (fun os started H enc _ => lifted os started H enc)
theorem proved : Rows.StatusTellsSaid := over
end Go.Proofs.Ytldehegoaofjnaa.statusTells

