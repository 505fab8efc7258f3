/- HeapNobody: a heap that is nil has no timers, and a new one has none: the call answers true and changes nothing that was there; for every input. -/
import Derived.Test.YtjcljdehhckaeaaHShown
import Derived.Test.YtjcljdehhckaeaaHFrame
import Derived.Test.YtjcljdehhckaeaaHAll
import Derived.Test.YtjcljdehhckaeaaHDrop
namespace Go.Proofs.Ytjcljdehhckaeaa.heapNobody
open Go.ChangeShapes Go.WideShapes Go.ChangeAt Go.RowKit
set_option linter.unusedVariables false

theorem told_nil : told [] = .tuple #[.agg #[.int .i64 0, .int .i64 0, .int .i64 0], .bool false] := rfl
theorem held_trans {W9 W w' : World} (h : Below W9.heap.size W9 W) (hb : Below W.heap.size W w') : Below W9.heap.size W9 w' := h.trans (hb.mono h.size)
set_option maxRecDepth 100000 in
set_option maxHeartbeats 2000000 in
theorem walk (x1 x2 x3 : Int) (w : World) :
    Calls Try.prog 6 #[.agg #[.int .i64 x1, .int .i64 x2, .int .i64 x3]] w fun e w' => e = .returned (.bool true) ∧ Below w.heap.size w w' := by
  obtain ⟨W0, hW0, p0, p1, g0, _, hb0⟩ := new3v w (.int .i64 x1) (.int .i64 x2) (.int .i64 x3) 30
  have E0 := Lib.hid hW0
  have S0 := Lib.hid hb0
  clear hb0 hW0
  go_enter Try.func6, Try.ntmps6
  go_wp2_with fail
  rw [← E0.out]
  clear E0
  refine (shown_any _).mono ?_
  rintro e w1 ⟨rfl, hb⟩
  have p0 := keepcell hb p0
  have p1 := keepcell hb p1
  have S1 := Lib.hid (S0.out.trans (hb.mono S0.out.size))
  have g1 := keepcell hb g0
  clear hb g0
  go_wp2_with fail
  refine (push_nil _ _ _ _).mono ?_
  rintro e w2 ⟨rfl, hb⟩
  clear p0 p1
  have S2 := Lib.hid (S1.out.trans (hb.mono S1.out.size))
  have g2 := keepcell hb g1
  clear hb g1
  go_wp2_with fail
  refine (pop_nil _).mono ?_
  rintro e w3 ⟨rfl, hb⟩
  have S3 := Lib.hid (S2.out.trans (hb.mono S2.out.size))
  have g3 := keepcell hb g2
  clear hb g2
  have hb := below_new w3 (.cells #[.int .i64 0, .int .i64 0, .int .i64 0] 30)
  have S4 := Lib.hid (S3.out.trans (hb.mono S3.out.size))
  have g4 := keepcell hb g3
  clear hb g3
  rw [told_nil]
  go_wp2_with fail
  refine (first_nil _).mono ?_
  rintro e w5 ⟨rfl, hb⟩
  have S5 := Lib.hid (S4.out.trans (hb.mono S4.out.size))
  have g5 := keepcell hb g4
  clear hb g4
  have hb := below_new w5 (.cells #[.int .i64 0, .int .i64 0, .int .i64 0] 30)
  have S6 := Lib.hid (S5.out.trans (hb.mono S5.out.size))
  have g6 := keepcell hb g5
  clear hb g5
  rw [told_nil]
  have O0 := Lib.hid (One.at (b := w5.heap.size + 1) S6.out (by simp))
  have hb := below_new (w5.alloc (.cells #[.int .i64 0, .int .i64 0, .int .i64 0] 30)) (.cells #[.slice none 0 0] 27)
  have S7 := Lib.hid (S6.out.trans (hb.mono S6.out.size))
  have g7 := keepcell hb g6
  clear hb g6
  go_wp2_with fail
  obtain ⟨F, hm, _⟩ := O0.out.mem
  have M7 := Lib.hid hm
  clear O0 hm
  refine (pop_empty _ F _ M7.out).mono ?_
  rintro e w8 ⟨rfl, hb⟩
  have M8 := Lib.hid (M7.out.step hb)
  have S8 := Lib.hid (S7.out.trans (hb.mono S7.out.size))
  have g8 := keepcell hb g7
  clear hb g7
  have hb := below_new w8 (.cells #[.int .i64 0, .int .i64 0, .int .i64 0] 30)
  have M9 := Lib.hid (M8.out.step hb)
  have S9 := Lib.hid (S8.out.trans (hb.mono S8.out.size))
  have g9 := keepcell hb g8
  clear hb g8
  clear M7 M8
  rw [told_nil]
  go_wp2_with (first
    | (go_at_call_of 14 (Value.pointer none); refine (drop_nil x3 _).mono ?_; rintro e v1 ⟨rfl, hb⟩; have S10 := Lib.hid (S9.out.trans (hb.mono S9.out.size)); have M10 := Lib.hid (M9.out.step hb); have g10 := keepcell hb g9; clear hb)
    | (go_at_call_of 17 (Value.pointer none); refine (all_nil _).mono ?_; rintro e v2 ⟨rfl, rfl⟩)
    | (go_at_call_of 18 (Value.pointer none); refine (len_nil _).mono ?_; rintro e v3 ⟨rfl, rfl⟩)
    | (go_at_call 14; refine (drop_empty _ F x3 _ M10.out).mono ?_; rintro e v4 ⟨rfl, hb⟩; have S11 := Lib.hid (S10.out.trans (hb.mono S10.out.size)); have M11 := Lib.hid (M10.out.step hb); clear hb)
    | (go_at_call 17; refine (all_any _ F [] _ M11.out (by simp)).mono ?_; rintro e v5 ⟨A, n, c, rfl, hr, _, hb⟩; obtain rfl : 0 = n := (hr.len.symm.trans (Hp.srt_length [])).symm; have S12 := Lib.hid (S11.out.trans (hb.mono S11.out.size)); clear hb hr))
  go_ret
  exact ⟨rfl, S12.out⟩
set_option maxRecDepth 100000 in
theorem lifted (os : Os) (started : os.Started) (H : Type) (enc : TypeId × Value → H) :
    ReturnsInHanded {} Try.checked os 6 .any (Rows.heapNobodySpec.pre6 enc Try.prog Try.f6 Rows.heapNobodyRow.domain false) (Rows.heapNobodySpec.post enc Try.prog Try.f6 false true false false) := by
  refine returnsInHanded_of_change (C := Try.checked) own started (by kernel_rfl) Try.func6
    (ChangeSpec.witness6 (enc := enc) (C := Try.checked) false ⟨#[], #[.agg #[.int .i64 0, .int .i64 0, .int .i64 0]], []⟩ 8 (by kernel_rfl) (by kernel_rfl) (by kernel_rfl) (by kernel_rfl)) ?_
  intro W base args ds gs before hval0 hW hcnd _
  have hval : ∀ (j : Nat) t v, Try.f6.params[j]? = some t → args[j]? = some v → Value.okWide Try.prog W .any base t v := hval0
  have hW' := hW
  obtain ⟨p, q, hA0, hV, rfl, hfz, hnd⟩ := hW
  have hA : DataW.TrodAll enc Try.prog W 0 (fun _ => true) true Try.f6.params.toList args.toList ds p := hA0
  rw [Try.params6] at hA hval
  obtain ⟨v0, vs0, d0, ds0, p0, q0, hargs, rfl, rfl, h0, r0⟩ := trodAll_cons hA
  obtain ⟨rfl, rfl, rfl⟩ := trodAll_nil r0
  obtain rfl : args = #[v0] := by cases args; simp_all
  obtain ⟨rfl, rfl⟩ := trodVars_none hV
  have k0 := h0
  have lt0 : ∀ x ∈ p0, x.block < W.heap.size := by obtain ⟨m, hm⟩ := k0; exact DataW.trod_lt m _ _ _ hm
  obtain ⟨x0, y0, u0, rfl⟩ := open_timer (hval 0 30 v0 rfl rfl) h0
  clear hA0 hval0
  refine (walk x0 y0 u0 W ).mono fun e W' ⟨he, bel⟩ => ?_
  subst he
  exact ⟨_, rfl, _, _, _, [], _, [], hW', trodAll_mk1 (shut_bool Try.underlying4 _), (trodAll_cons_mk (Below.trod laidOut (by kernel_rfl) (of_decide_eq_true (by kernel_rfl)) k0 bel lt0) trodAll_mk0), rfl, bel.frame _, fun h => by cases h⟩
theorem over : Rows.heapNobodyRow.holds Try.pinned (OpenSpec.ofChange Rows.heapNobodySpec) :=
  OpenClaim.holds_of_wide 6 Try.f6 rfl rfl rfl rfl rfl rfl rfl ⟨rfl, rfl, rfl, rfl, rfl⟩ rfl rfl rfl rfl rfl (by kernel_rfl) Try.func6 (by kernel_rfl)
    (of_decide_eq_true (by kernel_rfl)) (by unfold Func.isWrapper; first | (rw [if_pos (by decide +kernel)]; kernel_rfl) | (rw [if_neg (by decide +kernel)]; exact ⟨rfl, rfl⟩))
    (fun os started H enc _ => lifted os started H enc)
theorem proved : Rows.HeapNobodySaid := over
end Go.Proofs.Ytjcljdehhckaeaa.heapNobody

