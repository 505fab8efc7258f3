/- BoxRoomless: where there is no room, who sends meets who receives: the call answers true and changes nothing that was there; for every input. -/
import Derived.Test.YtjpnfjiccckaiaaOShown
import Derived.Test.YtjpnfjiccckaiaaOFrame
namespace Go.Proofs.Ytjpnfjiccckaiaa.boxRoomless
open Go.ChangeShapes Go.WideShapes Go.ChangeAt Go.RowKit
open Mp (Bo)
set_option linter.unusedVariables false

set_option maxHeartbeats 1600000 in
theorem walk (n : Int) (first : Bool) (w : World) :
    Calls Try.prog 7 #[.int .i64 n, .bool first] w fun e w' => e = .returned (.bool true) ∧ Below w.heap.size w w' := by
  cases first
  · go_enter Try.func7, Try.ntmps7
    go_wp2_with fail
    refine (shown_any _).mono ?_
    rintro e w1 ⟨rfl, hb1⟩
    have L1 := Lib.hid (Bl.mk hb1)
    clear hb1
    go_wp2_with fail
    refine (send_any ⟨0, [], [], []⟩ none none none 0 0 0 0 0 0 1 n _ (Tri.nothing _ 0) (by omega) (by omega) (by omega)).mono ?_
    rintro e w2 ⟨bv, rfl, A2, n2, c2, D2, m2, d2, E2, q2, e2, rfl, ht, f1, f2, f3, hb⟩
    rw [show Mp.snd ⟨0, [], [], []⟩ 1 n = (⟨0, [], [(1, n)], []⟩, 0, false) from rfl] at ht ⊢
    obtain rfl : 0 = n2 := ht.m.len
    obtain rfl : 1 = m2 := ht.s.len
    obtain rfl : 0 = q2 := ht.r.len
    have hb' := below_then hb (.cells #[.int .i64 0, .slice A2 0 c2, .slice D2 1 d2, .slice E2 0 e2] 31)
    have L2 := Lib.hid (L1.out.step hb')
    have I2 := Lib.hid (BI.new 31 ht)
    clear ht f1 f2 f3 hb hb'
    go_wp2_with fail
    refine (recv_any ⟨0, [], [(1, n)], []⟩ A2 D2 E2 0 1 0 c2 d2 e2 2 _ I2.out.tri (by omega) (by omega) (by omega)).mono ?_
    rintro e w3 ⟨bv, rfl, A3, n3, c3, D3, m3, d3, E3, q3, e3, rfl, ht, f1, f2, f3, hb⟩
    rw [show Mp.rcv ⟨0, [], [(1, n)], []⟩ 2 = (⟨0, [], [], []⟩, n, 1, true) from rfl] at ht ⊢
    obtain rfl : 0 = n3 := ht.m.len
    obtain rfl : 0 = m3 := ht.s.len
    obtain rfl : 0 = q3 := ht.r.len
    have hb' := below_then hb (.cells #[.int .i64 0, .slice A3 0 c3, .slice D3 0 d3, .slice E3 0 e3] 31)
    have L3 := Lib.hid (L2.out.step hb')
    have I3 := Lib.hid (BI.new 31 ht)
    clear ht f1 f2 f3 hb hb'
    clear I2 L2
    go_wp2_with fail
    go_ret
    exact ⟨rfl, L3.out.b⟩
  · go_enter Try.func7, Try.ntmps7
    go_wp2_with fail
    refine (shown_any _).mono ?_
    rintro e w1 ⟨rfl, hb1⟩
    have L1 := Lib.hid (Bl.mk hb1)
    clear hb1
    go_wp2_with fail
    refine (recv_any ⟨0, [], [], []⟩ none none none 0 0 0 0 0 0 1 _ (Tri.nothing _ 0) (by omega) (by omega) (by omega)).mono ?_
    rintro e w2 ⟨bv, rfl, A2, n2, c2, D2, m2, d2, E2, q2, e2, rfl, ht, f1, f2, f3, hb⟩
    rw [show Mp.rcv ⟨0, [], [], []⟩ 1 = (⟨0, [], [], [1]⟩, 0, 0, false) from rfl] at ht ⊢
    obtain rfl : 0 = n2 := ht.m.len
    obtain rfl : 0 = m2 := ht.s.len
    obtain rfl : 1 = q2 := ht.r.len
    have hb' := below_then hb (.cells #[.int .i64 0, .slice A2 0 c2, .slice D2 0 d2, .slice E2 1 e2] 31)
    have L2 := Lib.hid (L1.out.step hb')
    have I2 := Lib.hid (BI.new 31 ht)
    clear ht f1 f2 f3 hb hb'
    go_wp2_with fail
    refine (send_any ⟨0, [], [], [1]⟩ A2 D2 E2 0 0 1 c2 d2 e2 2 n _ I2.out.tri (by omega) (by omega) (by omega)).mono ?_
    rintro e w3 ⟨bv, rfl, A3, n3, c3, D3, m3, d3, E3, q3, e3, rfl, ht, f1, f2, f3, hb⟩
    rw [show Mp.snd ⟨0, [], [], [1]⟩ 2 n = (⟨0, [], [], []⟩, 1, true) from rfl] at ht ⊢
    obtain rfl : 0 = n3 := ht.m.len
    obtain rfl : 0 = m3 := ht.s.len
    obtain rfl : 0 = q3 := ht.r.len
    have hb' := below_then hb (.cells #[.int .i64 0, .slice A3 0 c3, .slice D3 0 d3, .slice E3 0 e3] 31)
    have L3 := Lib.hid (L2.out.step hb')
    have I3 := Lib.hid (BI.new 31 ht)
    clear ht f1 f2 f3 hb hb'
    clear I2 L2
    go_wp2_with fail
    go_ret
    exact ⟨rfl, L3.out.b⟩
set_option maxRecDepth 100000 in
theorem lifted (os : Os) (started : os.Started) (H : Type) (enc : TypeId × Value → H) :
    ReturnsInHanded {} Try.checked os 7 .any (Rows.boxRoomlessSpec.pre6 enc Try.prog Try.f7 Rows.boxRoomlessRow.domain false) (Rows.boxRoomlessSpec.post enc Try.prog Try.f7 false true false false) := by
  refine returnsInHanded_of_change (C := Try.checked) own started (by kernel_rfl) Try.func7
    (ChangeSpec.witness6 (enc := enc) (C := Try.checked) false ⟨#[], #[.int .i64 0, .bool false], []⟩ 8 (by kernel_rfl) (by kernel_rfl) (by kernel_rfl) (by kernel_rfl)) ?_
  intro W base args ds gs before hval0 hW hcnd _
  have hval : ∀ (j : Nat) t v, Try.f7.params[j]? = some t → args[j]? = some v → Value.okWide Try.prog W .any base t v := hval0
  have hW' := hW
  obtain ⟨p, q, hA0, hV, rfl, hfz, hnd⟩ := hW
  have hA : DataW.TrodAll enc Try.prog W 0 (fun _ => true) true Try.f7.params.toList args.toList ds p := hA0
  rw [Try.params7] at hA hval
  obtain ⟨v0, vs0, d0, ds0, p0, q0, hargs, rfl, rfl, h0, r0⟩ := trodAll_cons hA
  obtain ⟨v1, vs1, d1, ds1, p1, q1, rfl, rfl, rfl, h1, r1⟩ := trodAll_cons r0
  obtain ⟨rfl, rfl, rfl⟩ := trodAll_nil r1
  obtain rfl : args = #[v0, v1] := by cases args; simp_all
  obtain ⟨rfl, rfl⟩ := trodVars_none hV
  obtain ⟨a0, rfl, rfl, rfl, w0⟩ := open_int Try.underlying2 (hval 0 2 v0 rfl rfl) h0
  obtain ⟨a1, rfl, rfl, rfl⟩ := open_bool Try.underlying4 (hval 1 4 v1 rfl rfl) h1
  clear hA0 hval0
  refine (walk a0 a1 W ).mono fun e W' ⟨he, bel⟩ => ?_
  subst he
  exact ⟨_, rfl, _, _, _, [], _, [], hW', trodAll_mk1 (shut_bool Try.underlying4 _), (trodAll_cons_mk (shut_int Try.underlying2 w0) (trodAll_cons_mk (shut_bool Try.underlying4 a1) trodAll_mk0)), rfl, bel.frame _, fun h => by cases h⟩
theorem over : Rows.boxRoomlessRow.holds Try.pinned (OpenSpec.ofChange Rows.boxRoomlessSpec) :=
  OpenClaim.holds_of_wide 7 Try.f7 rfl rfl rfl rfl rfl rfl rfl ⟨rfl, rfl, rfl, rfl, rfl⟩ rfl rfl rfl rfl rfl (by kernel_rfl) Try.func7 (by kernel_rfl)
    (of_decide_eq_true (by kernel_rfl)) (by unfold Func.isWrapper; first | (rw [if_pos (by decide +kernel)]; kernel_rfl) | (rw [if_neg (by decide +kernel)]; exact ⟨rfl, rfl⟩))
    (fun os started H enc _ => lifted os started H enc)
theorem proved : Rows.BoxRoomlessSaid := over
end Go.Proofs.Ytjpnfjiccckaiaa.boxRoomless

