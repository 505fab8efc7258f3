/- StatusNames: statuses have unlike names, of small letters alone; no other number has one: the call answers true and changes nothing that was there; for every input. -/
import Derived.Test.YtldehegoaofjnaaUShown
import Derived.Test.YtldehegoaofjnaaFrame
namespace Go.Proofs.Ytldehegoaofjnaa.statusNames
open Go.ChangeShapes Go.WideShapes Go.ChangeAt Go.RowKit
set_option linter.unusedVariables false

set_option maxHeartbeats 4000000 in
theorem walk (a b : Int) (w : World) :
    Calls Try.prog 8 #[.int .i64 a, .int .i64 b] w fun e w' => e = .returned (.bool true) ∧ Below w.heap.size w w' := by
  obtain ⟨n, hn⟩ : ∃ n, (str (Sp.nm a)).size = n := ⟨_, rfl⟩
  have hnl : (Sp.nm a).length = n := by rw [← hn, str_size]
  have HN := Lib.hid hnl
  have hn7 : n ≤ 8 := by rw [← hnl]; exact Sp.nm_len a
  clear hnl
  go_enter Try.func8, Try.ntmps8
  go_wp2_with fail
  refine (shown_any _).mono ?_
  rintro e w1 ⟨rfl, hb⟩
  have HB1 := Lib.hid hb
  clear hb
  go_wp2_with fail
  refine (name_any a w1).mono ?_
  rintro e w2 ⟨rfl, rfl⟩
  go_wp2_with fail
  refine (name_any b w2).mono ?_
  rintro e w3 ⟨rfl, rfl⟩
  go_wp2_with fail
  go_loop [8] (fun i => ∃ k : Nat, k ≤ n ∧ i = .int .i64 k) (fun i => n - (intOf i).toNat)
  case atStart => exact ⟨0, Nat.zero_le _, rfl⟩
  case round =>
    obtain ⟨k, hk, rfl⟩ := hrel
    by_cases hlt : k < n
    · obtain ⟨c, hc⟩ : ∃ c, (Sp.nm a)[k]? = some c := ⟨_, List.getElem?_eq_getElem (by rw [HN.out]; exact hlt)⟩
      have hidx := fun W => idx_str (Sp.nm a) k c hc W
      obtain ⟨g1, g2⟩ := Sp.nm_small a c (List.mem_of_getElem? hc)
      have g3 : ¬ (c.toNat : Int) < 97 := by have := UInt8.le_iff_toNat_le.1 g1; have h97 : (97 : UInt8).toNat = 97 := rfl; omega
      have g4 : ¬ (122 : Int) < (c.toNat : Int) := by have := UInt8.le_iff_toNat_le.1 g2; have h97 : (122 : UInt8).toNat = 122 := rfl; omega
      clear hc g1 g2
      go_wp2_with fail
      go_round
      case rel => exact ⟨k + 1, by omega, by go_num⟩
      case measure => simp [intOf]; omega
    · obtain rfl : k = n := by omega
      by_cases h1 : 0 ≤ a
      · by_cases h2 : a ≤ 4
        · have q0 := str_some (Sp.nm_ne ⟨h1, h2⟩)
          have q1 : ((str (Sp.nm a)).toList == (str (Sp.nm b)).toList) = (a == b) := by
            rw [str_cmp, Bool.eq_iff_iff, decide_eq_true_eq, beq_iff_eq]
            constructor
            · intro e
              by_cases hb : 0 ≤ b ∧ b ≤ 4
              · exact Sp.nm_one ⟨h1, h2⟩ hb e
              · rw [Sp.nm_out hb] at e; exact absurd e (Sp.nm_ne ⟨h1, h2⟩)
            · intro e; rw [e]
          go_wp2_with fail
          go_ret
          exact ⟨rfl, HB1.out⟩
        · have q0 : (str (Sp.nm a)).toList.isEmpty = true := by rw [Sp.nm_out (by omega)]; exact str_none
          go_wp2_with fail
          go_ret
          exact ⟨rfl, HB1.out⟩
      · have q0 : (str (Sp.nm a)).toList.isEmpty = true := by rw [Sp.nm_out (by omega)]; exact str_none
        go_wp2_with fail
        go_ret
        exact ⟨rfl, HB1.out⟩
set_option maxRecDepth 100000 in
theorem lifted (os : Os) (started : os.Started) (H : Type) (enc : TypeId × Value → H) :
    ReturnsInHanded {} Try.checked os 8 .any (Rows.statusNamesSpec.pre6 enc Try.prog Try.f8 Rows.statusNamesRow.domain false) (Rows.statusNamesSpec.post enc Try.prog Try.f8 false true false false) := by
  refine returnsInHanded_of_change (C := Try.checked) own started (by kernel_rfl) Try.func8
    (ChangeSpec.witness6 (enc := enc) (C := Try.checked) false ⟨#[], #[.int .i64 0, .int .i64 0], []⟩ 8 (by kernel_rfl) (by kernel_rfl) (by kernel_rfl) (by kernel_rfl)) ?_
  intro W base args ds gs before hval0 hW hcnd _
  have hval : ∀ (j : Nat) t v, Try.f8.params[j]? = some t → args[j]? = some v → Value.okWide Try.prog W .any base t v := hval0
  have hW' := hW
  obtain ⟨p, q, hA0, hV, rfl, hfz, hnd⟩ := hW
  have hA : DataW.TrodAll enc Try.prog W 0 (fun _ => true) true Try.f8.params.toList args.toList ds p := hA0
  rw [Try.params8] at hA hval
  obtain ⟨v0, vs0, d0, ds0, p0, q0, hargs, rfl, rfl, h0, r0⟩ := trodAll_cons hA
  obtain ⟨v1, vs1, d1, ds1, p1, q1, rfl, rfl, rfl, h1, r1⟩ := trodAll_cons r0
  obtain ⟨rfl, rfl, rfl⟩ := trodAll_nil r1
  obtain rfl : args = #[v0, v1] := by cases args; simp_all
  obtain ⟨rfl, rfl⟩ := trodVars_none hV
  obtain ⟨a0, rfl, rfl, rfl, w0⟩ := open_int Try.underlying3 (hval 0 3 v0 rfl rfl) h0
  obtain ⟨a1, rfl, rfl, rfl, w1⟩ := open_int Try.underlying3 (hval 1 3 v1 rfl rfl) h1
  clear hA0 hval0
  refine (walk a0 a1 W ).mono fun e W' ⟨he, bel⟩ => ?_
  subst he
  exact ⟨_, rfl, _, _, _, [], _, [], hW', trodAll_mk1 (shut_bool Try.underlying4 _), (trodAll_cons_mk (shut_int Try.underlying3 w0) (trodAll_cons_mk (shut_int Try.underlying3 w1) trodAll_mk0)), rfl, bel.frame _, fun h => by cases h⟩
theorem over : Rows.statusNamesRow.holds Try.pinned (OpenSpec.ofChange Rows.statusNamesSpec) :=
  OpenClaim.holds_of_wide 8 Try.f8 rfl rfl rfl rfl rfl rfl rfl ⟨rfl, rfl, rfl, rfl, rfl⟩ rfl rfl rfl rfl rfl (by kernel_rfl) Try.func8 (by kernel_rfl)
    (of_decide_eq_true (by kernel_rfl)) (by unfold Func.isWrapper; first | (rw [if_pos (by decide +kernel)]; kernel_rfl) | (rw [if_neg (by decide +kernel)]; exact ⟨rfl, rfl⟩))
    (fun os started H enc _ => lifted os started H enc)
theorem proved : Rows.StatusNamesSaid := over
end Go.Proofs.Ytldehegoaofjnaa.statusNames

