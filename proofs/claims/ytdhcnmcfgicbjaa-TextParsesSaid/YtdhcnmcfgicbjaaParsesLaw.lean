/- TextParses: any text's tree, or the place where it is none, and any tree's text, are the document's: the call answers true and changes nothing that was there; for every input. -/
import Derived.Test.YtdhcnmcfgicbjaaShown
import Derived.Test.YtdhcnmcfgicbjaaTRefParse
namespace Go.Proofs.Ytdhcnmcfgicbjaa.textParses
open Go.ChangeShapes Go.WideShapes Go.ChangeAt Go.RowKit
set_option linter.unusedVariables false

set_option maxHeartbeats 1600000 in
theorem walk (s : ByteArray) (A : Option Addr) (n c : Nat) (vs : List (Int × Int)) (w : World) (hs : s.size ≤ 9223372036854775807)
    (hn : Hid (vs.length = n)) (hl : n ≤ 9223372036854775807) (hf : Hid (Fit vs)) (hv : VRow w w.heap.size A vs) :
    Calls Try.prog 3 #[.string s, .slice A n c] w fun e w' => e = .returned (.bool true) ∧ Below w.heap.size w w' := by
  go_enter Try.func3, Try.ntmps3
  go_wp2_with fail
  refine (shown_any _).mono ?_
  rintro e w1 ⟨rfl, hb1⟩
  by_cases h2000 : 2000 < s.size
  · go_wp2_with fail
    go_ret
    exact ⟨rfl, hb1⟩
  · by_cases h64 : 64 < n
    · go_wp2_with fail
      go_ret
      exact ⟨rfl, hb1⟩
    · go_wp2_with fail
      refine (parse_any s _ hs).mono ?_
      rintro e w2 ⟨A2, c2, rfl, hv2, hb2⟩
      have hbe2 := hb1.trans (hb2.mono hb1.size)
      clear hb1 hb2
      go_wp2_with fail
      refine (refParse_any s _ (by omega)).mono ?_
      rintro e w3 ⟨A3, c3, rfl, hv3, hb3⟩
      have hbe3 := hbe2.trans (hb3.mono hbe2.size)
      have hv2 := (hv2.below hb3).more hb3.size
      have hva := (hv.below hbe3).more hbe3.size
      clear hbe2 hb3
      go_wp2_with fail
      refine (text_any A n c vs _ hn hl hf hva).mono ?_
      rintro e w4 ⟨rfl, hb4⟩
      have hbe4 := hbe3.trans (hb4.mono hbe3.size)
      have hv2 := (hv2.below hb4).more hb4.size
      have hv3 := (hv3.below hb4).more hb4.size
      have hva := (hv.below hbe4).more hbe4.size
      clear hbe3 hb4
      go_wp2_with fail
      refine (refText_any A n c vs _ hn hl hf hva).mono ?_
      rintro e w5 ⟨rfl, hb5⟩
      have hbe5 := hbe4.trans (hb5.mono hbe4.size)
      have hv2 := (hv2.below hb5).more hb5.size
      have hv3 := (hv3.below hb5).more hb5.size
      clear hbe4 hb5 hva
      have hlen : (Tx.parse s.data.toList).1.length ≤ 9223372036854775807 := by
        by_cases h0 : (Tx.parse s.data.toList).2.2 = 0
        · have := ((Tp.tree_iff _).1 (Tx.tx_parse h0).1).few; omega
        · unfold Tx.parse at h0 ⊢
          split at h0
          · exact absurd rfl h0
          · rename_i hh
            rw [if_neg hh]; simp
      go_wp2_with fail
      refine (refSame_any A2 A3 _ c2 c3 (Tx.parse s.data.toList).1 _ (Lib.hid rfl) hlen hv2 hv3).mono ?_
      rintro e w6 ⟨rfl, hb6⟩
      have hbe6 := hbe5.trans (hb6.mono hbe5.size)
      go_wp2_with fail
      go_ret
      exact ⟨rfl, hbe6⟩
set_option maxRecDepth 100000 in
theorem lifted (os : Os) (started : os.Started) (H : Type) (enc : TypeId × Value → H) :
    ReturnsInHanded {} Try.checked os 3 .any (Rows.textParsesSpec.pre6 enc Try.prog Try.f3 Rows.textParsesRow.domain false) (Rows.textParsesSpec.post enc Try.prog Try.f3 false true false false) := by
  refine returnsInHanded_of_change (C := Try.checked) own started (by kernel_rfl) Try.func3
    (ChangeSpec.witness6 (enc := enc) (C := Try.checked) false ⟨#[], #[.string ⟨#[]⟩, .slice none 0 0], []⟩ 8 (by kernel_rfl) (by kernel_rfl) (by kernel_rfl) (by kernel_rfl)) ?_
  intro W base args ds gs before hval0 hW hcnd _
  have hval : ∀ (j : Nat) t v, Try.f3.params[j]? = some t → args[j]? = some v → Value.okWide Try.prog W .any base t v := hval0
  have hW' := hW
  obtain ⟨p, q, hA0, hV, rfl, hfz, hnd⟩ := hW
  have hA : DataW.TrodAll enc Try.prog W 0 (fun _ => true) true Try.f3.params.toList args.toList ds p := hA0
  rw [Try.params3] at hA hval
  obtain ⟨v0, vs0, d0, ds0, p0, q0, hargs, rfl, rfl, h0, r0⟩ := trodAll_cons hA
  obtain ⟨v1, vs1, d1, ds1, p1, q1, rfl, rfl, rfl, h1, r1⟩ := trodAll_cons r0
  obtain ⟨rfl, rfl, rfl⟩ := trodAll_nil r1
  obtain rfl : args = #[v0, v1] := by cases args; simp_all
  obtain ⟨rfl, rfl⟩ := trodVars_none hV
  obtain ⟨a0, rfl, rfl, rfl, w0⟩ := Go.ChangeMaps.open_string Try.underlying9 (hval 0 9 v0 rfl rfl) h0
  obtain ⟨a1, len1, cap1, rfl⟩ := okWide_slice Try.underlying22 (hval 1 22 v1 rfl rfl)
  have k1 := h1
  have lt1 : ∀ x ∈ p1, x.block < W.heap.size := by obtain ⟨m, hm⟩ := k1; exact DataW.trod_lt m _ _ _ hm
  obtain ⟨hl1, hc1, z1, hn1, hf1, hr1⟩ : len1 ≤ 9223372036854775807 ∧ (len1 ≤ cap1 ∧ cap1 ≤ 9223372036854775807) ∧ ∃ vs : List (Int × Int), vs.length = len1 ∧ Fit vs ∧ VRow W W.heap.size a1 vs := by
    obtain ⟨fuel, hf⟩ := h1
    exact open_vs (by simpa [Value.cells] using hf)
  clear hA0 hval0
  refine (walk a0 a1 len1 cap1 z1 W (of_maxLen w0) (Lib.hid hn1) hl1 (Lib.hid hf1) hr1).mono fun e W' ⟨he, bel⟩ => ?_
  subst he
  exact ⟨_, rfl, _, _, _, [], _, [], hW', trodAll_mk1 (shut_bool Try.underlying4 _), (trodAll_cons_mk (Go.ChangeMaps.shut_string Try.underlying9 w0) (trodAll_cons_mk (Below.trod laidOut (by kernel_rfl) (of_decide_eq_true (by kernel_rfl)) k1 bel lt1) trodAll_mk0)), rfl, bel.frame _, fun h => by cases h⟩
theorem over : Rows.textParsesRow.holds Try.pinned (OpenSpec.ofChange Rows.textParsesSpec) :=
  OpenClaim.holds_of_wide 3 Try.f3 rfl rfl rfl rfl rfl rfl rfl ⟨rfl, rfl, rfl, rfl, rfl⟩ rfl rfl rfl rfl rfl (by kernel_rfl) Try.func3 (by kernel_rfl)
    (of_decide_eq_true (by kernel_rfl)) (by unfold Func.isWrapper; first | (rw [if_pos (by decide +kernel)]; kernel_rfl) | (rw [if_neg (by decide +kernel)]; exact ⟨rfl, rfl⟩))
    (fun os started H enc _ => lifted os started H enc)
theorem proved : Rows.TextParsesSaid := over
end Go.Proofs.Ytdhcnmcfgicbjaa.textParses

