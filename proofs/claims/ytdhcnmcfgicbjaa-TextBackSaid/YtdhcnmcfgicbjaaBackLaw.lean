/- TextBack: what is parsed may be, and has the very text; a tree is parsed of its text to one of the same text, of as many vertices of each level: the call answers true and changes nothing that was there; for every input. -/
import Derived.Test.YtdhcnmcfgicbjaaShown
import Derived.Test.YtdhcnmcfgicbjaaTRefParse
namespace Go.Proofs.Ytdhcnmcfgicbjaa.textBack
open Go.ChangeShapes Go.WideShapes Go.ChangeAt Go.RowKit
set_option linter.unusedVariables false

/-- The second half: what becomes of the tree that came in. -/
theorem fit_may {vs : List (Int × Int)} (h : Tp.may vs = true) : Fit vs := by
  have T := (Tp.tree_iff vs).1 h
  intro x hx
  obtain ⟨i, hi⟩ := List.mem_iff_getElem?.1 hx
  have hl := T.level hi
  have hf := T.few
  have hil := (List.getElem?_eq_some_iff.1 hi).1
  by_cases h0 : i = 0
  · subst h0
    rw [T.first] at hi
    injection hi with hi
    subst hi
    exact ⟨⟨by decide, by decide⟩, ⟨by decide, by decide⟩⟩
  · obtain ⟨p, y, e, hp, _⟩ := T.next i x hi (by omega)
    exact ⟨⟨by omega, by omega⟩, ⟨by omega, by omega⟩⟩
theorem str_self (s : ByteArray) : str s.data.toList = s := by unfold str; simp
theorem those_lvl (vs : List (Int × Int)) (l : Nat) : Tp.those (levelP (l : Int)) vs = Tx.lvl l vs := rfl
set_option maxHeartbeats 4000000 in
theorem walk (s : ByteArray) (A : Option Addr) (n c : Nat) (vs : List (Int × Int)) (w : World) (hs : s.size ≤ 9223372036854775807)
    (hn : Hid (vs.length = n)) (hl : n ≤ 9223372036854775807) (hf : Hid (Fit vs)) (hv : VRow w w.heap.size A vs) :
    Calls Try.prog 4 #[.string s, .slice A n c] w fun e w' => e = .returned (.bool true) ∧ Below w.heap.size w w' := by
  go_enter Try.func4, Try.ntmps4
  go_wp2_with fail
  refine (shown_any _).mono ?_
  rintro e w1 ⟨rfl, hb1⟩
  by_cases h2000 : 2000 < s.size
  · go_wp2_with fail
    go_ret
    exact ⟨rfl, hb1⟩
  · by_cases h64 : 64 < n
    · go_wp2_with fail
      go_ret
      exact ⟨rfl, hb1⟩
    · go_wp2_with fail
      refine (parse_any s _ hs).mono ?_
      rintro e w2 ⟨A2, c2, rfl, hv2, hb2⟩
      have hbe2 := hb1.trans (hb2.mono hb1.size)
      clear hb1 hb2
      by_cases h0 : (Tx.parse s.data.toList).2.2 = 0
      · obtain ⟨hm, htx, hsm⟩ := Tx.tx_parse h0
        have HTX := Lib.hid (show textR (Tx.parse s.data.toList).1 = (s.data.toList, 0) by unfold textR; rw [if_pos hm, htx])
        have HSM := Lib.hid (show sameR (Tx.parse s.data.toList).1 = (Tx.parse s.data.toList).1 by unfold sameR; rw [if_pos hm, hsm])
        have HF := Lib.hid (fit_may hm)
        have hlen : (Tx.parse s.data.toList).1.length ≤ 9223372036854775807 := by have := ((Tp.tree_iff _).1 hm).few; omega
        rw [h0]
        clear h0 hm htx hsm
        obtain ⟨a, ha⟩ : ∃ a, (Tx.parse s.data.toList).1 = a := ⟨_, rfl⟩
        rw [ha] at HTX HSM HF hlen hv2 ⊢
        clear ha
        go_wp2_with fail
        refine (text_any A2 _ c2 a _ (Lib.hid rfl) hlen HF hv2).mono ?_
        rintro e w3 ⟨rfl, hb3⟩
        have hbe3 := hbe2.trans (hb3.mono hbe2.size)
        have hv3 := (hv2.below hb3).more hb3.size
        rw [HTX.out]
        simp only
        rw [str_self]
        clear hbe2 hb3 hv2
        go_wp2_with fail
        refine (same_any A2 _ c2 a _ (Lib.hid rfl) hlen HF hv3).mono ?_
        rintro e w4 ⟨A4, c4, rfl, hv4, hb4⟩
        have hbe4 := hbe3.trans (hb4.mono hbe3.size)
        have hv5 := (hv3.below hb4).more hb4.size
        rw [HSM.out] at hv4 ⊢
        clear hbe3 hb4 hv3
        go_wp2_with fail
        refine (refSame_any A4 A2 _ c4 c2 a _ (Lib.hid rfl) hlen hv4 hv5).mono ?_
        rintro e w5 ⟨rfl, hb5⟩
        have hbe := hbe4.trans (hb5.mono hbe4.size)
        clear hbe4 hb5 hv4 hv5 hlen HF HTX HSM
        go_wp2_with fail
        have hva := (hv.below hbe).more hbe.size
        refine (refCheck_any A n c vs _ hn hl hf hva).mono ?_
        rintro e w6 ⟨rfl, hb6⟩
        have hbe6 := hbe.trans (hb6.mono hbe.size)
        have hvb := (hv.below hbe6).more hbe6.size
        clear hbe hb6 hva
        cases hm : Tp.may vs
        · have HR := Lib.hid (show sameR vs = [] by unfold sameR; rw [hm]; rfl)
          have HM := Lib.hid (show Tp.errno false = 2 from rfl)
          clear hm
          rw [HM.out]
          go_wp2_with fail
          refine (same_any A n c vs _ hn hl hf hvb).mono ?_
          rintro e w7 ⟨A7, c7, rfl, _, hb7⟩
          rw [HR.out]
          have hbe7 := hbe6.trans (hb7.mono hbe6.size)
          go_wp2_with fail
          go_ret
          exact ⟨rfl, hbe7⟩
        · have T := (Tp.tree_iff vs).1 hm
          have HR := Lib.hid (show sameR vs = Tx.sm vs by unfold sameR; rw [hm]; rfl)
          have HM := Lib.hid (show Tp.errno true = 0 from rfl)
          have HT := Lib.hid (show textR vs = (Tx.tx vs 3 0, 0) by unfold textR; rw [hm]; rfl)
          have hms := (Tp.tree_iff _).2 (Tx.tree_sm T)
          have HTS := Lib.hid (show textR (Tx.sm vs) = (Tx.tx vs 3 0, 0) by unfold textR; rw [hms, Tx.tx_sm]; rfl)
          have HF := Lib.hid (fit_may hms)
          have HLS := Lib.hid (show (Tx.sm vs).length = n by rw [Tx.len_sm T, hn.out])
          have HLV := Lib.hid (fun l hl => Tx.lvl_sm T l hl)
          have hnn : n * 8 ≤ 140737488351232 := by omega
          clear hm hms T
          rw [HM.out]
          go_wp2_with fail
          refine (same_any A n c vs _ hn hl hf hvb).mono ?_
          rintro e w7 ⟨A7, c7, rfl, hv7, hb7⟩
          rw [HR.out, ] at hv7 ⊢
          rw [HLS.out]
          have hbe7 := hbe6.trans (hb7.mono hbe6.size)
          have hvc := (hv.below hbe7).more hbe7.size
          clear hbe6 hb7 hvb
          go_wp2_with fail
          refine (text_any A n c vs _ hn hl hf hvc).mono ?_
          rintro e w8 ⟨rfl, hb8⟩
          rw [HT.out]
          have hbe8 := hbe7.trans (hb8.mono hbe7.size)
          have hv8 := (hv7.below hb8).more hb8.size
          clear hbe7 hb8 hvc hv7
          go_wp2_with fail
          refine (text_any A7 n c7 (Tx.sm vs) _ HLS hl HF hv8).mono ?_
          rintro e w9 ⟨rfl, hb9⟩
          rw [HTS.out]
          have hbe9 := hbe8.trans (hb9.mono hbe8.size)
          have hv9 := (hv8.below hb9).more hb9.size
          clear hbe8 hb9 hv8
          go_wp2_with fail
          go_loopw [16] (fun i wr => ∃ l : Nat, l ≤ 4 ∧ i = .int .i64 l ∧ Below w.heap.size w wr ∧ Below w9.heap.size w9 wr) (fun i _ => 4 - (intOf i).toNat)
          case atStart => exact ⟨0, by omega, rfl, hbe9, Below.refl _ _⟩
          case round =>
            obtain ⟨l, hl4, rfl, hbe, hb9⟩ := hrel
            by_cases hlt : l < 4
            · have hva := (hv.below hbe).more hbe.size
              have hvs := (hv9.below hb9).more hb9.size
              have HE := Lib.hid (HLV.out l (by omega))
              have hd : decide ((l : Int) ≤ 3) = true := by simp; omega
              go_wp2_with fail
              refine (refOf_any A7 n c7 (Tx.sm vs) l _ HLS hl hnn hvs).mono ?_
              rintro e w10 ⟨A10, c10, rfl, _, hb10⟩
              have hbe10 := hbe.trans (hb10.mono hbe.size)
              have hb910 := hb9.trans (hb10.mono hb9.size)
              have hva := (hv.below hbe10).more hbe10.size
              rw [those_lvl, HE.out]
              go_wp2_with fail
              refine (refOf_any A n c vs l _ hn hl hnn hva).mono ?_
              rintro e w11 ⟨A11, c11, rfl, _, hb11⟩
              have hbe11 := hbe10.trans (hb11.mono hbe10.size)
              have hb911 := hb910.trans (hb11.mono hb910.size)
              rw [those_lvl]
              go_wp2_with fail
              go_roundw
              case rel => exact ⟨l + 1, by omega, by go_num, hbe11, hb911⟩
              case measure => simp [intOf]; omega
            · have hd : decide ((l : Int) ≤ 3) = false := by simp; omega
              go_wp2_with fail
              go_ret
              exact ⟨rfl, hbe⟩
      · have hne : ((Tx.parse s.data.toList).2.2 == 0) = false := beq_eq_false_iff_ne.2 h0
        have hbe := hbe2
        clear h0 hbe2 hv2
        go_wp2_with fail
        have hva := (hv.below hbe).more hbe.size
        refine (refCheck_any A n c vs _ hn hl hf hva).mono ?_
        rintro e w6 ⟨rfl, hb6⟩
        have hbe6 := hbe.trans (hb6.mono hbe.size)
        have hvb := (hv.below hbe6).more hbe6.size
        clear hbe hb6 hva
        cases hm : Tp.may vs
        · have HR := Lib.hid (show sameR vs = [] by unfold sameR; rw [hm]; rfl)
          have HM := Lib.hid (show Tp.errno false = 2 from rfl)
          clear hm
          rw [HM.out]
          go_wp2_with fail
          refine (same_any A n c vs _ hn hl hf hvb).mono ?_
          rintro e w7 ⟨A7, c7, rfl, _, hb7⟩
          rw [HR.out]
          have hbe7 := hbe6.trans (hb7.mono hbe6.size)
          go_wp2_with fail
          go_ret
          exact ⟨rfl, hbe7⟩
        · have T := (Tp.tree_iff vs).1 hm
          have HR := Lib.hid (show sameR vs = Tx.sm vs by unfold sameR; rw [hm]; rfl)
          have HM := Lib.hid (show Tp.errno true = 0 from rfl)
          have HT := Lib.hid (show textR vs = (Tx.tx vs 3 0, 0) by unfold textR; rw [hm]; rfl)
          have hms := (Tp.tree_iff _).2 (Tx.tree_sm T)
          have HTS := Lib.hid (show textR (Tx.sm vs) = (Tx.tx vs 3 0, 0) by unfold textR; rw [hms, Tx.tx_sm]; rfl)
          have HF := Lib.hid (fit_may hms)
          have HLS := Lib.hid (show (Tx.sm vs).length = n by rw [Tx.len_sm T, hn.out])
          have HLV := Lib.hid (fun l hl => Tx.lvl_sm T l hl)
          have hnn : n * 8 ≤ 140737488351232 := by omega
          clear hm hms T
          rw [HM.out]
          go_wp2_with fail
          refine (same_any A n c vs _ hn hl hf hvb).mono ?_
          rintro e w7 ⟨A7, c7, rfl, hv7, hb7⟩
          rw [HR.out, ] at hv7 ⊢
          rw [HLS.out]
          have hbe7 := hbe6.trans (hb7.mono hbe6.size)
          have hvc := (hv.below hbe7).more hbe7.size
          clear hbe6 hb7 hvb
          go_wp2_with fail
          refine (text_any A n c vs _ hn hl hf hvc).mono ?_
          rintro e w8 ⟨rfl, hb8⟩
          rw [HT.out]
          have hbe8 := hbe7.trans (hb8.mono hbe7.size)
          have hv8 := (hv7.below hb8).more hb8.size
          clear hbe7 hb8 hvc hv7
          go_wp2_with fail
          refine (text_any A7 n c7 (Tx.sm vs) _ HLS hl HF hv8).mono ?_
          rintro e w9 ⟨rfl, hb9⟩
          rw [HTS.out]
          have hbe9 := hbe8.trans (hb9.mono hbe8.size)
          have hv9 := (hv8.below hb9).more hb9.size
          clear hbe8 hb9 hv8
          go_wp2_with fail
          go_loopw [16] (fun i wr => ∃ l : Nat, l ≤ 4 ∧ i = .int .i64 l ∧ Below w.heap.size w wr ∧ Below w9.heap.size w9 wr) (fun i _ => 4 - (intOf i).toNat)
          case atStart => exact ⟨0, by omega, rfl, hbe9, Below.refl _ _⟩
          case round =>
            obtain ⟨l, hl4, rfl, hbe, hb9⟩ := hrel
            by_cases hlt : l < 4
            · have hva := (hv.below hbe).more hbe.size
              have hvs := (hv9.below hb9).more hb9.size
              have HE := Lib.hid (HLV.out l (by omega))
              have hd : decide ((l : Int) ≤ 3) = true := by simp; omega
              go_wp2_with fail
              refine (refOf_any A7 n c7 (Tx.sm vs) l _ HLS hl hnn hvs).mono ?_
              rintro e w10 ⟨A10, c10, rfl, _, hb10⟩
              have hbe10 := hbe.trans (hb10.mono hbe.size)
              have hb910 := hb9.trans (hb10.mono hb9.size)
              have hva := (hv.below hbe10).more hbe10.size
              rw [those_lvl, HE.out]
              go_wp2_with fail
              refine (refOf_any A n c vs l _ hn hl hnn hva).mono ?_
              rintro e w11 ⟨A11, c11, rfl, _, hb11⟩
              have hbe11 := hbe10.trans (hb11.mono hbe10.size)
              have hb911 := hb910.trans (hb11.mono hb910.size)
              rw [those_lvl]
              go_wp2_with fail
              go_roundw
              case rel => exact ⟨l + 1, by omega, by go_num, hbe11, hb911⟩
              case measure => simp [intOf]; omega
            · have hd : decide ((l : Int) ≤ 3) = false := by simp; omega
              go_wp2_with fail
              go_ret
              exact ⟨rfl, hbe⟩
set_option maxRecDepth 100000 in
theorem lifted (os : Os) (started : os.Started) (H : Type) (enc : TypeId × Value → H) :
    ReturnsInHanded {} Try.checked os 4 .any (Rows.textBackSpec.pre6 enc Try.prog Try.f4 Rows.textBackRow.domain false) (Rows.textBackSpec.post enc Try.prog Try.f4 false true false false) := by
  refine returnsInHanded_of_change (C := Try.checked) own started (by kernel_rfl) Try.func4
    (ChangeSpec.witness6 (enc := enc) (C := Try.checked) false ⟨#[], #[.string ⟨#[]⟩, .slice none 0 0], []⟩ 8 (by kernel_rfl) (by kernel_rfl) (by kernel_rfl) (by kernel_rfl)) ?_
  intro W base args ds gs before hval0 hW hcnd _
  have hval : ∀ (j : Nat) t v, Try.f4.params[j]? = some t → args[j]? = some v → Value.okWide Try.prog W .any base t v := hval0
  have hW' := hW
  obtain ⟨p, q, hA0, hV, rfl, hfz, hnd⟩ := hW
  have hA : DataW.TrodAll enc Try.prog W 0 (fun _ => true) true Try.f4.params.toList args.toList ds p := hA0
  rw [Try.params4] at hA hval
  obtain ⟨v0, vs0, d0, ds0, p0, q0, hargs, rfl, rfl, h0, r0⟩ := trodAll_cons hA
  obtain ⟨v1, vs1, d1, ds1, p1, q1, rfl, rfl, rfl, h1, r1⟩ := trodAll_cons r0
  obtain ⟨rfl, rfl, rfl⟩ := trodAll_nil r1
  obtain rfl : args = #[v0, v1] := by cases args; simp_all
  obtain ⟨rfl, rfl⟩ := trodVars_none hV
  obtain ⟨a0, rfl, rfl, rfl, w0⟩ := Go.ChangeMaps.open_string Try.underlying9 (hval 0 9 v0 rfl rfl) h0
  obtain ⟨a1, len1, cap1, rfl⟩ := okWide_slice Try.underlying22 (hval 1 22 v1 rfl rfl)
  have k1 := h1
  have lt1 : ∀ x ∈ p1, x.block < W.heap.size := by obtain ⟨m, hm⟩ := k1; exact DataW.trod_lt m _ _ _ hm
  obtain ⟨hl1, hc1, z1, hn1, hf1, hr1⟩ : len1 ≤ 9223372036854775807 ∧ (len1 ≤ cap1 ∧ cap1 ≤ 9223372036854775807) ∧ ∃ vs : List (Int × Int), vs.length = len1 ∧ Fit vs ∧ VRow W W.heap.size a1 vs := by
    obtain ⟨fuel, hf⟩ := h1
    exact open_vs (by simpa [Value.cells] using hf)
  clear hA0 hval0
  refine (walk a0 a1 len1 cap1 z1 W (of_maxLen w0) (Lib.hid hn1) hl1 (Lib.hid hf1) hr1).mono fun e W' ⟨he, bel⟩ => ?_
  subst he
  exact ⟨_, rfl, _, _, _, [], _, [], hW', trodAll_mk1 (shut_bool Try.underlying4 _), (trodAll_cons_mk (Go.ChangeMaps.shut_string Try.underlying9 w0) (trodAll_cons_mk (Below.trod laidOut (by kernel_rfl) (of_decide_eq_true (by kernel_rfl)) k1 bel lt1) trodAll_mk0)), rfl, bel.frame _, fun h => by cases h⟩
theorem over : Rows.textBackRow.holds Try.pinned (OpenSpec.ofChange Rows.textBackSpec) :=
  OpenClaim.holds_of_wide 4 Try.f4 rfl rfl rfl rfl rfl rfl rfl ⟨rfl, rfl, rfl, rfl, rfl⟩ rfl rfl rfl rfl rfl (by kernel_rfl) Try.func4 (by kernel_rfl)
    (of_decide_eq_true (by kernel_rfl)) (by unfold Func.isWrapper; first | (rw [if_pos (by decide +kernel)]; kernel_rfl) | (rw [if_neg (by decide +kernel)]; exact ⟨rfl, rfl⟩))
    (fun os started H enc _ => lifted os started H enc)
theorem proved : Rows.TextBackSaid := over
end Go.Proofs.Ytdhcnmcfgicbjaa.textBack

