/- TextGrows: a processor more in a core is a letter more in the text, as long as there is room; with no other letter there it is a text: the call answers true and changes nothing that was there; for every input. -/
import Derived.Test.YtdhcnmcfgicbjaaShown
import Derived.Test.YtdhcnmcfgicbjaaTRef
import Derived.Test.YtdhcnmcfgicbjaaTStr
import Derived.Deep.RegionWith
import Derived.Deep.DeepCutAuto
namespace Go.Proofs.Ytdhcnmcfgicbjaa.textGrows
open Go.ChangeShapes Go.WideShapes Go.ChangeAt Go.RowKit
set_option linter.unusedVariables false

theorem big_letter (r : Nat) (h : r < 26) : ∃ ch : UInt8, ((r : Int) + 65) = (ch.toNat : Int) ∧ Tx.odd ch = true := by
  have key : ∀ r : Fin 26, Tx.odd (UInt8.ofNat (r.val + 65)) = true := by decide
  refine ⟨UInt8.ofNat (r + 65), by rw [UInt8.toNat_ofNat']; omega, key ⟨r, h⟩⟩
set_option maxHeartbeats 4000000 in
set_option maxRecDepth 100000 in
theorem walk (A : Option Addr) (n c : Nat) (vs : List (Int × Int)) (at' other : Int) (w : World)
    (hn : Hid (vs.length = n)) (hl : n ≤ 9223372036854775807) (hf : Hid (Fit vs)) (hv : VRow w w.heap.size A vs) (hcu : (Lit.int .u8 at').wf = true) (hmo : (Lit.int .u8 other).wf = true) :
    Calls Try.prog 8 #[.slice A n c, .int .u8 at', .int .u8 other] w fun e w' => e = .returned (.bool true) ∧ Below w.heap.size w w' := by
  go_enter Try.func8, Try.ntmps8
  go_wp2_with fail
  refine (shown_any _).mono ?_
  rintro e w1 ⟨rfl, hb1⟩
  by_cases h64 : 60 < n
  · go_wp2_with fail
    go_ret
    exact ⟨rfl, hb1⟩
  · have hva := (hv.below hb1).more hb1.size
    have hd64 : decide (60 < (n : Int)) = false := by simp; omega
    go_wp2_with fail
    refine (refCheck_any A n c vs _ hn hl hf hva).mono ?_
    rintro e w2 ⟨rfl, hb2⟩
    have hbe2 := hb1.trans (hb2.mono hb1.size)
    have hvb := (hv.below hbe2).more hbe2.size
    clear hb1 hb2 hva
    cases hm : Tp.may vs
    · have HM := Lib.hid (show Tp.errno false = 2 from rfl)
      clear hm
      rw [HM.out]
      go_wp2_with fail
      go_ret
      exact ⟨rfl, hbe2⟩
    · have T := (Tp.tree_iff vs).1 hm
      have HT := Lib.hid T
      have HM := Lib.hid (show Tp.errno true = 0 from rfl)
      have HX := Lib.hid (show textR vs = (Tx.tx vs 3 0, 0) by unfold textR; rw [hm]; rfl)
      have hl731 := Tx.tx_fits T
      have hpos : 0 < (Tx.tx vs 3 0).length := by rw [Tx.tx_succ]; simp
      clear hm T
      rw [HM.out]
      obtain ⟨S, hS⟩ : ∃ S, S = Tx.tx vs 3 0 := ⟨_, rfl⟩
      rw [← hS] at HX hl731 hpos
      have HS := Lib.hid hS
      clear hS
      have hcu' : 0 ≤ at' ∧ at' ≤ 255 := by simpa [Lit.wf, IntKind.min, IntKind.max, IntKind.signed, IntKind.bits] using hcu
      have hmo' : 0 ≤ other ∧ other ≤ 255 := by simpa [Lit.wf, IntKind.min, IntKind.max, IntKind.signed, IntKind.bits] using hmo
      obtain ⟨u0, u1⟩ := hcu'
      obtain ⟨m0, m1⟩ := hmo'
      obtain ⟨cu, rfl⟩ := Int.eq_ofNat_of_zero_le u0
      obtain ⟨mo, rfl⟩ := Int.eq_ofNat_of_zero_le m0
      clear hcu hmo u0 m0
      have hsz := str_size S
      have HW := Lib.hid (show 0 < (wh S S.length).length by have := wh_some HT.out; rw [← HS.out] at this; exact this)
      obtain ⟨i0, hi, hz0, hz1, hz2⟩ := info_parts info_int
      go_wp2_with fail
      refine (text_any A n c vs _ hn hl hf hvb).mono ?_
      rintro e w3 ⟨rfl, hb3⟩
      rw [HX.out]
      have hbe3 := hbe2.trans (hb3.mono hbe2.size)
      clear hbe2 hb3 hvb
      go_wp2_with fail
      go_loopw [10, 11] (fun v i wr => ∃ k : Nat, k ≤ S.length ∧ i = .int .i64 k ∧ wr.ownsRow w.heap.size 3 1 v (wh S k).length ((wh S k).map (Value.int .i64)) ∧ Below w.heap.size w wr) (fun _ i _ => S.length - (intOf i).toNat)
      case atStart => exact ⟨0, Nat.zero_le _, rfl, World.ownsRow_nil _ _ _ _, hbe3⟩
      case round =>
        obtain ⟨k, hk, rfl, hown, hbe⟩ := hrel
        by_cases hlt : k < S.length
        · obtain ⟨ch, hch⟩ : ∃ ch, S[k]? = some ch := ⟨_, List.getElem?_eq_getElem hlt⟩
          have hix := idx_str S k ch hch
          have hle := wh_len S k
          by_cases h112 : ch = 112
          · have HN := Lib.hid (wh_hit (k := k) (by rw [hch, h112]))
            have hcc : ((ch.toNat : Int) == 112) = true := (byte_eq ch 112).trans (by rw [h112]; rfl)
            clear hch h112
            go_wp2_with (at_builtin; refine wpList_append_own _ rfl _ _ 37 rfl w.heap.size 3 i0 (.int .i64 0) 1 8 Try.underlying37 hi hz0 hz1 hz2 rfl (by decide) _ _ _ rfl (hown.alloc _) ⟨wr.heap.size, 0, none⟩ 1 1 [.int .i64 (k : Int)] rfl rfl ?c1 ?c2 ?c3 ?c4 ?c5 ?_)
            case c1 => exact one_cell _ _ _
            case c2 => intro u hu; simp at hu; subst hu; rfl
            case c3 => unfold maxLen; omega
            case c4 => omega
            case c5 => have := hbe.size; simp; omega
            intro v' w4 hown2 hg _
            go_wp2_with fail
            go_roundw
            case rel =>
              refine ⟨k + 1, by omega, by go_num, ?_, (hbe.alloc hbe.size _).grown hg (by have := hbe.size; simp; omega) (fun j hj => (hown.lt j hj).1)⟩
              rw [HN.out]; simpa using hown2
            case measure => simp [intOf]; omega
          · have HN := Lib.hid (wh_miss hch h112)
            have hcc : ((ch.toNat : Int) == 112) = false := (byte_eq ch 112).trans (beq_eq_false_iff_ne.2 h112)
            clear hch h112
            go_wp2_with fail
            go_roundw
            case rel => exact ⟨k + 1, by omega, by go_num, by rw [HN.out]; exact hown, hbe⟩
            case measure => simp [intOf]; omega
        · have hkS : k = S.length := by omega
          subst hkS
          have hle := wh_len S S.length
          obtain ⟨A4, c4, rfl⟩ := own_form hown
          have hrow := IRow.of_own hown
          clear hown
          obtain ⟨m, hm⟩ : ∃ m, (wh S S.length).length = m := ⟨_, rfl⟩
          have hmp : 0 < m := by have := HW.out; omega
          have HM := Lib.hid hm
          rw [hm] at hle ⊢
          clear hm
          obtain ⟨q, hq⟩ : ∃ q, q = cu % m := ⟨_, rfl⟩
          have hqm : q < m := by rw [hq]; exact Nat.mod_lt _ hmp
          have hm0 : ((m : Int) == 0) = false := by rw [beq_eq_false_iff_ne]; omega
          have t1 : ((cu : Int).tmod (m : Int)) = (q : Int) := by rw [hq]; rfl
          have t3 : (cu : Int) % (m : Int) = (q : Int) := by rw [hq]; rfl
          have t5 : (0 : Int) ≤ (q : Int) := by omega
          have t6 : (q : Int) < (m : Int) := by omega
          obtain ⟨z, hz⟩ : ∃ z, (wh S S.length)[q]? = some z := ⟨_, List.getElem?_eq_getElem (by rw [HM.out]; exact hqm)⟩
          obtain ⟨j, hjl, rfl, hjS⟩ := (wh_mem S z S.length).1 (List.mem_of_getElem? hz)
          obtain ⟨b, off, hA, _, hcz⟩ := hrow q _ hz
          subst hA
          have HJ := Lib.hid hjS
          clear hq hz hjS hrow
          have hst := str_take S j
          have hst2 := str_drop S j
          have hadd2 : ∀ W, (Op.stringOp .add (str (S.take j)) ⟨#[112]⟩).run Try.prog W = .ok (.string (str (S.take j ++ [112]))) W := fun W => str_add W _ _ (by simp only [List.length_take, List.length_singleton]; omega)
          have hadd3 : ∀ W, (Op.stringOp .add (str (S.take j ++ [112])) (str (S.drop j))).run Try.prog W = .ok (.string (str (S.take j ++ [112] ++ S.drop j))) W := fun W => str_add W _ _ (by simp only [List.length_take, List.length_append, List.length_drop, List.length_singleton]; omega)
          have p4 : (j : Int) ≤ (S.length : Int) := by omega
          have hsl : (str (S.take j ++ 112 :: S.drop j)).size ≤ 9223372036854775807 := by rw [str_size]; simp only [List.length_take, List.length_append, List.length_drop, List.length_cons]; omega
          obtain ⟨P, hP⟩ : ∃ P, P = Tx.parse (S.take j ++ 112 :: S.drop j) := ⟨_, rfl⟩
          have HP := Lib.hid hP
          have HG := Lib.hid (show P.2.2 = 0 → P.1.length = n + 1 by
            intro h0
            have h2 : (Tx.parse ((Tx.tx vs 3 0).take j ++ 112 :: (Tx.tx vs 3 0).drop j)).1.length = vs.length + 1 := Tx.parse_grown HT.out j (by rw [← HS.out, ← hP]; exact h0)
            rw [← HS.out, ← hP, hn.out] at h2
            exact h2)
          clear hP
          go_upto_region 16 with fail
          go_cut [13, 15] (fun a b wx => ∃ A5 c5, a = .slice A5 P.1.length c5 ∧ b = .int .i64 P.2.2 ∧ Below w.heap.size w wx)
          case first =>
            go_wp2_with fail
            go_region_with (go_at_call 10; refine (parse_any (str (S.take j ++ 112 :: S.drop j)) _ hsl).mono ?_; rintro e w6 ⟨A6, c6, rfl, _, hb6⟩; rw [show Tx.parse (str (S.take j ++ 112 :: S.drop j)).data.toList = P from HP.out.symm]; have hbe6 := hbe.drew.trans (hb6.mono hbe.size))
            all_goals go_wp2_with fail
            all_goals go_meet
            all_goals exact ⟨_, _, rfl, rfl, hbe6⟩
          case rest =>
            obtain ⟨A5, c5, rfl, rfl, hbc⟩ := hcut
            clear hst hst2 hadd2 hadd3 hsl t1 t3 t5 t6 hm0 hcz
            obtain ⟨r, hr⟩ : ∃ r, r = mo % 26 := ⟨_, rfl⟩
            have hr26 : r < 26 := by rw [hr]; exact Nat.mod_lt _ (by omega)
            have v1 : ((mo : Int).tmod 26) = (r : Int) := by rw [hr]; rfl
            have v3 : (mo : Int) % 26 = (r : Int) := by rw [hr]; rfl
            clear hr
            obtain ⟨ch, hch, hod⟩ : ∃ ch : UInt8, ((r : Int) + 65) = (ch.toNat : Int) ∧ Tx.odd ch = true := big_letter r hr26
            have HO := Lib.hid (show Tx.parse (S.take j ++ ch :: S.drop j) = ([], j, 2) by have := Tx.parse_odd HT.out (k := j) (by rw [← HS.out]; exact hjl) hod (S.drop j); rw [← HS.out] at this; exact this)
            have hconv := one_byte_drew wc ch _ hch
            have hst := str_take S j
            have hst2 := str_drop S j
            have hadd2 : ∀ W, (Op.stringOp .add (str (S.take j)) (str [ch])).run Try.prog W = .ok (.string (str (S.take j ++ [ch]))) W := fun W => str_add W _ _ (by simp only [List.length_take, List.length_singleton]; omega)
            have hadd3 : ∀ W, (Op.stringOp .add (str (S.take j ++ [ch])) (str (S.drop j))).run Try.prog W = .ok (.string (str (S.take j ++ [ch] ++ S.drop j))) W := fun W => str_add W _ _ (by simp only [List.length_take, List.length_append, List.length_drop, List.length_singleton]; omega)
            have hsl : (str (S.take j ++ ch :: S.drop j)).size ≤ 9223372036854775807 := by rw [str_size]; simp only [List.length_take, List.length_append, List.length_drop, List.length_cons]; omega
            have hwr : IntKind.u8.wrap ((r : Int) + 65) = (r : Int) + 65 := IntWalk.u8_in _ (by omega)
            clear hch hod
            go_upto_region 17 with fail
            go_cut [17, 18] (fun a b wx => a = .int .i64 j ∧ b = .int .i64 2 ∧ Below w.heap.size w wx)
            case first =>
              go_wp2_with fail
              go_region_with (go_at_call 10; refine (parse_any (str (S.take j ++ ch :: S.drop j)) _ hsl).mono ?_; rintro e w7 ⟨A7, c7, rfl, _, hb7⟩; rw [show Tx.parse (str (S.take j ++ ch :: S.drop j)).data.toList = ([], j, 2) from HO.out]; have hbe7 := (hbc.alloc hbc.size _).drew.trans (hb7.mono (by have := hbc.size; simp; omega)))
              all_goals go_wp2_with fail
              all_goals go_meet
              all_goals exact ⟨rfl, rfl, hbe7⟩
            case rest =>
              obtain ⟨rfl, rfl, hbd⟩ := hcut
              clear hconv hst hst2 hadd2 hadd3 hsl v1 v3 hbc
              cases h0 : (P.2.2 == 0)
              · go_wp2_with fail
                go_ret
                exact ⟨rfl, hbd⟩
              · have hlen := HG.out (by simpa using h0)
                have hne : ((P.1.length : Int) != (n : Int) + 1) = false := by rw [bne_eq_false_iff_eq]; omega
                clear hlen
                go_wp2_with fail
                go_ret
                exact ⟨rfl, hbd⟩
set_option maxRecDepth 100000 in
theorem lifted (os : Os) (started : os.Started) (H : Type) (enc : TypeId × Value → H) :
    ReturnsInHanded {} Try.checked os 8 .any (Rows.textGrowsSpec.pre6 enc Try.prog Try.f8 Rows.textGrowsRow.domain false) (Rows.textGrowsSpec.post enc Try.prog Try.f8 false true false false) := by
  refine returnsInHanded_of_change (C := Try.checked) own started (by kernel_rfl) Try.func8
    (ChangeSpec.witness6 (enc := enc) (C := Try.checked) false ⟨#[], #[.slice none 0 0, .int .u8 0, .int .u8 0], []⟩ 8 (by kernel_rfl) (by kernel_rfl) (by kernel_rfl) (by kernel_rfl)) ?_
  intro W base args ds gs before hval0 hW hcnd _
  have hval : ∀ (j : Nat) t v, Try.f8.params[j]? = some t → args[j]? = some v → Value.okWide Try.prog W .any base t v := hval0
  have hW' := hW
  obtain ⟨p, q, hA0, hV, rfl, hfz, hnd⟩ := hW
  have hA : DataW.TrodAll enc Try.prog W 0 (fun _ => true) true Try.f8.params.toList args.toList ds p := hA0
  rw [Try.params8] at hA hval
  obtain ⟨v0, vs0, d0, ds0, p0, q0, hargs, rfl, rfl, h0, r0⟩ := trodAll_cons hA
  obtain ⟨v1, vs1, d1, ds1, p1, q1, rfl, rfl, rfl, h1, r1⟩ := trodAll_cons r0
  obtain ⟨v2, vs2, d2, ds2, p2, q2, rfl, rfl, rfl, h2, r2⟩ := trodAll_cons r1
  obtain ⟨rfl, rfl, rfl⟩ := trodAll_nil r2
  obtain rfl : args = #[v0, v1, v2] := by cases args; simp_all
  obtain ⟨rfl, rfl⟩ := trodVars_none hV
  obtain ⟨a0, len0, cap0, rfl⟩ := okWide_slice Try.underlying22 (hval 0 22 v0 rfl rfl)
  have k0 := h0
  have lt0 : ∀ x ∈ p0, x.block < W.heap.size := by obtain ⟨m, hm⟩ := k0; exact DataW.trod_lt m _ _ _ hm
  obtain ⟨hl0, hc0, z0, hn0, hf0, hr0⟩ : len0 ≤ 9223372036854775807 ∧ (len0 ≤ cap0 ∧ cap0 ≤ 9223372036854775807) ∧ ∃ vs : List (Int × Int), vs.length = len0 ∧ Fit vs ∧ VRow W W.heap.size a0 vs := by
    obtain ⟨fuel, hf⟩ := h0
    exact open_vs (by simpa [Value.cells] using hf)
  obtain ⟨a1, rfl, rfl, rfl, w1⟩ := open_int Try.underlying5 (hval 1 5 v1 rfl rfl) h1
  obtain ⟨a2, rfl, rfl, rfl, w2⟩ := open_int Try.underlying5 (hval 2 5 v2 rfl rfl) h2
  clear hA0 hval0
  refine (walk a0 len0 cap0 z0 a1 a2 W (Lib.hid hn0) hl0 (Lib.hid hf0) hr0 w1 w2).mono fun e W' ⟨he, bel⟩ => ?_
  subst he
  exact ⟨_, rfl, _, _, _, [], _, [], hW', trodAll_mk1 (shut_bool Try.underlying4 _), (trodAll_cons_mk (Below.trod laidOut (by kernel_rfl) (of_decide_eq_true (by kernel_rfl)) k0 bel lt0) (trodAll_cons_mk (shut_int Try.underlying5 w1) (trodAll_cons_mk (shut_int Try.underlying5 w2) trodAll_mk0))), rfl, bel.frame _, fun h => by cases h⟩
theorem over : Rows.textGrowsRow.holds Try.pinned (OpenSpec.ofChange Rows.textGrowsSpec) :=
  OpenClaim.holds_of_wide 8 Try.f8 rfl rfl rfl rfl rfl rfl rfl ⟨rfl, rfl, rfl, rfl, rfl⟩ rfl rfl rfl rfl rfl (by kernel_rfl) Try.func8 (by kernel_rfl)
    (of_decide_eq_true (by kernel_rfl)) (by unfold Func.isWrapper; first | (rw [if_pos (by decide +kernel)]; kernel_rfl) | (rw [if_neg (by decide +kernel)]; exact ⟨rfl, rfl⟩))
    (fun os started H enc _ => lifted os started H enc)
theorem proved : Rows.TextGrowsSaid := over
end Go.Proofs.Ytdhcnmcfgicbjaa.textGrows

