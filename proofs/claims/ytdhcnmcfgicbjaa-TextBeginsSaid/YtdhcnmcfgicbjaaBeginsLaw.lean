/- TextBegins: no begin of a text is one, and nothing that a text begins: the place is where it ends; a byte that is another one is told at its place: the call answers true and changes nothing that was there; for every input. -/
import Derived.Test.YtdhcnmcfgicbjaaShown
import Derived.Test.YtdhcnmcfgicbjaaTRef
import Derived.Test.YtdhcnmcfgicbjaaTStr
import Derived.Deep.RegionWith
import Derived.Deep.DeepCutAuto
namespace Go.Proofs.Ytdhcnmcfgicbjaa.textBegins
open Go.ChangeShapes Go.WideShapes Go.ChangeAt Go.RowKit
set_option linter.unusedVariables false

set_option maxHeartbeats 4000000 in
set_option maxRecDepth 100000 in
theorem walk (A : Option Addr) (n c : Nat) (vs : List (Int × Int)) (cut more : Int) (w : World)
    (hn : Hid (vs.length = n)) (hl : n ≤ 9223372036854775807) (hf : Hid (Fit vs)) (hv : VRow w w.heap.size A vs) (hcu : (Lit.int .u8 cut).wf = true) (hmo : (Lit.int .u8 more).wf = true) :
    Calls Try.prog 5 #[.slice A n c, .int .u8 cut, .int .u8 more] w fun e w' => e = .returned (.bool true) ∧ Below w.heap.size w w' := by
  go_enter Try.func5, Try.ntmps5
  go_wp2_with fail
  refine (shown_any _).mono ?_
  rintro e w1 ⟨rfl, hb1⟩
  by_cases h64 : 64 < n
  · go_wp2_with fail
    go_ret
    exact ⟨rfl, hb1⟩
  · have hva := (hv.below hb1).more hb1.size
    have hd64 : decide (64 < (n : Int)) = false := by simp; omega
    go_wp2_with fail
    refine (refCheck_any A n c vs _ hn hl hf hva).mono ?_
    rintro e w2 ⟨rfl, hb2⟩
    have hbe2 := hb1.trans (hb2.mono hb1.size)
    have hvb := (hv.below hbe2).more hbe2.size
    clear hb1 hb2 hva
    cases hm : Tp.may vs
    · have HM := Lib.hid (show Tp.errno false = 2 from rfl)
      clear hm
      rw [HM.out]
      go_wp2_with fail
      go_ret
      exact ⟨rfl, hbe2⟩
    · have T := (Tp.tree_iff vs).1 hm
      have HT := Lib.hid T
      have HM := Lib.hid (show Tp.errno true = 0 from rfl)
      have HX := Lib.hid (show textR vs = (Tx.tx vs 3 0, 0) by unfold textR; rw [hm]; rfl)
      have hl731 := Tx.tx_fits T
      have hpos : 0 < (Tx.tx vs 3 0).length := by rw [Tx.tx_succ]; simp
      clear hm T
      rw [HM.out]
      obtain ⟨S, hS⟩ : ∃ S, S = Tx.tx vs 3 0 := ⟨_, rfl⟩
      rw [← hS] at HX hl731 hpos
      have HS := Lib.hid hS
      clear hS
      have hcu' : 0 ≤ cut ∧ cut ≤ 255 := by simpa [Lit.wf, IntKind.min, IntKind.max, IntKind.signed, IntKind.bits] using hcu
      have hmo' : 0 ≤ more ∧ more ≤ 255 := by simpa [Lit.wf, IntKind.min, IntKind.max, IntKind.signed, IntKind.bits] using hmo
      obtain ⟨u0, u1⟩ := hcu'
      obtain ⟨m0, m1⟩ := hmo'
      obtain ⟨cu, rfl⟩ := Int.eq_ofNat_of_zero_le u0
      obtain ⟨mo, rfl⟩ := Int.eq_ofNat_of_zero_le m0
      clear hcu hmo u0 m0
      have hsz := str_size S
      have hne : ((S.length : Int) == 0) = false := by rw [beq_eq_false_iff_ne]; omega
      obtain ⟨k, hk⟩ : ∃ k, k = cu % S.length := ⟨_, rfl⟩
      have hkl : k < S.length := by rw [hk]; exact Nat.mod_lt _ hpos
      have t1 : ((cu : Int).tmod (S.length : Int)) = (k : Int) := by rw [hk]; rfl
      have t3 : (cu : Int) % (S.length : Int) = (k : Int) := by rw [hk]; rfl
      clear hk
      go_wp2_with fail
      refine (text_any A n c vs _ hn hl hf hvb).mono ?_
      rintro e w3 ⟨rfl, hb3⟩
      rw [HX.out]
      have hbe3 := hbe2.trans (hb3.mono hbe2.size)
      clear hbe2 hb3
      go_wp2_with fail
      rw [str_take]
      have HC1 := Lib.hid (show Tx.parse (S.take k) = ([], k, 2) by have := Tx.parse_cut HT.out (k := k) (by rw [← HS.out]; exact hkl); rw [← HS.out] at this; exact this)
      refine (parse_any (str (S.take k)) _ (by rw [str_size, List.length_take]; omega)).mono ?_
      rintro e w4 ⟨A4, c4, rfl, _, hb4⟩
      have hbe4 := hbe3.trans (hb4.mono hbe3.size)
      rw [show Tx.parse (str (S.take k)).data.toList = ([], k, 2) from HC1.out]
      clear hb4 hbe3
      obtain ⟨r, hr⟩ : ∃ r, r = mo % 96 := ⟨_, rfl⟩
      have hr96 : r < 96 := by rw [hr]; exact Nat.mod_lt _ (by omega)
      have v1 : ((mo : Int).tmod 96) = (r : Int) := by rw [hr]; rfl
      have v3 : (mo : Int) % 96 = (r : Int) := by rw [hr]; rfl
      clear hr
      obtain ⟨ch, hch⟩ : ∃ ch : UInt8, ((r : Int) + 32) = (ch.toNat : Int) := ⟨UInt8.ofNat (r + 32), by rw [UInt8.toNat_ofNat']; omega⟩
      have hconv := one_byte w4 ch _ hch
      have hadd : ∀ W, (Op.stringOp .add (str S) (str [ch])).run Try.prog W = .ok (.string (str (S ++ [ch]))) W := fun W => str_add W _ _ (by simp only [List.length_singleton]; omega)
      clear hch
      go_wp2_with fail
      have HC2 := Lib.hid (show Tx.parse (S ++ [ch]) = ([], S.length, 2) by have := Tx.parse_on HT.out ch []; rw [← HS.out] at this; exact this)
      refine (parse_any (str (S ++ [ch])) _ (by rw [str_size, List.length_append]; simp only [List.length_singleton]; omega)).mono ?_
      rintro e w5 ⟨A5, c5, rfl, _, hb5⟩
      have hbe5 := (hbe4.alloc hbe4.size _).trans (hb5.mono (by have := hbe4.size; simp; omega))
      rw [show Tx.parse (str (S ++ [ch])).data.toList = ([], S.length, 2) from HC2.out]
      clear hb5 hbe4 hconv hadd v1 v3 hr96
      have hst := str_take S k
      have hst2 := str_drop S (k + 1)
      have hadd2 : ∀ W, (Op.stringOp .add (str (S.take k)) ⟨#[120]⟩).run Try.prog W = .ok (.string (str (S.take k ++ [120]))) W := fun W => str_add W _ _ (by simp only [List.length_take, List.length_singleton]; omega)
      have hadd3 : ∀ W, (Op.stringOp .add (str (S.take k ++ [120])) (str (S.drop (k + 1)))).run Try.prog W = .ok (.string (str (S.take k ++ [120] ++ S.drop (k + 1)))) W := fun W => str_add W _ _ (by simp only [List.length_take, List.length_append, List.length_drop, List.length_singleton]; omega)
      have p1 : IntKind.i64.wrap ((k : Int) + 1) = (k : Int) + 1 := IntWalk.i64_in _ (by omega)
      have p2 : (0 : Int) ≤ (k : Int) + 1 := by omega
      have p3 : ((k : Int) + 1).toNat = k + 1 := by omega
      have p4 : (k : Int) + 1 ≤ (S.length : Int) := by omega
      have HC3 := Lib.hid (show Tx.parse (S.take k ++ 120 :: S.drop (k + 1)) = ([], k, 2) by have := Tx.parse_odd HT.out (k := k) (by rw [← HS.out]; exact hkl) (c := 120) (by decide) (S.drop (k + 1)); rw [← HS.out] at this; exact this)
      have hsl : (str (S.take k ++ 120 :: S.drop (k + 1))).size ≤ 9223372036854775807 := by rw [str_size]; simp only [List.length_take, List.length_append, List.length_drop, List.length_cons]; omega
      go_upto_region 10 with fail
      go_cut [18, 19] (fun a b wx => a = .int .i64 k ∧ b = .int .i64 2 ∧ Below w.heap.size w wx)
      case first =>
        go_wp2_with fail
        go_region_with (go_at_call 10; refine (parse_any (str (S.take k ++ 120 :: S.drop (k + 1))) _ hsl).mono ?_; rintro e w6 ⟨A6, c6, rfl, _, hb6⟩; rw [show Tx.parse (str (S.take k ++ 120 :: S.drop (k + 1))).data.toList = ([], k, 2) from HC3.out]; have hbe6 := hbe5.drew.trans (hb6.mono hbe5.size))
        all_goals go_wp2_with fail
        all_goals go_meet
        all_goals exact ⟨rfl, rfl, hbe6⟩
      case rest =>
        obtain ⟨rfl, rfl, hbc⟩ := hcut
        go_wp2_with fail
        go_ret
        exact ⟨rfl, hbc⟩
set_option maxRecDepth 100000 in
theorem lifted (os : Os) (started : os.Started) (H : Type) (enc : TypeId × Value → H) :
    ReturnsInHanded {} Try.checked os 5 .any (Rows.textBeginsSpec.pre6 enc Try.prog Try.f5 Rows.textBeginsRow.domain false) (Rows.textBeginsSpec.post enc Try.prog Try.f5 false true false false) := by
  refine returnsInHanded_of_change (C := Try.checked) own started (by kernel_rfl) Try.func5
    (ChangeSpec.witness6 (enc := enc) (C := Try.checked) false ⟨#[], #[.slice none 0 0, .int .u8 0, .int .u8 0], []⟩ 8 (by kernel_rfl) (by kernel_rfl) (by kernel_rfl) (by kernel_rfl)) ?_
  intro W base args ds gs before hval0 hW hcnd _
  have hval : ∀ (j : Nat) t v, Try.f5.params[j]? = some t → args[j]? = some v → Value.okWide Try.prog W .any base t v := hval0
  have hW' := hW
  obtain ⟨p, q, hA0, hV, rfl, hfz, hnd⟩ := hW
  have hA : DataW.TrodAll enc Try.prog W 0 (fun _ => true) true Try.f5.params.toList args.toList ds p := hA0
  rw [Try.params5] at hA hval
  obtain ⟨v0, vs0, d0, ds0, p0, q0, hargs, rfl, rfl, h0, r0⟩ := trodAll_cons hA
  obtain ⟨v1, vs1, d1, ds1, p1, q1, rfl, rfl, rfl, h1, r1⟩ := trodAll_cons r0
  obtain ⟨v2, vs2, d2, ds2, p2, q2, rfl, rfl, rfl, h2, r2⟩ := trodAll_cons r1
  obtain ⟨rfl, rfl, rfl⟩ := trodAll_nil r2
  obtain rfl : args = #[v0, v1, v2] := by cases args; simp_all
  obtain ⟨rfl, rfl⟩ := trodVars_none hV
  obtain ⟨a0, len0, cap0, rfl⟩ := okWide_slice Try.underlying22 (hval 0 22 v0 rfl rfl)
  have k0 := h0
  have lt0 : ∀ x ∈ p0, x.block < W.heap.size := by obtain ⟨m, hm⟩ := k0; exact DataW.trod_lt m _ _ _ hm
  obtain ⟨hl0, hc0, z0, hn0, hf0, hr0⟩ : len0 ≤ 9223372036854775807 ∧ (len0 ≤ cap0 ∧ cap0 ≤ 9223372036854775807) ∧ ∃ vs : List (Int × Int), vs.length = len0 ∧ Fit vs ∧ VRow W W.heap.size a0 vs := by
    obtain ⟨fuel, hf⟩ := h0
    exact open_vs (by simpa [Value.cells] using hf)
  obtain ⟨a1, rfl, rfl, rfl, w1⟩ := open_int Try.underlying5 (hval 1 5 v1 rfl rfl) h1
  obtain ⟨a2, rfl, rfl, rfl, w2⟩ := open_int Try.underlying5 (hval 2 5 v2 rfl rfl) h2
  clear hA0 hval0
  refine (walk a0 len0 cap0 z0 a1 a2 W (Lib.hid hn0) hl0 (Lib.hid hf0) hr0 w1 w2).mono fun e W' ⟨he, bel⟩ => ?_
  subst he
  exact ⟨_, rfl, _, _, _, [], _, [], hW', trodAll_mk1 (shut_bool Try.underlying4 _), (trodAll_cons_mk (Below.trod laidOut (by kernel_rfl) (of_decide_eq_true (by kernel_rfl)) k0 bel lt0) (trodAll_cons_mk (shut_int Try.underlying5 w1) (trodAll_cons_mk (shut_int Try.underlying5 w2) trodAll_mk0))), rfl, bel.frame _, fun h => by cases h⟩
theorem over : Rows.textBeginsRow.holds Try.pinned (OpenSpec.ofChange Rows.textBeginsSpec) :=
  OpenClaim.holds_of_wide 5 Try.f5 rfl rfl rfl rfl rfl rfl rfl ⟨rfl, rfl, rfl, rfl, rfl⟩ rfl rfl rfl rfl rfl (by kernel_rfl) Try.func5 (by kernel_rfl)
    (of_decide_eq_true (by kernel_rfl)) (by unfold Func.isWrapper; first | (rw [if_pos (by decide +kernel)]; kernel_rfl) | (rw [if_neg (by decide +kernel)]; exact ⟨rfl, rfl⟩))
    (fun os started H enc _ => lifted os started H enc)
theorem proved : Rows.TextBeginsSaid := over
end Go.Proofs.Ytdhcnmcfgicbjaa.textBegins

