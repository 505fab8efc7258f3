/- TopoBounds: what has too many vertices, none, or a first one that isn't the machine, is no tree: the call answers true and changes nothing that was there; for every input. -/
import Derived.Test.YtfcbpfopibilcaaShown
import Derived.Test.YtfcbpfopibilcaaTree
import Derived.Test.YtfcbpfopibilcaaFrame
import Derived.Test.YtfcbpfopibilcaaVx
import Derived.Laws.AppendOwn
import Derived.Maps.AppendAt
import Derived.Deep.RegionHeld3
import Derived.Deep.AppendLies
namespace Go.Proofs.Ytfcbpfopibilcaa.topoBounds
open Go.ChangeShapes Go.WideShapes Go.ChangeAt Go.RowKit
set_option linter.unusedVariables false

set_option maxHeartbeats 4000000 in
set_option maxRecDepth 100000 in
theorem walk (A : Option Addr) (n c : Nat) (vs : List (Int × Int)) (more : Int) (w : World)
    (hn : Hid (vs.length = n)) (hl : n ≤ 9223372036854775807) (hf : Hid (Fit vs)) (hv : VRow w w.heap.size A vs) (hcn : n ≤ c) (hcm : c ≤ 9223372036854775807) (hu : (Lit.int .u8 more).wf = true) :
    Calls Try.prog 8 #[.slice A n c, .int .u8 more] w fun e w' => e = .returned (.bool true) ∧ Below w.heap.size w w' := by
  go_enter Try.func8, Try.ntmps8
  go_wp2_with fail
  refine (shown_any _).mono ?_
  rintro e w1 ⟨rfl, hb1⟩
  have hv1 := (hv.below hb1).more hb1.size
  go_wp2_with fail
  refine (check_any _ n c vs _ hn hl hf hv1).mono ?_
  rintro e w2 ⟨he, hb2⟩
  have hbe2 := hb1.trans (hb2.mono hb1.size)
  clear hb1 hb2 hv1
  cases hm : Tp.may vs
  · rw [hm] at he
    have he' : e = .returned (.int .i64 2) := he
    subst he'
    clear hm he
    go_wp2_with fail
    go_ret
    exact ⟨rfl, hbe2⟩
  · rw [hm] at he
    have he' : e = .returned (.int .i64 0) := he
    subst he'
    have T := (Tp.tree_iff vs).1 hm
    have h64 : n ≤ 64 := by have := T.few; have := hn.out; omega
    have h1n : 1 ≤ n := by have := T.pos; have := hn.out; omega
    clear hm he
    obtain ⟨b, off, hA, hbk, _, _⟩ := hv 0 _ T.first
    subst hA
    have hu' : 0 ≤ more ∧ more ≤ 255 := by simpa [Lit.wf, IntKind.min, IntKind.max, IntKind.signed, IntKind.bits] using hu
    obtain ⟨u0, u1⟩ := hu'
    obtain ⟨mo, rfl⟩ := Int.eq_ofNat_of_zero_le u0
    clear hu u0
    obtain ⟨i0, hi, hz0, hz1, hz2⟩ := info_parts info_vx
    have hr2 : VRow (w2.alloc (.cells #[] 34)) (w.heap.size) (some ⟨b, off, none⟩) vs := (hv.below hbe2).below ((below1 w2 _).mono hbe2.size)
    have hlen : (vcells vs).length = n * 2 := by rw [vcells_length, hn.out]
    have HLEN := Lib.hid hlen
    clear hlen
    have hown0 := own_empty w2 w.heap.size 34 hbe2.size
    go_wp2_with (at_builtin; refine wpList_append_own _ rfl _ _ 22 rfl w.heap.size 34 i0 _ 2 16 Try.underlying22 hi hz0 hz1 hz2 rfl (by decide) _ _ _ rfl hown0 ⟨b, off, none⟩ n c (vcells vs) rfl HLEN.out ?c1 ?c2 ?c3 ?c4 ?c5 ?_)
    case c1 => exact hr2.cells
    case c2 => exact vcells_one' vs
    case c3 => unfold maxLen; omega
    case c4 => omega
    case c5 => have := hbe2.size; simp; omega
    intro v3 w3 hown3 hg3 _
    have hbe3 : Below w.heap.size w w3 := (hbe2.alloc hbe2.size _).grown hg3 (by have := hbe2.size; simp; omega) (fun k hk => by simp [Value.ownBlock] at hk; have := hbe2.size; omega)
    rw [vcells_nil, List.nil_append] at hown3
    clear hr2 hg3 hown0 hi hz0 hz1 hz2 i0
    go_wp2_with fail
    go_loopw [6, 7] (fun s i wr => ∃ (k : Nat) (us : List (Int × Int)), k ≤ 65 ∧ i = .int .i64 k ∧ wr.ownsRow w.heap.size 34 2 s (n + k) (vcells us) ∧ Hid (Fit us) ∧ Below w.heap.size w wr) (fun _ i _ => 65 - (intOf i).toNat)
    case atStart => exact ⟨0, vs, by omega, rfl, hown3, hf, hbe3⟩
    case round =>
      obtain ⟨k, us, hk, rfl, hown, hfu, hbe⟩ := hrel
      by_cases hlt : k < 65
      · obtain ⟨q, hq⟩ : ∃ q, q = mo % n := ⟨_, rfl⟩
        have hqn : q < n := by rw [hq]; exact Nat.mod_lt _ (by omega)
        obtain ⟨x, hx⟩ : ∃ x, vs[q]? = some x := ⟨_, List.getElem?_eq_getElem (by have := hn.out; omega)⟩
        obtain ⟨l0, l3⟩ := T.level hx
        obtain ⟨b', off', hA, _, _, hc2⟩ := (hv.below hbe) q x hx
        injection hA with hA
        injection hA with e1 e2
        subst e1 e2
        have t1 : ((mo : Int).tmod (n : Int)) = (q : Int) := by rw [hq]; rfl
        have t2 : IntKind.i64.wrap (mo : Int) = (mo : Int) := IntWalk.i64_in _ (by omega)
        have t3 : (mo : Int) % (n : Int) = (q : Int) := by rw [hq]; rfl
        have t4 : IntKind.i64.wrap (x.2 + 1) = x.2 + 1 := IntWalk.i64_in _ (by omega)
        have t5 : (0 : Int) ≤ (q : Int) := by omega
        have t6 : (q : Int) < (n : Int) := by omega
        have t7 : IntKind.i64.wrap (q : Int) = (q : Int) := IntWalk.i64_in _ (by omega)
        have t8 : ((n : Int) == 0) = false := by rw [beq_eq_false_iff_ne]; omega
        have t9 : ¬ n = 0 := by omega
        have hbw : b < wr.heap.size := by have := hbe.size; omega
        have hne : u6.ownBlock ≠ some b := fun h => by have := (hown.lt b h).1; omega
        obtain ⟨i0, hi, hz0, hz1, hz2⟩ := info_parts info_vx
        clear hx hq
        go_wp2_with fail
        go_region_held3 (fun w' => w'.cell? ⟨b, off + q * 2 + 1, none⟩ = some (.int .i64 x.2))
          (first | go_keep | (rw [hgrow.cell_far _ (by simp; omega) (Ne.symm hne)]; assumption))
          ((refine step_append_lies _ (by rfl) _ _ _ (by rfl) w.heap.size 34 i0 _ 2 16 Try.underlying22 hi hz0 hz1 hz2 rfl (by omega) u6 (n + k) (vcells us) (by rfl) ((hown.alloc _).drew) ⟨wr.heap.size, 0, none⟩ 1 1 (vcells [((q : Int), x.2 + 1)]) (by rfl) (by rfl) (two_cells wr q (x.2 + 1) _) (vcells_one' _) (by omega) (by unfold maxLen; omega) (by omega) (by have := hbe.size; simp; omega) (wr.heap.size + 1) (by simp) ?_; intro gg cap w5 hown5 hgrow hat hlt5))
        have hfq : Fit [((q : Int), x.2 + 1)] := by
          intro y hy
          rw [List.mem_singleton] at hy
          subst hy
          exact ⟨⟨by omega, by omega⟩, ⟨by simp only; omega, by simp only; omega⟩⟩
        rw [← vcells_append] at hown5
        go_wp2_with fail
        go_roundw
        case rel => exact ⟨k + 1, us ++ [((q : Int), x.2 + 1)], by omega, by go_num, hown5, Lib.hid (hfu.out.append hfq), ((hbe.alloc hbe.size _).drew).grown hgrow (by have := hbe.size; simp; omega) (fun j hj => (hown.lt j hj).1)⟩
        case measure => simp [intOf]; omega
      · have hk65 : k = 65 := by omega
        subst hk65
        have h2n : 2 ≤ n := by have := T.two; have := hn.out; omega
        have hc1 : ¬ c = 1 := by omega
        have hown0 := own_empty wr w.heap.size 34 hbe.size
        have hr2 : VRow (wr.alloc (.cells #[] 34)) (w.heap.size) (some ⟨b, off, none⟩) vs := (hv.below hbe).below ((below1 wr _).mono hbe.size)
        have hlen : (vcells (vs.drop 1)).length = (n - 1) * 2 := by rw [vcells_length, List.length_drop, hn.out]
        have HLEN := Lib.hid hlen
        clear hlen
        obtain ⟨i0, hi, hz0, hz1, hz2⟩ := info_parts info_vx
        have hus : us.length = n + 65 := own_vlen hown
        obtain ⟨A6, c6, hv6⟩ := own_form hown
        subst hv6
        have hru := VRow.of_own hown
        go_wp2_with (at_builtin; refine wpList_append_own _ rfl _ _ 22 rfl w.heap.size 34 i0 _ 2 16 Try.underlying22 hi hz0 hz1 hz2 rfl (by decide) _ _ _ rfl hown0 ⟨b, off + 2, none⟩ (n - 1) (c - 1) (vcells (vs.drop 1)) rfl HLEN.out ?c1 ?c2 ?c3 ?c4 ?c5 ?_)
        case c1 => exact hr2.drop1.cells
        case c2 => exact vcells_one' _
        case c3 => unfold maxLen; omega
        case c4 => omega
        case c5 => have := hbe.size; simp; omega
        intro v7 w7 hown7 hg7 _
        have hbw : Below wr.heap.size wr w7 := ((Below.refl _ _).alloc (Nat.le_refl _) _).grown hg7 (by simp) (fun k hk => by simp [Value.ownBlock] at hk; omega)
        have hbe7 := hbe.trans (hbw.mono hbe.size)
        have hru7 := (hru.below hbw).more hbw.size
        rw [vcells_nil, List.nil_append] at hown7
        obtain ⟨A7, c7, hv7⟩ := own_form hown7
        subst hv7
        have hlen7 : (vs.drop 1).length = n - 1 := by rw [List.length_drop, hn.out]
        have hrd := VRow.of_own hown7
        have hrd7 := hrd
        have HUS := Lib.hid hus
        have HL7 := Lib.hid hlen7
        have M1 : Tp.may us = false := Tp.may_long (by omega)
        have M2 : Tp.may (vs.drop 1) = false := T.drop1
        have M3 : Hid (Tp.may [] = false) := Lib.hid Tp.may_nil
        have M4 : Hid ((Tp.those (kidsP n) vs).length = 0) := Lib.hid (by have := T.none_below; rw [hn.out] at this; exact this)
        have hle := Tp.those_le (kidsP n) vs n
        clear hus hlen7 hown hown0 hr2 hg7 hi hz0 hz1 hz2 i0 hru hown7 hrd
        have HM1 := Lib.hid M1
        have HM2 := Lib.hid M2
        clear M1 M2
        go_wp2_with fail
        refine (check_any _ (n + 65) c6 us _ HUS (by omega) hfu hru7).mono ?_
        rintro e w8 ⟨he, hb8⟩
        rw [HM1.out] at he
        have he' : e = .returned (.int .i64 2) := he
        subst he'
        have hbe8 := hbe7.trans (hb8.mono hbe7.size)
        have hrd8 := (hrd7.below hb8).more hb8.size
        clear he hb8 hru7 hrd7
        go_wp2_with fail
        refine (check_any _ (n - 1) c7 (vs.drop 1) _ HL7 (by omega) (Lib.hid (hf.out.drop 1)) (by first | exact hrd8 | (rw [List.drop_one]; exact hrd8))).mono ?_
        rintro e w9 ⟨he, hb9⟩
        rw [HM2.out] at he
        have he' : e = .returned (.int .i64 2) := he
        subst he'
        have hbe9 := hbe8.trans (hb9.mono hbe8.size)
        clear he hb9 hrd8
        go_wp2_with fail
        refine (check_any _ 0 c [] _ (Lib.hid rfl) (by omega) (Lib.hid (fun x hx => by simp at hx)) (fun i x hx => by simp at hx)).mono ?_
        rintro e w10 ⟨he, hb10⟩
        rw [M3.out] at he
        have he' : e = .returned (.int .i64 2) := he
        subst he'
        have hbe10 := hbe9.trans (hb10.mono hbe9.size)
        have hv10 := (hv.below hbe10).more hbe10.size
        clear he hb10
        go_wp2_with fail
        refine (kids_any _ n c vs n _ hn hl (by omega) hv10).mono ?_
        rintro e w11 ⟨A11, c11, he, _, hb11⟩
        rw [M4.out] at he
        subst he
        have hbe11 := hbe10.trans (hb11.mono hbe10.size)
        go_wp2_with fail
        go_ret
        exact ⟨rfl, hbe11⟩
set_option maxRecDepth 100000 in
theorem lifted (os : Os) (started : os.Started) (H : Type) (enc : TypeId × Value → H) :
    ReturnsInHanded {} Try.checked os 8 .any (Rows.topoBoundsSpec.pre6 enc Try.prog Try.f8 Rows.topoBoundsRow.domain false) (Rows.topoBoundsSpec.post enc Try.prog Try.f8 false true false false) := by
  refine returnsInHanded_of_change (C := Try.checked) own started (by kernel_rfl) Try.func8
    (ChangeSpec.witness6 (enc := enc) (C := Try.checked) false ⟨#[], #[.slice none 0 0, .int .u8 0], []⟩ 8 (by kernel_rfl) (by kernel_rfl) (by kernel_rfl) (by kernel_rfl)) ?_
  intro W base args ds gs before hval0 hW hcnd _
  have hval : ∀ (j : Nat) t v, Try.f8.params[j]? = some t → args[j]? = some v → Value.okWide Try.prog W .any base t v := hval0
  have hW' := hW
  obtain ⟨p, q, hA0, hV, rfl, hfz, hnd⟩ := hW
  have hA : DataW.TrodAll enc Try.prog W 0 (fun _ => true) true Try.f8.params.toList args.toList ds p := hA0
  rw [Try.params8] at hA hval
  obtain ⟨v0, vs0, d0, ds0, p0, q0, hargs, rfl, rfl, h0, r0⟩ := trodAll_cons hA
  obtain ⟨v1, vs1, d1, ds1, p1, q1, rfl, rfl, rfl, h1, r1⟩ := trodAll_cons r0
  obtain ⟨rfl, rfl, rfl⟩ := trodAll_nil r1
  obtain rfl : args = #[v0, v1] := by cases args; simp_all
  obtain ⟨rfl, rfl⟩ := trodVars_none hV
  obtain ⟨a0, len0, cap0, rfl⟩ := okWide_slice Try.underlying22 (hval 0 22 v0 rfl rfl)
  have k0 := h0
  have lt0 : ∀ x ∈ p0, x.block < W.heap.size := by obtain ⟨m, hm⟩ := k0; exact DataW.trod_lt m _ _ _ hm
  obtain ⟨hl0, hc0, z0, hn0, hf0, hr0⟩ : len0 ≤ 9223372036854775807 ∧ (len0 ≤ cap0 ∧ cap0 ≤ 9223372036854775807) ∧ ∃ vs : List (Int × Int), vs.length = len0 ∧ Fit vs ∧ VRow W W.heap.size a0 vs := by
    obtain ⟨fuel, hf⟩ := h0
    exact open_vs (by simpa [Value.cells] using hf)
  obtain ⟨a1, rfl, rfl, rfl, w1⟩ := open_int Try.underlying5 (hval 1 5 v1 rfl rfl) h1
  clear hA0 hval0
  refine (walk a0 len0 cap0 z0 a1 W (Lib.hid hn0) hl0 (Lib.hid hf0) hr0 hc0.1 hc0.2 w1).mono fun e W' ⟨he, bel⟩ => ?_
  subst he
  exact ⟨_, rfl, _, _, _, [], _, [], hW', trodAll_mk1 (shut_bool Try.underlying4 _), (trodAll_cons_mk (Below.trod laidOut (by kernel_rfl) (of_decide_eq_true (by kernel_rfl)) k0 bel lt0) (trodAll_cons_mk (shut_int Try.underlying5 w1) trodAll_mk0)), rfl, bel.frame _, fun h => by cases h⟩
theorem over : Rows.topoBoundsRow.holds Try.pinned (OpenSpec.ofChange Rows.topoBoundsSpec) :=
  OpenClaim.holds_of_wide 8 Try.f8 rfl rfl rfl rfl rfl rfl rfl ⟨rfl, rfl, rfl, rfl, rfl⟩ rfl rfl rfl rfl rfl (by kernel_rfl) Try.func8 (by kernel_rfl)
    (of_decide_eq_true (by kernel_rfl)) (by unfold Func.isWrapper; first | (rw [if_pos (by decide +kernel)]; kernel_rfl) | (rw [if_neg (by decide +kernel)]; exact ⟨rfl, rfl⟩))
    (fun os started H enc _ => lifted os started H enc)
theorem proved : Rows.TopoBoundsSaid := over
end Go.Proofs.Ytfcbpfopibilcaa.topoBounds

