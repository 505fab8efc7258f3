/- BitsTells: of any set, and any number, all that the calls tell is the document's: the call answers true and changes nothing that was there; for every input. -/
import Derived.Test.YtfkjgpfeiijnkaaDoorZShown
namespace Go.Proofs.YtfkjgpfeiijnkaaDoor.bitsTells
open Go.ChangeShapes Go.WideShapes Go.ChangeAt Go.RowKit
set_option linter.unusedVariables false

theorem take_with {zs : List Int} {k : Nat} {x : Int} (hx : zs[k]? = some x) : Zp.mem (Zp.ofL (zs.take (k + 1))) = Zp.withL (Zp.mem (Zp.ofL (zs.take k))) x := by
  rw [← Zp.mem_wth, List.take_add_one, hx]
  show Zp.mem (Zp.ofL (zs.take k ++ [x])) = _
  rw [Zp.ofL_snoc]; rfl
set_option maxHeartbeats 4000000 in
set_option maxRecDepth 100000 in
theorem walk (x : Nat) (n : Int) (A : Option Addr) (m c : Nat) (zs : List Int) (w : World) (hx : x < 18446744073709551616) (h : Row w A m c zs) (hT : Tab w) :
    Calls Tryd.prog 3 #[.int .u64 x, .int .i64 n, .slice A m c] w fun e w' => e = .returned (.bool true) ∧ Below w.heap.size w w' := by
  have H := Lib.hid h
  have h1 := h.cap
  have h2 := h.most
  have hw1 := Zp.wth_lt hx n
  have hw2 := Zp.wout_lt hx n
  have EH := Lib.hid (show Tp.has (Zp.mem x) n = Zp.has x n by rw [has_of, Zp.has_mem])
  obtain ⟨nv, hnv⟩ : ∃ v, Zp.nextL (Zp.mem x) n = v := ⟨_, rfl⟩
  have EV := Lib.hid hnv
  clear h hnv
  go_enter Tryd.func3, Tryd.ntmps3
  go_wp2_with fail
  refine (shown_any _ hT).mono ?_
  rintro e w1 ⟨rfl, hb⟩
  have HB1 := Lib.hid hb
  have HT1 := Lib.hid (hT.step hb)
  clear hb hT
  by_cases h300 : 300 < m
  · have g1 : (300 : Int) < (m : Int) := by omega
    go_wp2_with fail
    go_ret
    exact ⟨rfl, HB1.out⟩
  · have g1 : ¬ (300 : Int) < (m : Int) := by omega
    go_wp2_with fail
    refine (refAll_any x _ hx).mono ?_
    rintro e w2 hm
    obtain ⟨Aa, na, ca, rfl, hr, hfa, hb⟩ := hm.tellF
    have hlen := hr.len
    have hna64 : na ≤ 64 := by rw [← hlen]; exact Zp.mem_len x
    have hna : na ≤ 9223372036854775807 := by omega
    have EN := Lib.hid hlen
    have HB2 := Lib.hid (HB1.out.trans (hb.mono HB1.out.size))
    have HT2 := Lib.hid (HT1.out.step hb)
    have RA2 := Lib.hid hr
    have FA := Lib.hid hfa
    clear hm hr hfa hb hlen
    go_wp2_with fail
    go_loopw [10, 11] (fun v i wr => ∃ (k : Nat) (Ao : Option Addr) (no co : Nat), k ≤ m ∧ no ≤ 64 ∧ i = .int .i64 k ∧ v = .slice Ao no co ∧ Hid (Row wr Ao no co (Zp.mem (Zp.ofL (zs.take k)))) ∧ Hid (Flat Ao) ∧ Hid (Below w2.heap.size w2 wr)) (fun _ i _ => m - (intOf i).toNat)
    case atStart => exact ⟨0, none, 0, 0, Nat.zero_le _, by omega, rfl, rfl, Lib.hid (by rw [List.take_zero, show Zp.mem (Zp.ofL []) = [] from Zp.mem_zero]; exact Row.nothing _), Lib.hid (fun ad e => by cases e), Lib.hid (Below.refl _ _)⟩
    case round =>
      obtain ⟨k, Ao, no, co, hk, hno, rfl, rfl, RO, FO, HBr⟩ := hrel
      by_cases hlt : k < m
      · obtain ⟨b, off, rfl, hb, hcs⟩ := H.out.cells (by omega)
        obtain ⟨y, hy⟩ : ∃ y, zs[k]? = some y := ⟨_, List.getElem?_eq_getElem (by rw [H.out.len]; exact hlt)⟩
        have hc := (HBr.out.cell (p := ⟨b, off + k, none⟩) (Nat.lt_of_lt_of_le hb HB2.out.size)).trans ((HB2.out.cell (p := ⟨b, off + k, none⟩) hb).trans (hcs k y hy))
        have HE := Lib.hid (take_with hy)
        clear hcs hy hb
        go_wp2_with fail
        refine (refWith_any Ao no co _ y _ RO.out FO.out (by omega)).mono ?_
        rintro e w3 ⟨A3, n3, c3, rfl, hr3, hf3, hb3⟩
        rw [← HE.out] at hr3
        have hn3 : n3 ≤ 64 := by rw [← hr3.len]; exact Zp.mem_len _
        have R3 := Lib.hid hr3
        have F3 := Lib.hid hf3
        have HB3 := Lib.hid (HBr.out.trans (hb3.mono HBr.out.size))
        clear hr3 hf3 hb3 hc
        go_wp2_with fail
        go_roundw
        case rel => exact ⟨k + 1, A3, n3, c3, by omega, hn3, by go_num, rfl, R3, F3, HB3⟩
        case measure => simp [intOf]; omega
      · obtain rfl : k = m := by omega
        rw [List.take_of_length_le (by rw [H.out.len]; exact Nat.le_refl _)] at RO
        have HB := Lib.hid (HB2.out.trans (HBr.out.mono HB2.out.size))
        have HT := Lib.hid (HT2.out.step HBr.out)
        have RA := Lib.hid (RA2.out.below HBr.out)
        clear HB1 HT1 HB2 HT2 RA2 HBr
        go_wp2_with fail
        refine (all_any x _ hx HT.out).mono ?_
        rintro e w4 hm
        obtain ⟨A4, n4, c4, rfl, hr, _, hb⟩ := hm.madeR
        replace HB := Lib.hid (HB.out.trans (hb.mono HB.out.size))
        replace HT := Lib.hid (HT.out.step hb)
        replace RA := Lib.hid (RA.out.below hb)
        replace RO := Lib.hid (RO.out.below hb)
        have R4 := Lib.hid hr
        clear hm hr hb
        go_wp2_with fail
        refine (ints_eq R4.out RA.out).mono ?_
        rintro e w5 ⟨rfl, hb⟩
        replace HB := Lib.hid (HB.out.trans (hb.mono HB.out.size))
        replace HT := Lib.hid (HT.out.step hb)
        replace RA := Lib.hid (RA.out.below hb)
        replace RO := Lib.hid (RO.out.below hb)
        clear hb R4
        go_wp2_with fail
        refine (count_any x _ hx).mono ?_
        rintro e w6 ⟨rfl, rfl⟩
        rw [EN.out]
        go_wp2_with fail
        refine (has_any x n _ hx).mono ?_
        rintro e w7 ⟨rfl, hb⟩
        replace HB := Lib.hid (HB.out.trans (hb.mono HB.out.size))
        replace HT := Lib.hid (HT.out.step hb)
        replace RA := Lib.hid (RA.out.below hb)
        replace RO := Lib.hid (RO.out.below hb)
        clear hb
        go_wp2_with fail
        refine (in_any Aa na ca _ n _ _ (Lib.hid RA.out.len) hna RA.out.row).mono ?_
        rintro e w8 ⟨rfl, rfl⟩
        rw [EH.out]
        go_wp2_with fail
        refine (with_any x n _ hx).mono ?_
        rintro e w9 ⟨rfl, hb⟩
        replace HB := Lib.hid (HB.out.trans (hb.mono HB.out.size))
        replace HT := Lib.hid (HT.out.step hb)
        replace RA := Lib.hid (RA.out.below hb)
        replace RO := Lib.hid (RO.out.below hb)
        clear hb
        go_wp2_with fail
        refine (all_any _ _ hw1 HT.out).mono ?_
        rintro e w10 hm
        obtain ⟨A10, n10, c10, rfl, hr, _, hb⟩ := hm.madeR
        rw [Zp.mem_wth] at hr
        replace HB := Lib.hid (HB.out.trans (hb.mono HB.out.size))
        replace HT := Lib.hid (HT.out.step hb)
        replace RA := Lib.hid (RA.out.below hb)
        replace RO := Lib.hid (RO.out.below hb)
        have R10 := Lib.hid hr
        clear hm hr hb
        go_wp2_with fail
        refine (refWith_any Aa na ca _ n _ RA.out FA.out (by omega)).mono ?_
        rintro e w11 ⟨A11, n11, c11, rfl, hr, _, hb⟩
        replace HB := Lib.hid (HB.out.trans (hb.mono HB.out.size))
        replace HT := Lib.hid (HT.out.step hb)
        replace RA := Lib.hid (RA.out.below hb)
        replace RO := Lib.hid (RO.out.below hb)
        have R10' := Lib.hid (R10.out.below hb)
        have R11 := Lib.hid hr
        clear hr hb R10
        go_wp2_with fail
        refine (ints_eq R10'.out R11.out).mono ?_
        rintro e w12 ⟨rfl, hb⟩
        replace HB := Lib.hid (HB.out.trans (hb.mono HB.out.size))
        replace HT := Lib.hid (HT.out.step hb)
        replace RA := Lib.hid (RA.out.below hb)
        replace RO := Lib.hid (RO.out.below hb)
        clear hb R10' R11
        go_wp2_with fail
        refine (without_any x n _ hx).mono ?_
        rintro e w13 ⟨rfl, hb⟩
        replace HB := Lib.hid (HB.out.trans (hb.mono HB.out.size))
        replace HT := Lib.hid (HT.out.step hb)
        replace RA := Lib.hid (RA.out.below hb)
        replace RO := Lib.hid (RO.out.below hb)
        clear hb
        go_wp2_with fail
        refine (all_any _ _ hw2 HT.out).mono ?_
        rintro e w14 hm
        obtain ⟨A14, n14, c14, rfl, hr, _, hb⟩ := hm.madeR
        rw [Zp.mem_wout hx] at hr
        replace HB := Lib.hid (HB.out.trans (hb.mono HB.out.size))
        replace HT := Lib.hid (HT.out.step hb)
        replace RA := Lib.hid (RA.out.below hb)
        replace RO := Lib.hid (RO.out.below hb)
        have R14 := Lib.hid hr
        clear hm hr hb
        go_wp2_with fail
        refine (refWithout_any Aa na ca _ n _ RA.out (by omega)).mono ?_
        rintro e w15 hm
        obtain ⟨A15, n15, c15, rfl, hr, _, hb⟩ := hm.madeR
        replace HB := Lib.hid (HB.out.trans (hb.mono HB.out.size))
        replace HT := Lib.hid (HT.out.step hb)
        replace RA := Lib.hid (RA.out.below hb)
        replace RO := Lib.hid (RO.out.below hb)
        have R14' := Lib.hid (R14.out.below hb)
        have R15 := Lib.hid hr
        clear hm hr hb R14
        go_wp2_with fail
        refine (ints_eq R14'.out R15.out).mono ?_
        rintro e w16 ⟨rfl, hb⟩
        replace HB := Lib.hid (HB.out.trans (hb.mono HB.out.size))
        replace HT := Lib.hid (HT.out.step hb)
        replace RA := Lib.hid (RA.out.below hb)
        replace RO := Lib.hid (RO.out.below hb)
        clear hb R14' R15
        go_wp2_with fail
        refine (next_any x n _ hx HT.out).mono ?_
        rintro e w17 ⟨rfl, rfl⟩
        rw [EV.out]
        go_wp2_with fail
        refine (refNext_any Aa na ca _ n _ RA.out).mono ?_
        rintro e w18 ⟨rfl, rfl⟩
        rw [EV.out]
        go_wp2_with fail
        refine (of_any A k c zs _ (H.out.below HB.out)).mono ?_
        rintro e w19 ⟨rfl, rfl⟩
        go_wp2_with fail
        refine (all_any _ _ (Zp.ofL_lt zs) HT.out).mono ?_
        rintro e w20 hm
        obtain ⟨A20, n20, c20, rfl, hr, _, hb⟩ := hm.madeR
        replace HB := Lib.hid (HB.out.trans (hb.mono HB.out.size))
        replace HT := Lib.hid (HT.out.step hb)
        replace RA := Lib.hid (RA.out.below hb)
        replace RO := Lib.hid (RO.out.below hb)
        have R20 := Lib.hid hr
        clear hm hr hb
        go_wp2_with fail
        refine (ints_eq R20.out RO.out).mono ?_
        rintro e w21 ⟨rfl, hb⟩
        replace HB := Lib.hid (HB.out.trans (hb.mono HB.out.size))
        replace HT := Lib.hid (HT.out.step hb)
        replace RA := Lib.hid (RA.out.below hb)
        replace RO := Lib.hid (RO.out.below hb)
        clear hb
        go_wp2_with fail
        go_ret
        exact ⟨rfl, HB.out⟩
set_option maxRecDepth 100000 in
theorem lifted (os : Os) (started : os.Started) (H : Type) (enc : TypeId × Value → H) :
    ReturnsInHanded {} Tryd.checked os 3 .any (fun w args => (Rows.bitsTellsSpec.pre enc Tryd.prog Tryd.f3 [] false w args ∧ laidMetH Tryd.prog laidList w) ∧ sizedMet enc Tryd.prog Tryd.f3 (OpenSpec.ofChange Rows.bitsTellsSpec) false w args)
      (Rows.bitsTellsSpec.post enc Tryd.prog Tryd.f3 false true false false) := by
  refine returnsInHanded_of_change_and (C := Tryd.checked) (X := fun w _ => laidMetH Tryd.prog laidList w) (fun _ _ _ hh h => h.of_heap hh) own started (by kernel_rfl) Tryd.func3
    (ChangeSpec.witness_shaped (enc := enc) (C := Tryd.checked) (os := os) (X := fun w _ => laidMetH Tryd.prog laidList w) false (World.doorLaid Tryd.prog 14 os) #[.int .u64 0, .int .i64 0, .slice none 0 0] 8 rfl (World.shaped_of_RefB (by kernel_rfl) (by kernel_rfl)) (by kernel_rfl) (by kernel_rfl) (by kernel_rfl) (door_met os _)) ?_
  intro W base args ds gs before hval0 hW _ _ hL _
  have hval : ∀ (j : Nat) t v, Tryd.f3.params[j]? = some t → args[j]? = some v → Value.okWide Tryd.prog W .any base t v := hval0
  have hW' := hW
  obtain ⟨p, q, hA0, hV, rfl, hfz, hnd⟩ := hW
  have hA : DataW.TrodAll enc Tryd.prog W 0 (fun _ => true) true Tryd.f3.params.toList args.toList ds p := hA0
  rw [Tryd.params3] at hA hval
  obtain ⟨v0, vs0, d0, ds0, p0, q0, hargs, rfl, rfl, h0, r0⟩ := trodAll_cons hA
  obtain ⟨v1, vs1, d1, ds1, p1, q1, rfl, rfl, rfl, h1, r1⟩ := trodAll_cons r0
  obtain ⟨v2, vs2, d2, ds2, p2, q2, rfl, rfl, rfl, h2, r2⟩ := trodAll_cons r1
  obtain ⟨rfl, rfl, rfl⟩ := trodAll_nil r2
  obtain rfl : args = #[v0, v1, v2] := by cases args; simp_all
  obtain ⟨rfl, rfl⟩ := trodVars_none hV
  obtain ⟨a0, rfl, rfl, rfl, w0⟩ := open_int Tryd.underlying22 (hval 0 22 v0 rfl rfl) h0
  obtain ⟨x0, rfl, b0⟩ := of_wf64 w0
  obtain ⟨a1, rfl, rfl, rfl, w1⟩ := open_int Tryd.underlying3 (hval 1 3 v1 rfl rfl) h1
  have k2 := h2
  have lt2 : ∀ x ∈ p2, x.block < W.heap.size := by obtain ⟨m, hm⟩ := k2; exact DataW.trod_lt m _ _ _ hm
  obtain ⟨a2, len2, cap2, rfl⟩ := okWide_slice Tryd.underlying23 (hval 2 23 v2 rfl rfl)
  obtain ⟨aa2, ll2, cc2, z2, ev2, hr2⟩ : ∃ A n c zs, Value.slice a2 len2 cap2 = .slice A n c ∧ Row W A n c zs := by
    obtain ⟨fuel, hf⟩ := h2
    exact open_list (by simpa [Value.cells] using hf)
  injection ev2 with ea2 eb2 ec2
  subst ea2 eb2 ec2
  clear hA0 hval0
  refine (walk x0 a1 a2 len2 cap2 z2 W b0 hr2 (tab_of_laid hL)).mono fun e W' ⟨he, bel⟩ => ?_
  subst he
  exact ⟨_, rfl, _, _, _, [], _, [], hW', trodAll_mk1 (shut_bool Tryd.underlying4 _), (trodAll_cons_mk (shut_int Tryd.underlying22 w0) (trodAll_cons_mk (shut_int Tryd.underlying3 w1) (trodAll_cons_mk (Below.trod laidOut (by kernel_rfl) (of_decide_eq_true (by kernel_rfl)) k2 bel lt2) trodAll_mk0))), rfl, bel.frame _, fun h => by cases h⟩
theorem over : Rows.BitsTellsSaid :=
  OpenClaim.holds_of_wide 3 Tryd.f3 rfl rfl rfl rfl rfl rfl rfl ⟨rfl, rfl, rfl, rfl, rfl⟩ rfl rfl rfl rfl rfl (by kernel_rfl) Tryd.func3 (by kernel_rfl)
    (of_decide_eq_true (by kernel_rfl)) (by unfold Func.isWrapper; first | (rw [if_pos (by decide +kernel)]; kernel_rfl) | (rw [if_neg (by decide +kernel)]; exact ⟨rfl, rfl⟩))
    (fun os started H enc _ => lifted os started H enc)
theorem proved : Rows.BitsTellsCardSaid :=
  Claim7.holds_tied_plain_at .later [] [.data] true Rows.bitsTellsCard.stood.harness false
    over (fun _ h => by cases h) (by kernel_rfl) (fun _ h => by cases h) bitsTells_row_tie rfl ⟨rfl, rfl⟩ (by kernel_rfl) rfl
    (fun f fn hf hfn => by
      obtain rfl : f = 3 := Option.some.inj ((show Tryd.prog.funcNamed "catafalque/catafalquelaw06.BitsTells" = some 3 by kernel_rfl).symm.trans hf) |>.symm
      obtain rfl : fn = Tryd.f3 := (Option.some.inj (Tryd.func3.symm.trans hfn)).symm
      exact ⟨by kernel_rfl, fun j t ht => by
        rw [Tryd.params3] at ht
        have hm : t ∈ [22, 3, 23] := by simpa using Array.mem_of_getElem? ht
        have hall : ([22, 3, 23].all fun u => !Tryd.prog.wantsStandIn u) = true := by kernel_rfl
        exact (show Tryd.prog.wantsStandIn t = false by simpa using List.all_eq_true.1 hall t hm)⟩)
    (by kernel_rfl)
end Go.Proofs.YtfkjgpfeiijnkaaDoor.bitsTells

