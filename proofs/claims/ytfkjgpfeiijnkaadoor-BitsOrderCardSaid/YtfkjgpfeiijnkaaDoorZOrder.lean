/- BitsOrder: in whatever order numbers come, and however often, they are the same set: the call answers true and changes nothing that was there; for every input. -/
import Derived.Test.YtfkjgpfeiijnkaaDoorZShown
namespace Go.Proofs.YtfkjgpfeiijnkaaDoor.bitsOrder
open Go.ChangeShapes Go.WideShapes Go.ChangeAt Go.RowKit
set_option linter.unusedVariables false

theorem wpList_append_row_g {w : World} {ops : Array Oper} {rest : List Oper} {o : Oper} {a : Act} {Q : Exit → Act → World → Prop} (s x : Operand)
    (ho : o.op = .call { callee := .builtin .append, args := #[s, x], argTypes := #[23, 23] })
    (hw : Region.wanted o (yielded ops a.tmps) = true)
    (base : Nat) (v : Value) (n : Nat) (xs : List Int) (hs : a.eval s = v) (hown : w.ownsRow base 3 1 v n (xs.map (Value.int .i64)))
    (A : Option Addr) (m c : Nat) (zs : List Int) (hx : a.eval x = .slice A m c) (h : Row w A m c zs) (hb : n + m ≤ 1000000) (hbase : base ≤ w.heap.size)
    (hK : ∀ v' w', w'.ownsRow base 3 1 v' (n + m) ((xs ++ zs).map (Value.int .i64)) → w.grownBy w' v.ownBlock → wpList Tryd.prog ops Q rest (a.put o.dst v') w') : wpList Tryd.prog ops Q (o :: rest) a w := by
  obtain ⟨v', w', hr, h2, h3⟩ := run_append_row w o.type base v n xs hown A m c zs h hb hbase
  refine wpList_step fun K hK' => ?_
  rw [if_pos hw]
  unfold Oper.wp
  simp [execOp, ho, resolve, invoke, builtin, hs, hx, hr, Result.andThen]
  exact hK' _ _ (hK v' w' h2 h3)
/-- Turned round by k and told backwards: the first m of them. -/
def back (zs : List Int) (k m : Nat) : List Int := (List.range m).map fun q => zs.getD ((zs.length - 1 - q + k) % zs.length) 0
theorem back_succ (zs : List Int) (k m : Nat) : back zs k (m + 1) = back zs k m ++ [zs.getD ((zs.length - 1 - m + k) % zs.length) 0] := by
  unfold back; rw [List.range_succ, List.map_append]; rfl
theorem back_len (zs : List Int) (k m : Nat) : (back zs k m).length = m := by simp [back]
theorem mem_back {zs : List Int} {k : Nat} {z : Int} (h0 : zs ≠ []) (hk : k < zs.length) : z ∈ back zs k zs.length ↔ z ∈ zs := by
  have hp : 0 < zs.length := List.length_pos_iff.2 h0
  unfold back
  constructor
  · intro h
    obtain ⟨q, _, rfl⟩ := List.mem_map.1 h
    have := Nat.mod_lt (zs.length - 1 - q + k) hp
    rw [List.getD_eq_getElem?_getD, List.getElem?_eq_getElem this]
    exact List.getElem_mem _
  · intro h
    obtain ⟨i, hi⟩ := List.mem_iff_getElem?.1 h
    have hil := (List.getElem?_eq_some_iff.1 hi).1
    by_cases hik : k ≤ i
    · refine List.mem_map.2 ⟨zs.length - 1 - (i - k), List.mem_range.2 (by omega), ?_⟩
      rw [show zs.length - 1 - (zs.length - 1 - (i - k)) + k = i by omega, Nat.mod_eq_of_lt hil, List.getD_eq_getElem?_getD, hi]; rfl
    · refine List.mem_map.2 ⟨zs.length - 1 - (i + zs.length - k), List.mem_range.2 (by omega), ?_⟩
      rw [show zs.length - 1 - (zs.length - 1 - (i + zs.length - k)) + k = i + zs.length by omega, Nat.add_mod_right, Nat.mod_eq_of_lt hil, List.getD_eq_getElem?_getD, hi]; rfl
theorem ofL_same {a b : List Int} (h : ∀ z, z ∈ a ↔ z ∈ b) : Zp.ofL a = Zp.ofL b :=
  Zp.ext64 (Zp.ofL_lt a) (Zp.ofL_lt b) fun i hi => by rw [Zp.ofL_bit, Zp.ofL_bit, Bool.eq_iff_iff, decide_eq_true_eq, decide_eq_true_eq, h]
set_option maxHeartbeats 4000000 in
theorem walk (A : Option Addr) (n c : Nat) (zs : List Int) (t : Int) (w : World) (h : Row w A n c zs) (hu : (Lit.int .u8 t).wf = true) (hT : Tab w) :
    Calls Tryd.prog 8 #[.slice A n c, .int .u8 t] w fun e w' => e = .returned (.bool true) ∧ Below w.heap.size w w' := by
  obtain ⟨i0, hi, hz0, hz1, hz2⟩ := info_parts info_int
  have hu' : 0 ≤ t ∧ t ≤ 255 := by simpa [Lit.wf, IntKind.min, IntKind.max, IntKind.signed, IntKind.bits] using hu
  obtain ⟨u0, u1⟩ := hu'
  have H := Lib.hid h
  have h1 := h.cap
  have h2 := h.most
  clear hu h
  go_enter Tryd.func8, Tryd.ntmps8
  go_wp2_with fail
  refine (shown_any _ hT).mono ?_
  rintro e w1 ⟨rfl, hb⟩
  have HB1 := Lib.hid hb
  clear hb hT
  by_cases h300 : 300 < n
  · have g1 : (300 : Int) < (n : Int) := by omega
    go_wp2_with fail
    go_ret
    exact ⟨rfl, HB1.out⟩
  · have g1 : ¬ (300 : Int) < (n : Int) := by omega
    by_cases hn0 : n = 0
    · have g2 : ((n : Int) == 0) = true := by rw [beq_iff_eq]; omega
      go_wp2_with fail
      go_ret
      exact ⟨rfl, HB1.out⟩
    · have g2 : ((n : Int) == 0) = false := by rw [beq_eq_false_iff_ne]; omega
      obtain ⟨b, off, rfl, hb, hcs⟩ := H.out.cells (by omega)
      have HC := Lib.hid hcs
      obtain ⟨T, rfl⟩ := Int.eq_ofNat_of_zero_le u0
      obtain ⟨k, hk⟩ : ∃ k : Nat, k = T % n := ⟨_, rfl⟩
      have hkn : k < n := by rw [hk]; exact Nat.mod_lt _ (by omega)
      have kt : (T : Int).tmod (n : Int) = (k : Int) := by rw [Int.tmod_eq_emod_of_nonneg u0, hk]; rfl
      have nz : (n : Int) ≠ 0 := by omega
      clear hcs hk
      go_wp2_with fail
      have hzl := H.out.len
      have HZ := Lib.hid hzl
      have HMB := Lib.hid (show ∀ z, z ∈ back zs k n ↔ z ∈ zs by
        intro z
        have := mem_back (zs := zs) (k := k) (z := z) (fun e => by rw [e] at hzl; simp at hzl; omega) (by omega)
        rwa [hzl] at this)
      clear hzl
      go_loopw [7, 8] (fun v i wr => ∃ (m r : Nat), m + r = n ∧ i = .int .i64 ((r : Int) - 1) ∧ wr.ownsRow w.heap.size 3 1 v m ((back zs k m).map (Value.int .i64)) ∧ Hid (Below w.heap.size w wr)) (fun _ i _ => (intOf i + 1).toNat)
      case atStart => exact ⟨0, n, Nat.zero_add n, rfl, World.ownsRow_nil _ _ _ _, HB1⟩
      case round =>
        obtain ⟨m, r, hmr, rfl, hown, HB⟩ := hrel
        by_cases hr0 : r = 0
        · subst hr0
          obtain rfl : m = n := by omega
          have g3 : ¬ (0 : Int) ≤ ((0 : Nat) : Int) - 1 := by omega
          obtain ⟨Ab, cb, rfl, hrb⟩ := Row.of_own hown
          have HRB := Lib.hid hrb
          clear hrb
          have HS := Lib.hid (show Zp.ofL (back zs k m) = Zp.ofL zs from ofL_same HMB.out)
          have HSS := Lib.hid (show Zp.ofL (back zs k m ++ zs) = Zp.ofL zs from ofL_same fun z => by rw [List.mem_append, HMB.out]; exact or_self_iff)
          obtain ⟨s, hs⟩ : ∃ s, Zp.ofL zs = s := ⟨_, rfl⟩
          have ES := Lib.hid hs
          clear hs
          go_wp2_with fail
          refine (of_any (some ⟨b, off, none⟩) m c zs _ (H.out.below HB.out)).mono ?_
          rintro e w2 ⟨rfl, rfl⟩
          rw [ES.out]
          go_wp2_with fail
          refine (of_any none 0 0 [] _ (Row.nothing _)).mono ?_
          rintro e w3 ⟨rfl, rfl⟩
          go_wp2_with fail
          go_loopw [10, 11] (fun v i wr => ∃ (r y : Nat), r ≤ m ∧ i = .int .i64 r ∧ v = .int .u64 y ∧ y < 18446744073709551616 ∧ Hid (Zp.ofL (zs.take r) = y) ∧ Hid (Below w3.heap.size w3 wr)) (fun _ i _ => m - (intOf i).toNat)
          case atStart => exact ⟨0, Zp.ofL [], Nat.zero_le _, rfl, rfl, Zp.ofL_lt [], Lib.hid rfl, Lib.hid (Below.refl _ _)⟩
          case round =>
            obtain ⟨r, y, hr, rfl, rfl, hy, HY, HB3⟩ := hrel
            by_cases hlt : r < m
            · obtain ⟨x, hx⟩ : ∃ x, zs[r]? = some x := ⟨_, List.getElem?_eq_getElem (by rw [HZ.out]; exact hlt)⟩
              have hc := (HB3.out.cell (p := ⟨b, off + r, none⟩) (Nat.lt_of_lt_of_le hb HB.out.size)).trans ((HB.out.cell (p := ⟨b, off + r, none⟩) hb).trans (HC.out r x hx))
              have HY2 := Lib.hid (show Zp.ofL (zs.take (r + 1)) = Zp.wth y x by rw [List.take_add_one, hx]; show Zp.ofL (zs.take r ++ [x]) = _; rw [Zp.ofL_snoc, HY.out]; rfl)
              clear hx
              go_wp2_with fail
              refine (with_any y x _ hy).mono ?_
              rintro e w4 ⟨rfl, hb4⟩
              have HB4 := Lib.hid (HB3.out.trans (hb4.mono HB3.out.size))
              clear hb4
              go_wp2_with fail
              go_roundw
              case rel => exact ⟨r + 1, _, by omega, by go_num, rfl, Zp.wth_lt hy x, HY2, HB4⟩
              case measure => simp [intOf]; omega
            · obtain rfl : r = m := by omega
              obtain rfl : y = s := by rw [← HY.out, ← ES.out, List.take_of_length_le (by rw [HZ.out]; exact Nat.le_refl _)]
              have HRB4 := Lib.hid (HRB.out.below HB3.out)
              go_wp2_with fail
              refine (of_any Ab r cb _ _ HRB4.out).mono ?_
              rintro e w4 ⟨rfl, rfl⟩
              rw [HS.out, ES.out]
              have hbn := Lib.hid (below_new w4 (.cells #[] 3))
              have hown := Lib.hid (World.ownsRow_made (w := w4) (base := w4.heap.size) (e := 3) (size := 1) #[] 0 (Nat.le_refl _) (by unfold maxLen; omega) rfl)
              go_wp2_with (at_builtin; refine wpList_append_row_g (.tmp 69) (.tmp 70) rfl (by simp [Region.wanted, yielded]) w4.heap.size (.slice (some ⟨w4.heap.size, 0, none⟩) 0 0) 0 [] rfl hown.out Ab r cb _ rfl (HRB4.out.below hbn.out) (by omega) (by simp) ?_)
              intro va w5 hoa hga
              have OA := Lib.hid (show w5.ownsRow w4.heap.size 3 1 va r ((back zs k r).map (Value.int .i64)) from by simpa using hoa)
              have HB5 := Lib.hid (hbn.out.grown hga (by simp) (fun q e => by simp [Value.ownBlock] at e; omega))
              have hs5 := HB5.out.size
              clear hoa hga
              go_wp2_with (at_builtin; refine wpList_append_row_g (.tmp 71) (.tmp 72) rfl (by simp [Region.wanted, yielded]) w4.heap.size va r (back zs k r) rfl OA.out (some ⟨b, off, none⟩) r c zs rfl (((H.out.below HB.out).below HB3.out).below HB5.out) (by omega) hs5 ?_)
              intro vb w6 hob hgb
              have OC : w6.ownsRow w4.heap.size 3 1 vb (r + r) ((back zs k r ++ zs).map (Value.int .i64)) := by simpa using hob
              have HB6 := Lib.hid (HB5.out.grown hgb hs5 (fun q e => (OA.out.lt q e).1))
              obtain ⟨Av, cv, rfl, hrv⟩ := Row.of_own OC
              have RV := Lib.hid hrv
              clear hob hgb OC hrv
              go_wp2_with fail
              refine (of_any Av (r + r) cv _ _ RV.out).mono ?_
              rintro e w7 ⟨rfl, rfl⟩
              rw [HSS.out, ES.out]
              go_wp2_with fail
              go_ret
              exact ⟨rfl, (HB.out.trans (HB3.out.mono HB.out.size)).trans (HB6.out.mono (Nat.le_trans HB.out.size HB3.out.size))⟩
        · obtain ⟨p, rfl⟩ : ∃ p, r = p + 1 := ⟨r - 1, by omega⟩
          have e1 : ((p + 1 : Nat) : Int) - 1 = (p : Int) := by omega
          rw [e1]
          obtain ⟨j, hj⟩ : ∃ j : Nat, j = (p + k) % n := ⟨_, rfl⟩
          have hjn : j < n := by rw [hj]; exact Nat.mod_lt _ (by omega)
          have kj : ((p : Int) + (k : Int)).tmod (n : Int) = (j : Int) := by rw [Int.tmod_eq_emod_of_nonneg (by omega), hj]; rfl
          obtain ⟨x, hx⟩ : ∃ x, zs[j]? = some x := ⟨_, List.getElem?_eq_getElem (by rw [HZ.out]; exact hjn)⟩
          have hc := (HB.out.cell (p := ⟨b, off + j, none⟩) hb).trans (HC.out j x hx)
          have HS := Lib.hid (show back zs k (m + 1) = back zs k m ++ [x] by
            rw [back_succ, HZ.out, show n - 1 - m + k = p + k by omega, ← hj, List.getD_eq_getElem?_getD, hx]; rfl)
          have hpk : p + k ≤ 600 := by omega
          clear hj hx e1
          go_wp2_with (at_builtin; refine wpList_append_own _ rfl _ _ 23 rfl w.heap.size 3 i0 (.int .i64 0) 1 8 Tryd.underlying23 hi hz0 hz1 hz2 rfl (by decide) _ _ _ rfl (hown.alloc _) ⟨wr.heap.size, 0, none⟩ 1 1 [.int .i64 x] rfl rfl (one_cell _ _ _) (by intro u hu; simp at hu; subst hu; rfl) (by unfold maxLen; omega) (by omega) (by have := HB.out.size; simp; omega) ?_)
          intro v' w2 hown2 hg _
          have HO := Lib.hid (show w2.ownsRow w.heap.size 3 1 v' (m + 1) ((back zs k (m + 1)).map (Value.int .i64)) by rw [HS.out]; simpa using hown2)
          have HB2 := Lib.hid ((HB.out.alloc HB.out.size (.cells #[.int .i64 x] 3)).grown hg (by have := HB.out.size; simp; omega) (fun j hj => (hown.lt j hj).1))
          clear hown2 hg hown hc
          go_wp2_with fail
          go_roundw
          case rel => exact ⟨m + 1, p, by omega, by go_num, HO.out, HB2⟩
          case measure => simp [intOf]
set_option maxRecDepth 100000 in
theorem lifted (os : Os) (started : os.Started) (H : Type) (enc : TypeId × Value → H) :
    ReturnsInHanded {} Tryd.checked os 8 .any (fun w args => (Rows.bitsOrderSpec.pre enc Tryd.prog Tryd.f8 [] false w args ∧ laidMetH Tryd.prog laidList w) ∧ sizedMet enc Tryd.prog Tryd.f8 (OpenSpec.ofChange Rows.bitsOrderSpec) false w args)
      (Rows.bitsOrderSpec.post enc Tryd.prog Tryd.f8 false true false false) := by
  refine returnsInHanded_of_change_and (C := Tryd.checked) (X := fun w _ => laidMetH Tryd.prog laidList w) (fun _ _ _ hh h => h.of_heap hh) own started (by kernel_rfl) Tryd.func8
    (ChangeSpec.witness_shaped (enc := enc) (C := Tryd.checked) (os := os) (X := fun w _ => laidMetH Tryd.prog laidList w) false (World.doorLaid Tryd.prog 14 os) #[.slice none 0 0, .int .u8 0] 8 rfl (World.shaped_of_RefB (by kernel_rfl) (by kernel_rfl)) (by kernel_rfl) (by kernel_rfl) (by kernel_rfl) (door_met os _)) ?_
  intro W base args ds gs before hval0 hW _ _ hL _
  have hval : ∀ (j : Nat) t v, Tryd.f8.params[j]? = some t → args[j]? = some v → Value.okWide Tryd.prog W .any base t v := hval0
  have hW' := hW
  obtain ⟨p, q, hA0, hV, rfl, hfz, hnd⟩ := hW
  have hA : DataW.TrodAll enc Tryd.prog W 0 (fun _ => true) true Tryd.f8.params.toList args.toList ds p := hA0
  rw [Tryd.params8] at hA hval
  obtain ⟨v0, vs0, d0, ds0, p0, q0, hargs, rfl, rfl, h0, r0⟩ := trodAll_cons hA
  obtain ⟨v1, vs1, d1, ds1, p1, q1, rfl, rfl, rfl, h1, r1⟩ := trodAll_cons r0
  obtain ⟨rfl, rfl, rfl⟩ := trodAll_nil r1
  obtain rfl : args = #[v0, v1] := by cases args; simp_all
  obtain ⟨rfl, rfl⟩ := trodVars_none hV
  have k0 := h0
  have lt0 : ∀ x ∈ p0, x.block < W.heap.size := by obtain ⟨m, hm⟩ := k0; exact DataW.trod_lt m _ _ _ hm
  obtain ⟨a0, len0, cap0, rfl⟩ := okWide_slice Tryd.underlying23 (hval 0 23 v0 rfl rfl)
  obtain ⟨aa0, ll0, cc0, z0, ev0, hr0⟩ : ∃ A n c zs, Value.slice a0 len0 cap0 = .slice A n c ∧ Row W A n c zs := by
    obtain ⟨fuel, hf⟩ := h0
    exact open_list (by simpa [Value.cells] using hf)
  injection ev0 with ea0 eb0 ec0
  subst ea0 eb0 ec0
  obtain ⟨a1, rfl, rfl, rfl, w1⟩ := open_int Tryd.underlying5 (hval 1 5 v1 rfl rfl) h1
  clear hA0 hval0
  refine (walk a0 len0 cap0 z0 a1 W hr0 w1 (tab_of_laid hL)).mono fun e W' ⟨he, bel⟩ => ?_
  subst he
  exact ⟨_, rfl, _, _, _, [], _, [], hW', trodAll_mk1 (shut_bool Tryd.underlying4 _), (trodAll_cons_mk (Below.trod laidOut (by kernel_rfl) (of_decide_eq_true (by kernel_rfl)) k0 bel lt0) (trodAll_cons_mk (shut_int Tryd.underlying5 w1) trodAll_mk0)), rfl, bel.frame _, fun h => by cases h⟩
theorem over : Rows.BitsOrderSaid :=
  OpenClaim.holds_of_wide 8 Tryd.f8 rfl rfl rfl rfl rfl rfl rfl ⟨rfl, rfl, rfl, rfl, rfl⟩ rfl rfl rfl rfl rfl (by kernel_rfl) Tryd.func8 (by kernel_rfl)
    (of_decide_eq_true (by kernel_rfl)) (by unfold Func.isWrapper; first | (rw [if_pos (by decide +kernel)]; kernel_rfl) | (rw [if_neg (by decide +kernel)]; exact ⟨rfl, rfl⟩))
    (fun os started H enc _ => lifted os started H enc)
theorem proved : Rows.BitsOrderCardSaid :=
  Claim7.holds_tied_plain_at .later [] [.data] true Rows.bitsOrderCard.stood.harness false
    over (fun _ h => by cases h) (by kernel_rfl) (fun _ h => by cases h) bitsOrder_row_tie rfl ⟨rfl, rfl⟩ (by kernel_rfl) rfl
    (fun f fn hf hfn => by
      obtain rfl : f = 8 := Option.some.inj ((show Tryd.prog.funcNamed "catafalque/catafalquelaw06.BitsOrder" = some 8 by kernel_rfl).symm.trans hf) |>.symm
      obtain rfl : fn = Tryd.f8 := (Option.some.inj (Tryd.func8.symm.trans hfn)).symm
      exact ⟨by kernel_rfl, fun j t ht => by
        rw [Tryd.params8] at ht
        have hm : t ∈ [23, 5] := by simpa using Array.mem_of_getElem? ht
        have hall : ([23, 5].all fun u => !Tryd.prog.wantsStandIn u) = true := by kernel_rfl
        exact (show Tryd.prog.wantsStandIn t = false by simpa using List.all_eq_true.1 hall t hm)⟩)
    (by kernel_rfl)
end Go.Proofs.YtfkjgpfeiijnkaaDoor.bitsOrder

