/- HeapSorts: popped until there is none, timers come in order, all that were pushed: the call answers true and changes nothing that was there; for every input. -/
import Derived.Test.YtjcljdehhckaeaaHKeep
import Derived.Test.YtjcljdehhckaeaaHFrame
namespace Go.Proofs.Ytjcljdehhckaeaa.heapSorts
open Go.ChangeShapes Go.WideShapes Go.ChangeAt Go.RowKit
set_option linter.unusedVariables false

set_option maxRecDepth 100000 in
set_option maxHeartbeats 4000000 in
theorem walk (A : Option Addr) (n c : Nat) (zs : List Hp.Tm) (w : World) (h : TR w A n c zs) (h64 : Hid (∀ z ∈ zs, In64 z.2.2)) :
    Calls Try.prog 4 #[.slice A n c] w fun e w' => e = .returned (.bool true) ∧ Below w.heap.size w w' := by
  have H := Lib.hid h
  have hlen := h.len
  have hcap := h.cap
  have hmost := h.most
  clear h
  by_cases hn : 300 < n
  · have hn' : (300 : Int) < (n : Int) := by omega
    go_enter Try.func4, Try.ntmps4
    go_wp2_with fail
    refine (shown_any _).mono ?_
    rintro e w1 ⟨rfl, hb⟩
    go_wp2_with fail
    go_ret
    exact ⟨rfl, hb⟩
  · have hn' : (n : Int) ≤ 300 := by omega
    go_enter Try.func4, Try.ntmps4
    go_wp2_with fail
    refine (shown_any _).mono ?_
    rintro e w1 ⟨rfl, hb⟩
    have O0 := Lib.hid (One.at (b := w1.heap.size) hb rfl)
    clear hb
    go_wp2_with fail
    obtain ⟨b, hbn⟩ : ∃ b, b = w1.heap.size := ⟨_, rfl⟩
    rw [← hbn] at O0 ⊢
    generalize w1.alloc (.cells #[.slice none 0 0] 27) = V at *
    clear hbn
    go_loopw [5] (fun i wr => ∃ (k : Nat) (l : List Hp.Tm), k ≤ n ∧ i = .int .i64 k ∧ Hid (l.Perm (zs.take k)) ∧ Hid (One w wr b l)) (fun i _ => n - (intOf i).toNat)
    case atStart => exact ⟨0, [], Nat.zero_le _, rfl, Lib.hid (List.Perm.refl _), O0⟩
    case round =>
      clear O0
      obtain ⟨i, l, hi, rfl, HP, O⟩ := hrel
      by_cases hlt : i < n
      · obtain ⟨x, hx⟩ : ∃ x, zs[i]? = some x := ⟨_, List.getElem?_eq_getElem (by omega)⟩
        obtain ⟨g, off, rfl, _, hc⟩ := H.out.cells (by omega)
        obtain ⟨c0, c1, c2⟩ := hc i x hx
        have c0 := O.out.below.cell (p := ⟨g, _, none⟩) (by assumption) |>.trans c0
        have c1 := O.out.below.cell (p := ⟨g, _, none⟩) (by assumption) |>.trans c1
        have c2 := O.out.below.cell (p := ⟨g, _, none⟩) (by assumption) |>.trans c2
        have HT := Lib.hid (show zs.take (i + 1) = zs.take i ++ [x] by rw [List.take_add_one, hx]; rfl)
        have hll : l.length = i := by rw [HP.out.length_eq, List.length_take]; omega
        obtain ⟨x1, x2, x3⟩ := x
        simp only at c0 c1 c2
        have i1 : (i : Int) < (n : Int) := by omega
        clear hc hx
        go_wp2_with fail
        refine (one_push O.out (by omega) x1 x2 x3).mono ?_
        rintro e w2 ⟨rfl, l', hp, hO⟩
        have HP2 := Lib.hid (show l'.Perm (zs.take (i + 1)) by rw [HT.out]; exact hp.trans (HP.out.append_right _))
        have O2 := Lib.hid hO
        clear hp hO O HP c0 c1 c2
        go_wp2_with fail
        go_roundw
        case rel => exact ⟨i + 1, l', by omega, by go_num, HP2, O2⟩
        case measure => simp [intOf]; omega
      · obtain rfl : i = n := by omega
        have hP := HP.out
        rw [List.take_of_length_le (by omega)] at hP
        have hll : l.length = i := by rw [hP.length_eq]; exact hlen
        have HPZ := Lib.hid hP
        clear HP hP hlt hi
        obtain ⟨F, hS⟩ := O.out.box (0, 0, 0) 30
        have S0 := Lib.hid hS
        simp only at S0
        clear hS O
        go_wp2_with fail
        obtain ⟨L, hLe⟩ : ∃ L, L = wr.heap.size := ⟨_, rfl⟩
        rw [← hLe] at S0 ⊢
        generalize wr.alloc (.cells #[.int .i64 0, .int .i64 0, .int .i64 0] 30) = V at *
        clear hLe
        have hT0 := Lib.hid (show Hp.Round 0 (Hp.tot zs - Hp.tot l) by rw [Hp.tot_perm HPZ.out]; exact ⟨0, by omega⟩)
        go_loopw [7, 8] (fun a d wr => ∃ (s : Int) (k : Nat) (l : List Hp.Tm) (y : Hp.Tm), a = .int .i64 s ∧ d = .int .i64 k ∧ l.length + k = i ∧ Hid (Hp.Round s (Hp.tot zs - Hp.tot l)) ∧ (-9223372036854775808 ≤ s ∧ s ≤ 9223372036854775807) ∧ Hid (0 < k → ∀ z ∈ l, Hp.Le y z) ∧ Hid (St w wr b F L l y)) (fun _ d _ => i - (intOf d).toNat)
        case atStart => exact ⟨0, 0, l, (0, 0, 0), rfl, rfl, by omega, hT0, by omega, Lib.hid (fun e => by omega), S0⟩
        case round =>
          clear S0 hT0 HPZ hll
          obtain ⟨s, k, m, y, rfl, rfl, hk, HS, hs, HA, S⟩ := hrel
          by_cases hlt : k < i
          · obtain ⟨x, hx⟩ : ∃ x, m[0]? = some x := ⟨_, List.getElem?_eq_getElem (by omega)⟩
            have hfirst := Hp.heap_first S.out.hh hx
            have HX := Lib.hid hx
            have HFi := Lib.hid hfirst
            have k1 : (k : Int) < (i : Int) := by omega
            clear hx hfirst
            go_wp2_with fail
            refine (st_pop S.out HX.out (by omega)).mono ?_
            rintro e w2 ⟨rfl, m', hp, hS2⟩
            obtain ⟨x1, x2, x3⟩ := x
            obtain ⟨W2, hW2, y0, y1, y2, _, hb2⟩ := new3v w2 (.int .i64 x1) (.int .i64 x2) (.int .i64 x3) 30
            have hlm : m.length = m'.length + 1 := by rw [← hp.length_eq]; rfl
            have HT := Lib.hid (show Hp.tot m = Hp.val (x1, x2, x3) + Hp.tot m' by rw [← Hp.tot_perm hp, Hp.tot_cons])
            have HM := Lib.hid (show ∀ z ∈ m', Hp.Le (x1, x2, x3) z from fun z hz => by
              obtain ⟨j, hj⟩ := List.mem_iff_getElem?.1 (hp.mem_iff.1 (List.mem_cons_of_mem _ hz))
              exact HFi.out j z hj)
            have HY := Lib.hid (show 0 < k → Hp.Le y (x1, x2, x3) from fun h0 => HA.out h0 _ (List.mem_of_getElem? HX.out))
            have S3 := Lib.hid (hS2.step hb2)
            have hXL : w2.heap.size ≠ L := fun e => by
              have h2 := World.block_lt_of_cell? w2 ⟨L, 0, none⟩ hS2.c0
              simp only at h2
              omega
            subst hW2
            clear hp hS2 hb2 S HA HX HFi
            unfold tv
            by_cases h0 : k = 0
            · subst h0
              have d0 := S3.out.c0
              have d1 := S3.out.c1
              have d2 := S3.out.c2
              have f0 := S3.out.f0
              have f1 := S3.out.f1
              have f2 := S3.out.f2
              have S9 := Lib.hid (S3.out.put (x1, x2, x3))
              have z0 := put_far (u := .int .i64 x1) (v := .int .i64 x2) (z := .int .i64 x3) y0 hXL
              have z1 := put_far (u := .int .i64 x1) (v := .int .i64 x2) (z := .int .i64 x3) y1 hXL
              have z2 := put_far (u := .int .i64 x1) (v := .int .i64 x2) (z := .int .i64 x3) y2 hXL
              go_wp2_with fail
              go_roundw
              case rel => exact ⟨_, 1, m', (x1, x2, x3), rfl, by go_num, by omega, Lib.hid (by have := sum_more s x1 x2 x3 _ HS.out; rwa [show Hp.tot zs - Hp.tot m + Hp.val (x1, x2, x3) = Hp.tot zs - Hp.tot m' by rw [HT.out]; omega] at this), wrap_in _, Lib.hid (fun _ => HM.out), S9⟩
              case measure => simp [intOf]; omega
            · have hk0 : (0 : Int) < (k : Int) := by omega
              obtain ⟨r, hr⟩ : ∃ r, r = Hp.cmp y (x1, x2, x3) := ⟨_, rfl⟩
              have hr0 : r ≤ 0 := by rw [hr]; exact Hp.cmp_le.2 (HY.out (by omega))
              have HC := Lib.hid (fun W => compare_val y (x1, x2, x3) r hr W)
              have c0 := S3.out.c0
              have c1 := S3.out.c1
              have c2 := S3.out.c2
              obtain ⟨y1', y2', y3'⟩ := y
              simp only at c0 c1 c2
              clear hr h0
              go_wp2_with fail
              refine (HC.out _).mono ?_
              rintro e w3 ⟨rfl, hb3⟩
              have y0 := keepcell hb3 y0
              have y1 := keepcell hb3 y1
              have y2 := keepcell hb3 y2
              have S4 := Lib.hid (S3.out.step hb3)
              clear hb3 S3 c0 c1 c2 HC
              have d0 := S4.out.c0
              have d1 := S4.out.c1
              have d2 := S4.out.c2
              have f0 := S4.out.f0
              have f1 := S4.out.f1
              have f2 := S4.out.f2
              have S9 := Lib.hid (S4.out.put (x1, x2, x3))
              have z0 := put_far (u := .int .i64 x1) (v := .int .i64 x2) (z := .int .i64 x3) y0 hXL
              have z1 := put_far (u := .int .i64 x1) (v := .int .i64 x2) (z := .int .i64 x3) y1 hXL
              have z2 := put_far (u := .int .i64 x1) (v := .int .i64 x2) (z := .int .i64 x3) y2 hXL
              go_wp2_with fail
              go_roundw
              case rel => exact ⟨_, (k + 1), m', (x1, x2, x3), rfl, by go_num, by omega, Lib.hid (by have := sum_more s x1 x2 x3 _ HS.out; rwa [show Hp.tot zs - Hp.tot m + Hp.val (x1, x2, x3) = Hp.tot zs - Hp.tot m' by rw [HT.out]; omega] at this), wrap_in _, Lib.hid (fun _ => HM.out), S9⟩
              case measure => simp [intOf]; omega
          · have hm0 : m = [] := List.length_eq_zero_iff.1 (by omega)
            subst hm0
            obtain rfl : k = i := by simp at hk; omega
            have hT3 := Lib.hid (show Hp.Round s (Hp.tot zs - Hp.tot (zs.take 0)) by have := HS.out; rwa [Hp.tot_nil] at this)
            clear HA HS hk hlt
            go_wp2_with fail
            go_loopw [7, 11] (fun a d wr => ∃ (s : Int) (j : Nat), a = .int .i64 s ∧ d = .int .i64 j ∧ j ≤ k ∧ Hid (Hp.Round s (Hp.tot zs - Hp.tot (zs.take j))) ∧ (-9223372036854775808 ≤ s ∧ s ≤ 9223372036854775807) ∧ Hid (St w wr b F L [] y)) (fun _ d _ => k - (intOf d).toNat)
            case atStart => exact ⟨s, 0, rfl, rfl, by omega, hT3, hs, S⟩
            case round =>
              clear S hT3 hs
              obtain ⟨s, j, rfl, rfl, hj, HS, hs, S⟩ := hrel
              by_cases hlt : j < k
              · obtain ⟨x, hx⟩ : ∃ x, zs[j]? = some x := ⟨_, List.getElem?_eq_getElem (by omega)⟩
                obtain ⟨g, off, rfl, _, hc⟩ := H.out.cells (by omega)
                obtain ⟨c0, c1, c2⟩ := hc j x hx
                have c0 := S.out.below.cell (p := ⟨g, _, none⟩) (by assumption) |>.trans c0
                have c1 := S.out.below.cell (p := ⟨g, _, none⟩) (by assumption) |>.trans c1
                have c2 := S.out.below.cell (p := ⟨g, _, none⟩) (by assumption) |>.trans c2
                have HT := Lib.hid (Hp.tot_take hx)
                obtain ⟨x1, x2, x3⟩ := x
                simp only at c0 c1 c2
                have HL := sum_less s x1 x2 x3 _ HS.out
                obtain ⟨a1, h1⟩ : ∃ a1, a1 = wrap64 (s - x1) := ⟨_, rfl⟩
                obtain ⟨a2, h2⟩ : ∃ a2, a2 = wrap64 (3 * x2) := ⟨_, rfl⟩
                rw [← h1, ← h2] at HL
                obtain ⟨a3, h3⟩ : ∃ a3, a3 = wrap64 (a1 - a2) := ⟨_, rfl⟩
                obtain ⟨a4, h4⟩ : ∃ a4, a4 = wrap64 (7 * x3) := ⟨_, rfl⟩
                rw [← h3, ← h4] at HL
                obtain ⟨a5, h5⟩ : ∃ a5, a5 = wrap64 (a3 - a4) := ⟨_, rfl⟩
                rw [← h5] at HL
                have hs5 := wrap_in (a3 - a4)
                rw [← h5] at hs5
                have HL5 := Lib.hid (show Hp.Round a5 (Hp.tot zs - Hp.tot (zs.take (j + 1))) by rwa [show Hp.tot zs - Hp.tot (zs.take j) - Hp.val (x1, x2, x3) = Hp.tot zs - Hp.tot (zs.take (j + 1)) by rw [HT.out]; omega] at HL)
                have e1 : IntKind.i64.wrap (s - x1) = a1 := by rw [h1]; exact IntWalk.i64_left _
                have e2 : IntKind.i64.wrap (3 * x2) = a2 := by rw [h2]; exact IntWalk.i64_left _
                have e3 : IntKind.i64.wrap (a1 - a2) = a3 := by rw [h3]; exact IntWalk.i64_left _
                have e4 : IntKind.i64.wrap (7 * x3) = a4 := by rw [h4]; exact IntWalk.i64_left _
                have e5 : IntKind.i64.wrap (a3 - a4) = a5 := by rw [h5]; exact IntWalk.i64_left _
                have i1 : (j : Int) < (k : Int) := by omega
                clear hc hx HL h1 h2 h3 h4 h5
                go_wp2_with fail
                go_quiet (fail)
                go_wp2_with fail
                have S2 := Lib.hid (S.out.step (below_drewN (Below.refl _ _) nq))
                go_roundw
                case rel => exact ⟨a5, j + 1, rfl, by go_num, by omega, HL5, hs5, S2⟩
                case measure => simp [intOf]; omega
              · obtain rfl : j = k := by omega
                have hs0 : s = 0 := by
                  have h := HS.out
                  rw [List.take_of_length_le (by omega), Int.sub_self] at h
                  exact h.zero hs.1 hs.2
                subst hs0
                clear HS hs hj hlt
                go_wp2_with fail
                refine (st_empty S.out).mono ?_
                rintro e w5 ⟨rfl, hS5⟩
                have S6 := Lib.hid (hS5.step (below_new w5 (.cells #[.int .i64 0, .int .i64 0, .int .i64 0] 30)))
                have HLn := Lib.hid (len_any b F [] _ S6.out.hm)
                clear S hS5
                rw [show told [] = .tuple #[.agg #[.int .i64 0, .int .i64 0, .int .i64 0], .bool false] from rfl]
                go_wp2_with fail
                refine HLn.out.mono ?_
                rintro e w6 ⟨rfl, rfl⟩
                rw [show ([] : List Hp.Tm).length = 0 from rfl]
                go_wp2_with fail
                go_ret
                exact ⟨rfl, S6.out.below⟩
set_option maxRecDepth 100000 in
theorem lifted (os : Os) (started : os.Started) (H : Type) (enc : TypeId × Value → H) :
    ReturnsInHanded {} Try.checked os 4 .any (Rows.heapSortsSpec.pre6 enc Try.prog Try.f4 Rows.heapSortsRow.domain false) (Rows.heapSortsSpec.post enc Try.prog Try.f4 false true false false) := by
  refine returnsInHanded_of_change (C := Try.checked) own started (by kernel_rfl) Try.func4
    (ChangeSpec.witness6 (enc := enc) (C := Try.checked) false ⟨#[], #[.slice none 0 0], []⟩ 8 (by kernel_rfl) (by kernel_rfl) (by kernel_rfl) (by kernel_rfl)) ?_
  intro W base args ds gs before hval0 hW hcnd _
  have hval : ∀ (j : Nat) t v, Try.f4.params[j]? = some t → args[j]? = some v → Value.okWide Try.prog W .any base t v := hval0
  have hW' := hW
  obtain ⟨p, q, hA0, hV, rfl, hfz, hnd⟩ := hW
  have hA : DataW.TrodAll enc Try.prog W 0 (fun _ => true) true Try.f4.params.toList args.toList ds p := hA0
  rw [Try.params4] at hA hval
  obtain ⟨v0, vs0, d0, ds0, p0, q0, hargs, rfl, rfl, h0, r0⟩ := trodAll_cons hA
  obtain ⟨rfl, rfl, rfl⟩ := trodAll_nil r0
  obtain rfl : args = #[v0] := by cases args; simp_all
  obtain ⟨rfl, rfl⟩ := trodVars_none hV
  have k0 := h0
  have lt0 : ∀ x ∈ p0, x.block < W.heap.size := by obtain ⟨m, hm⟩ := k0; exact DataW.trod_lt m _ _ _ hm
  obtain ⟨a0, len0, cap0, rfl⟩ := okWide_slice Try.underlying25 (hval 0 25 v0 rfl rfl)
  obtain ⟨aa0, ll0, cc0, z0, ev0, hr0⟩ : ∃ A n c zs, Value.slice a0 len0 cap0 = .slice A n c ∧ TR W A n c zs ∧ ∀ z ∈ zs, In64 z.2.2 := by
    obtain ⟨fuel, hf⟩ := h0
    exact open_timers (by simpa [Value.cells] using hf)
  injection ev0 with ea0 eb0 ec0
  subst ea0 eb0 ec0
  clear hA0 hval0
  refine (walk a0 len0 cap0 z0 W hr0.1 (Lib.hid hr0.2)).mono fun e W' ⟨he, bel⟩ => ?_
  subst he
  exact ⟨_, rfl, _, _, _, [], _, [], hW', trodAll_mk1 (shut_bool Try.underlying4 _), (trodAll_cons_mk (Below.trod laidOut (by kernel_rfl) (of_decide_eq_true (by kernel_rfl)) k0 bel lt0) trodAll_mk0), rfl, bel.frame _, fun h => by cases h⟩
theorem over : Rows.heapSortsRow.holds Try.pinned (OpenSpec.ofChange Rows.heapSortsSpec) :=
  OpenClaim.holds_of_wide 4 Try.f4 rfl rfl rfl rfl rfl rfl rfl ⟨rfl, rfl, rfl, rfl, rfl⟩ rfl rfl rfl rfl rfl (by kernel_rfl) Try.func4 (by kernel_rfl)
    (of_decide_eq_true (by kernel_rfl)) (by unfold Func.isWrapper; first | (rw [if_pos (by decide +kernel)]; kernel_rfl) | (rw [if_neg (by decide +kernel)]; exact ⟨rfl, rfl⟩))
    (fun os started H enc _ => lifted os started H enc)
theorem proved : Rows.HeapSortsSaid := over
end Go.Proofs.Ytjcljdehhckaeaa.heapSorts

