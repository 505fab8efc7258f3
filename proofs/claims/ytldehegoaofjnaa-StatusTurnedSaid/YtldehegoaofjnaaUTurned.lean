/- StatusTurned: a row in which one status is none ends there, or ahead of it: the call answers true and changes nothing that was there; for every input. -/
import Derived.Test.YtldehegoaofjnaaURows
namespace Go.Proofs.Ytldehegoaofjnaa.statusTurned
open Go.ChangeShapes Go.WideShapes Go.ChangeAt Go.RowKit
set_option linter.unusedVariables false

set_option maxHeartbeats 4000000 in
theorem walk (A : Option Addr) (n c : Nat) (zs : List Int) (t odd : Int) (w : World) (hn : Hid (zs.length = n)) (hl : n ≤ 9223372036854775807) (hr : BRow w A zs) (hu : (Lit.int .u8 t).wf = true) :
    Calls Try.prog 7 #[.slice A n c, .int .u8 t, .int .i64 odd] w fun e w' => e = .returned (.bool true) ∧ Below w.heap.size w w' := by
  obtain ⟨i0, hi, hz0, hz1, hz2⟩ := info_parts info_int
  have hu' : 0 ≤ t ∧ t ≤ 255 := by simpa [Lit.wf, IntKind.min, IntKind.max, IntKind.signed, IntKind.bits] using hu
  obtain ⟨u0, u1⟩ := hu'
  have HR := Lib.hid hr
  clear hu hr
  go_enter Try.func7, Try.ntmps7
  go_wp2_with fail
  refine (shown_any _).mono ?_
  rintro e w1 ⟨rfl, hb1⟩
  have HB1 := Lib.hid hb1
  clear hb1
  by_cases h200 : 200 < n
  · have g1 : (200 : Int) < (n : Int) := by omega
    go_wp2_with fail
    go_ret
    exact ⟨rfl, HB1.out⟩
  · have g1 : ¬ (200 : Int) < (n : Int) := by omega
    by_cases hn0 : n = 0
    · have g2 : ((n : Int) == 0) = true := by rw [beq_iff_eq]; omega
      go_wp2_with fail
      go_ret
      exact ⟨rfl, HB1.out⟩
    · have g2 : ((n : Int) == 0) = false := by rw [beq_eq_false_iff_ne]; omega
      cases hok : Sp.ok odd
      · by_cases ho : 0 ≤ odd
        · have ho2 : ¬ odd ≤ 4 := by rw [← Bool.not_eq_true, Sp.ok_iff] at hok; omega
          have HO := Lib.hid hok
          clear hok
          go_wp2_with fail
          go_loopw [8, 9] (fun v i wr => ∃ k : Nat, k ≤ n ∧ i = .int .i64 k ∧ wr.ownsRow w.heap.size 3 1 v k ((mods zs 5 k).map (Value.int .i64)) ∧ Hid (Below w.heap.size w wr)) (fun _ i _ => n - (intOf i).toNat)
          case atStart => exact ⟨0, Nat.zero_le _, rfl, World.ownsRow_nil _ _ _ _, HB1⟩
          case round =>
            obtain ⟨k, hk, rfl, hown, HB⟩ := hrel
            by_cases hlt : k < n
            · obtain ⟨z, hz⟩ : ∃ z, zs[k]? = some z := ⟨_, List.getElem?_eq_getElem (by rw [hn.out]; exact hlt)⟩
              obtain ⟨b', off, hAA, hlt', hc, z0, z1⟩ := HR.out k z hz
              subst hAA
              have hcw : wr.cell? ⟨b', off + k, none⟩ = some (.int .u8 z) := (HB.out.cell (p := ⟨b', off + k, none⟩) hlt').trans hc
              have m1 : z.tmod 5 = z % 5 := Int.tmod_eq_emod_of_nonneg z0
              have HS := Lib.hid (mods_succ (m := 5) hz)
              clear hz hc
              go_wp2_with (at_builtin; refine wpList_append_own _ rfl _ _ 22 rfl w.heap.size 3 i0 (.int .i64 0) 1 8 Try.underlying22 hi hz0 hz1 hz2 rfl (by decide) _ _ _ rfl (hown.alloc _) ⟨wr.heap.size, 0, none⟩ 1 1 [.int .i64 (z % 5)] rfl rfl (one_cell _ _ _) (by intro u hu; simp at hu; subst hu; rfl) (by unfold maxLen; omega) (by omega) (by have := HB.out.size; simp; omega) ?_)
              intro v' w2 hown2 hg _
              have HO2 := Lib.hid (show w2.ownsRow w.heap.size 3 1 v' (k + 1) ((mods zs 5 (k + 1)).map (Value.int .i64)) by rw [HS.out]; simpa using hown2)
              have HB2 := Lib.hid ((HB.out.alloc HB.out.size (.cells #[.int .i64 (z % 5)] 3)).grown hg (by have := HB.out.size; simp; omega) (fun j hj => (hown.lt j hj).1))
              clear hown2 hg hown hcw
              go_wp2_with fail
              go_roundw
              case rel => exact ⟨k + 1, by omega, by go_num, HO2.out, HB2⟩
              case measure => simp [intOf]; omega
            · obtain rfl : k = n := by omega
              obtain ⟨g, cp, rfl, hgb, hgl⟩ := hown.form (by omega)
              obtain ⟨j, hj1, hj2⟩ : ∃ j : Nat, t.tmod (k : Int) = (j : Int) ∧ j < k := by
                rw [Int.tmod_eq_emod_of_nonneg u0]
                have e1 := Int.emod_nonneg t (show (k : Int) ≠ 0 by omega)
                have e2 := Int.emod_lt_of_pos t (show (0 : Int) < (k : Int) by omega)
                exact ⟨(t % (k : Int)).toNat, by omega, by omega⟩
              have hml := mods_len (zs := zs) (m := 5) (k := k) (by rw [hn.out]; exact Nat.le_refl _)
              obtain ⟨y, hy⟩ : ∃ y, (mods zs 5 k)[j]? = some y := ⟨_, List.getElem?_eq_getElem (by rw [hml]; exact hj2)⟩
              have hcx := hown.cellAt j (by omega)
              rw [List.getElem?_map, hy] at hcx
              have hcx' : wr.cell? ⟨g, j, none⟩ = some (.int .i64 y) := hcx
              have hfz := hown.frozenAt j
              obtain ⟨hst, _⟩ := hown.stored j (.int .i64 odd)
              rw [← List.map_set] at hst
              obtain ⟨st, hsj, hv⟩ : ∃ st : Nat, st ≤ j ∧ walkV ((mods zs 5 k).set j odd) = .tuple #[.int .i64 st, .bool false] := by
                obtain ⟨h1, h2⟩ := Sp.stop_odd (zs := (mods zs 5 k).set j odd) (k := j) (x := odd) (List.getElem?_set_self (by rw [hml]; exact hj2)) HO.out
                exact ⟨_, h1, by unfold walkV; rw [h2]⟩
              have HV := Lib.hid hv
              obtain ⟨A1, c1, ev, hrow⟩ := Row.of_own hst
              injection ev with ev1 _ ev3
              subst ev1 ev3
              have HRow := Lib.hid hrow
              have HB5 := Lib.hid (HB.out.setCell (p := ⟨g, j, none⟩) hgb (.int .i64 odd))
              clear hown hcx hst hrow hv hy hml
              go_wp2_with fail
              refine (walk_any _ k cp _ _ HRow.out).mono ?_
              rintro e w3 ⟨rfl, rfl⟩
              rw [HV.out]
              by_cases hs : st = j
              · subst hs
                go_wp2_with fail
                go_ret
                exact ⟨rfl, HB5.out⟩
              · have q1 : ((st : Int) == (j : Int)) = false := by rw [beq_eq_false_iff_ne]; omega
                have q2 : (st : Int) < (j : Int) := by omega
                have q3 : (st : Int) ≤ (j : Int) := by omega
                go_wp2_with fail
                go_ret
                exact ⟨rfl, HB5.out⟩
        · have HO := Lib.hid hok
          clear hok
          go_wp2_with fail
          go_loopw [8, 9] (fun v i wr => ∃ k : Nat, k ≤ n ∧ i = .int .i64 k ∧ wr.ownsRow w.heap.size 3 1 v k ((mods zs 5 k).map (Value.int .i64)) ∧ Hid (Below w.heap.size w wr)) (fun _ i _ => n - (intOf i).toNat)
          case atStart => exact ⟨0, Nat.zero_le _, rfl, World.ownsRow_nil _ _ _ _, HB1⟩
          case round =>
            obtain ⟨k, hk, rfl, hown, HB⟩ := hrel
            by_cases hlt : k < n
            · obtain ⟨z, hz⟩ : ∃ z, zs[k]? = some z := ⟨_, List.getElem?_eq_getElem (by rw [hn.out]; exact hlt)⟩
              obtain ⟨b', off, hAA, hlt', hc, z0, z1⟩ := HR.out k z hz
              subst hAA
              have hcw : wr.cell? ⟨b', off + k, none⟩ = some (.int .u8 z) := (HB.out.cell (p := ⟨b', off + k, none⟩) hlt').trans hc
              have m1 : z.tmod 5 = z % 5 := Int.tmod_eq_emod_of_nonneg z0
              have HS := Lib.hid (mods_succ (m := 5) hz)
              clear hz hc
              go_wp2_with (at_builtin; refine wpList_append_own _ rfl _ _ 22 rfl w.heap.size 3 i0 (.int .i64 0) 1 8 Try.underlying22 hi hz0 hz1 hz2 rfl (by decide) _ _ _ rfl (hown.alloc _) ⟨wr.heap.size, 0, none⟩ 1 1 [.int .i64 (z % 5)] rfl rfl (one_cell _ _ _) (by intro u hu; simp at hu; subst hu; rfl) (by unfold maxLen; omega) (by omega) (by have := HB.out.size; simp; omega) ?_)
              intro v' w2 hown2 hg _
              have HO2 := Lib.hid (show w2.ownsRow w.heap.size 3 1 v' (k + 1) ((mods zs 5 (k + 1)).map (Value.int .i64)) by rw [HS.out]; simpa using hown2)
              have HB2 := Lib.hid ((HB.out.alloc HB.out.size (.cells #[.int .i64 (z % 5)] 3)).grown hg (by have := HB.out.size; simp; omega) (fun j hj => (hown.lt j hj).1))
              clear hown2 hg hown hcw
              go_wp2_with fail
              go_roundw
              case rel => exact ⟨k + 1, by omega, by go_num, HO2.out, HB2⟩
              case measure => simp [intOf]; omega
            · obtain rfl : k = n := by omega
              obtain ⟨g, cp, rfl, hgb, hgl⟩ := hown.form (by omega)
              obtain ⟨j, hj1, hj2⟩ : ∃ j : Nat, t.tmod (k : Int) = (j : Int) ∧ j < k := by
                rw [Int.tmod_eq_emod_of_nonneg u0]
                have e1 := Int.emod_nonneg t (show (k : Int) ≠ 0 by omega)
                have e2 := Int.emod_lt_of_pos t (show (0 : Int) < (k : Int) by omega)
                exact ⟨(t % (k : Int)).toNat, by omega, by omega⟩
              have hml := mods_len (zs := zs) (m := 5) (k := k) (by rw [hn.out]; exact Nat.le_refl _)
              obtain ⟨y, hy⟩ : ∃ y, (mods zs 5 k)[j]? = some y := ⟨_, List.getElem?_eq_getElem (by rw [hml]; exact hj2)⟩
              have hcx := hown.cellAt j (by omega)
              rw [List.getElem?_map, hy] at hcx
              have hcx' : wr.cell? ⟨g, j, none⟩ = some (.int .i64 y) := hcx
              have hfz := hown.frozenAt j
              obtain ⟨hst, _⟩ := hown.stored j (.int .i64 odd)
              rw [← List.map_set] at hst
              obtain ⟨st, hsj, hv⟩ : ∃ st : Nat, st ≤ j ∧ walkV ((mods zs 5 k).set j odd) = .tuple #[.int .i64 st, .bool false] := by
                obtain ⟨h1, h2⟩ := Sp.stop_odd (zs := (mods zs 5 k).set j odd) (k := j) (x := odd) (List.getElem?_set_self (by rw [hml]; exact hj2)) HO.out
                exact ⟨_, h1, by unfold walkV; rw [h2]⟩
              have HV := Lib.hid hv
              obtain ⟨A1, c1, ev, hrow⟩ := Row.of_own hst
              injection ev with ev1 _ ev3
              subst ev1 ev3
              have HRow := Lib.hid hrow
              have HB5 := Lib.hid (HB.out.setCell (p := ⟨g, j, none⟩) hgb (.int .i64 odd))
              clear hown hcx hst hrow hv hy hml
              go_wp2_with fail
              refine (walk_any _ k cp _ _ HRow.out).mono ?_
              rintro e w3 ⟨rfl, rfl⟩
              rw [HV.out]
              by_cases hs : st = j
              · subst hs
                go_wp2_with fail
                go_ret
                exact ⟨rfl, HB5.out⟩
              · have q1 : ((st : Int) == (j : Int)) = false := by rw [beq_eq_false_iff_ne]; omega
                have q2 : (st : Int) < (j : Int) := by omega
                have q3 : (st : Int) ≤ (j : Int) := by omega
                go_wp2_with fail
                go_ret
                exact ⟨rfl, HB5.out⟩
      · obtain ⟨ho1, ho2⟩ := Sp.ok_iff.1 hok
        go_wp2_with fail
        go_ret
        exact ⟨rfl, HB1.out⟩
set_option maxRecDepth 100000 in
theorem lifted (os : Os) (started : os.Started) (H : Type) (enc : TypeId × Value → H) :
    ReturnsInHanded {} Try.checked os 7 .any (Rows.statusTurnedSpec.pre6 enc Try.prog Try.f7 Rows.statusTurnedRow.domain false) (Rows.statusTurnedSpec.post enc Try.prog Try.f7 false true false false) := by
  refine returnsInHanded_of_change (C := Try.checked) own started (by kernel_rfl) Try.func7
    (ChangeSpec.witness6 (enc := enc) (C := Try.checked) false ⟨#[], #[.slice none 0 0, .int .u8 0, .int .i64 0], []⟩ 8 (by kernel_rfl) (by kernel_rfl) (by kernel_rfl) (by kernel_rfl)) ?_
  intro W base args ds gs before hval0 hW hcnd _
  have hval : ∀ (j : Nat) t v, Try.f7.params[j]? = some t → args[j]? = some v → Value.okWide Try.prog W .any base t v := hval0
  have hW' := hW
  obtain ⟨p, q, hA0, hV, rfl, hfz, hnd⟩ := hW
  have hA : DataW.TrodAll enc Try.prog W 0 (fun _ => true) true Try.f7.params.toList args.toList ds p := hA0
  rw [Try.params7] at hA hval
  obtain ⟨v0, vs0, d0, ds0, p0, q0, hargs, rfl, rfl, h0, r0⟩ := trodAll_cons hA
  obtain ⟨v1, vs1, d1, ds1, p1, q1, rfl, rfl, rfl, h1, r1⟩ := trodAll_cons r0
  obtain ⟨v2, vs2, d2, ds2, p2, q2, rfl, rfl, rfl, h2, r2⟩ := trodAll_cons r1
  obtain ⟨rfl, rfl, rfl⟩ := trodAll_nil r2
  obtain rfl : args = #[v0, v1, v2] := by cases args; simp_all
  obtain ⟨rfl, rfl⟩ := trodVars_none hV
  have k0 := h0
  have lt0 : ∀ x ∈ p0, x.block < W.heap.size := by obtain ⟨m, hm⟩ := k0; exact DataW.trod_lt m _ _ _ hm
  obtain ⟨a0, len0, cap0, rfl⟩ := okWide_slice Try.underlying31 (hval 0 31 v0 rfl rfl)
  obtain ⟨aa0, ll0, cc0, z0, ev0, hn0, hr0⟩ : ∃ A n c zs, Value.slice a0 len0 cap0 = .slice A n c ∧ (zs.length = n ∧ n ≤ 9223372036854775807) ∧ BRow W A zs := by
    obtain ⟨fuel, hf⟩ := h0
    exact open_bytes (by simpa [Value.cells] using hf)
  injection ev0 with ea0 eb0 ec0
  subst ea0 eb0 ec0
  obtain ⟨a1, rfl, rfl, rfl, w1⟩ := open_int Try.underlying5 (hval 1 5 v1 rfl rfl) h1
  obtain ⟨a2, rfl, rfl, rfl, w2⟩ := open_int Try.underlying3 (hval 2 3 v2 rfl rfl) h2
  clear hA0 hval0
  refine (walk a0 len0 cap0 z0 a1 a2 W (Lib.hid hn0.1) hn0.2 hr0 w1).mono fun e W' ⟨he, bel⟩ => ?_
  subst he
  exact ⟨_, rfl, _, _, _, [], _, [], hW', trodAll_mk1 (shut_bool Try.underlying4 _), (trodAll_cons_mk (Below.trod laidOut (by kernel_rfl) (of_decide_eq_true (by kernel_rfl)) k0 bel lt0) (trodAll_cons_mk (shut_int Try.underlying5 w1) (trodAll_cons_mk (shut_int Try.underlying3 w2) trodAll_mk0))), rfl, bel.frame _, fun h => by cases h⟩
theorem over : Rows.statusTurnedRow.holds Try.pinned (OpenSpec.ofChange Rows.statusTurnedSpec) :=
  OpenClaim.holds_of_wide 7 Try.f7 rfl rfl rfl rfl rfl rfl rfl ⟨rfl, rfl, rfl, rfl, rfl⟩ rfl rfl rfl rfl rfl (by kernel_rfl) Try.func7 (by kernel_rfl)
    (of_decide_eq_true (by kernel_rfl)) (by unfold Func.isWrapper; first | (rw [if_pos (by decide +kernel)]; kernel_rfl) | (rw [if_neg (by decide +kernel)]; exact ⟨rfl, rfl⟩))
    (fun os started H enc _ => lifted os started H enc)
theorem proved : Rows.StatusTurnedSaid := over
end Go.Proofs.Ytldehegoaofjnaa.statusTurned

