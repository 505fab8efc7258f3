/- StatusWalks: a row that goes on goes as far without its last one; two rows go on as one, if there is a step between: the call answers true and changes nothing that was there; for every input. -/
import Derived.Test.YtldehegoaofjnaaURows
namespace Go.Proofs.Ytldehegoaofjnaa.statusWalks
open Go.ChangeShapes Go.WideShapes Go.ChangeAt Go.RowKit
set_option linter.unusedVariables false

set_option maxHeartbeats 4000000 in
set_option maxRecDepth 100000 in
theorem walk (A : Option Addr) (n c : Nat) (zs : List Int) (B : Option Addr) (m d : Nat) (ys : List Int) (w : World) (hn : Hid (zs.length = n)) (hl : n ≤ 9223372036854775807) (hr : BRow w A zs) (hm : Hid (ys.length = m)) (hl2 : m ≤ 9223372036854775807) (hr2 : BRow w B ys) :
    Calls Try.prog 5 #[.slice A n c, .slice B m d] w fun e w' => e = .returned (.bool true) ∧ Below w.heap.size w w' := by
  obtain ⟨i0, hi, hz0, hz1, hz2⟩ := info_parts info_int
  have HR := Lib.hid hr
  have HS := Lib.hid hr2
  clear hr hr2
  go_enter Try.func5, Try.ntmps5
  go_wp2_with fail
  refine (shown_any _).mono ?_
  rintro e w1 ⟨rfl, hb1⟩
  have HB1 := Lib.hid hb1
  clear hb1
  by_cases h200 : 200 < n
  · have g1 : (200 : Int) < (n : Int) := by omega
    go_wp2_with fail
    go_ret
    exact ⟨rfl, HB1.out⟩
  · have g1 : ¬ (200 : Int) < (n : Int) := by omega
    by_cases h201 : 200 < m
    · have g2 : (200 : Int) < (m : Int) := by omega
      go_wp2_with fail
      go_ret
      exact ⟨rfl, HB1.out⟩
    · have g2 : ¬ (200 : Int) < (m : Int) := by omega
      go_wp2_with fail
      go_loopw [6, 8] (fun v i wr => ∃ k : Nat, k ≤ n ∧ i = .int .i64 k ∧ wr.ownsRow w.heap.size 3 1 v k ((mods zs 6 k).map (Value.int .i64)) ∧ Hid (Below w.heap.size w wr)) (fun _ i _ => n - (intOf i).toNat)
      case atStart => exact ⟨0, Nat.zero_le _, rfl, World.ownsRow_nil _ _ _ _, HB1⟩
      case round =>
        obtain ⟨k, hk, rfl, hown, HB⟩ := hrel
        by_cases hlt : k < n
        · obtain ⟨z, hz⟩ : ∃ z, zs[k]? = some z := ⟨_, List.getElem?_eq_getElem (by rw [hn.out]; exact hlt)⟩
          obtain ⟨b', off, hAA, hlt', hc, z0, z1⟩ := HR.out k z hz
          subst hAA
          have hcw : wr.cell? ⟨b', off + k, none⟩ = some (.int .u8 z) := (HB.out.cell (p := ⟨b', off + k, none⟩) hlt').trans hc
          have m1 : z.tmod 6 = z % 6 := Int.tmod_eq_emod_of_nonneg z0
          have HS := Lib.hid (mods_succ (m := 6) hz)
          have hbs := HB.out.size
          clear hz hc
          go_wp2_with (at_builtin; refine wpList_append_own _ rfl _ _ 22 rfl w.heap.size 3 i0 (.int .i64 0) 1 8 Try.underlying22 hi hz0 hz1 hz2 rfl (by decide) _ _ _ rfl (hown.alloc _) ⟨wr.heap.size, 0, none⟩ 1 1 [.int .i64 (z % 6)] rfl rfl (one_cell _ _ _) (by intro u hu; simp at hu; subst hu; rfl) (by unfold maxLen; omega) (by omega) (by simp; omega) ?_)
          intro v' w2 hown2 hg _
          have HO2 := Lib.hid (show w2.ownsRow w.heap.size 3 1 v' (k + 1) ((mods zs 6 (k + 1)).map (Value.int .i64)) by rw [HS.out]; simpa using hown2)
          have HB2 := Lib.hid ((HB.out.alloc HB.out.size (.cells #[.int .i64 (z % 6)] 3)).grown hg (by have := HB.out.size; simp; omega) (fun j hj => (hown.lt j hj).1))
          clear hown2 hg hown hcw
          go_wp2_with fail
          go_roundw
          case rel => exact ⟨k + 1, by omega, by go_num, HO2.out, HB2⟩
          case measure => simp [intOf]; omega
        · obtain rfl : k = n := by omega
          obtain ⟨A1, c1, rfl, hr1, hf1⟩ := Row.of_own' hown
          have hml := mods_len (zs := zs) (m := 6) (k := k) (by rw [hn.out]; exact Nat.le_refl _)
          obtain ⟨L, hL⟩ : ∃ L, mods zs 6 k = L := ⟨_, rfl⟩
          rw [hL] at hr1 hml
          have R1 := Lib.hid hr1
          have HL := Lib.hid hml
          obtain ⟨wo, rfl⟩ : ∃ wo : World, wo = wr := ⟨_, rfl⟩
          have HS2 := Lib.hid (show BRow wo B ys from HS.out.below HB.out)
          clear hown hr1 hf1 hml hL HS
          go_wp2_with fail
          go_loopw [7, 9] (fun v i wr => ∃ k : Nat, k ≤ m ∧ i = .int .i64 k ∧ wr.ownsRow wo.heap.size 3 1 v k ((mods ys 6 k).map (Value.int .i64)) ∧ Hid (Below wo.heap.size wo wr)) (fun _ i _ => m - (intOf i).toNat)
          case atStart => exact ⟨0, Nat.zero_le _, rfl, World.ownsRow_nil _ _ _ _, Lib.hid (Below.refl _ _)⟩
          case round =>
            obtain ⟨j, hj, rfl, hown, HC⟩ := hrel
            by_cases hlt2 : j < m
            · obtain ⟨z, hz⟩ : ∃ z, ys[j]? = some z := ⟨_, List.getElem?_eq_getElem (by rw [hm.out]; exact hlt2)⟩
              obtain ⟨b', off, hAA, hlt', hc, z0, z1⟩ := HS2.out j z hz
              subst hAA
              have hcw : wr.cell? ⟨b', off + j, none⟩ = some (.int .u8 z) := (HC.out.cell (p := ⟨b', off + j, none⟩) hlt').trans hc
              have m1 : z.tmod 6 = z % 6 := Int.tmod_eq_emod_of_nonneg z0
              have HS := Lib.hid (mods_succ (m := 6) hz)
              have hbs := HC.out.size
              clear hz hc
              go_wp2_with (at_builtin; refine wpList_append_own _ rfl _ _ 22 rfl wo.heap.size 3 i0 (.int .i64 0) 1 8 Try.underlying22 hi hz0 hz1 hz2 rfl (by decide) _ _ _ rfl (hown.alloc _) ⟨wr.heap.size, 0, none⟩ 1 1 [.int .i64 (z % 6)] rfl rfl (one_cell _ _ _) (by intro u hu; simp at hu; subst hu; rfl) (by unfold maxLen; omega) (by omega) (by simp; omega) ?_)
              intro v' w2 hown2 hg _
              have HO2 := Lib.hid (show w2.ownsRow wo.heap.size 3 1 v' (j + 1) ((mods ys 6 (j + 1)).map (Value.int .i64)) by rw [HS.out]; simpa using hown2)
              have HC2 := Lib.hid ((HC.out.alloc HC.out.size (.cells #[.int .i64 (z % 6)] 3)).grown hg (by have := HC.out.size; simp; omega) (fun j hj => (hown.lt j hj).1))
              clear hown2 hg hown hcw
              go_wp2_with fail
              go_roundw
              case rel => exact ⟨j + 1, by omega, by go_num, HO2.out, HC2⟩
              case measure => simp [intOf]; omega
            · obtain rfl : j = m := by omega
              obtain ⟨A2, c2, rfl, hr2, hf2⟩ := Row.of_own' hown
              have hml := mods_len (zs := ys) (m := 6) (k := j) (by rw [hm.out]; exact Nat.le_refl _)
              obtain ⟨K, hK⟩ : ∃ K, mods ys 6 j = K := ⟨_, rfl⟩
              rw [hK] at hr2 hml
              have R2 := Lib.hid hr2
              have HK := Lib.hid hml
              have R1' := Lib.hid (R1.out.below HC.out)
              have HBB := Lib.hid (HB.out.trans (HC.out.mono HB.out.size))
              clear hown hr2 hf2 hml hK HS2 R1 HC HB HR
              clear hn hm
              obtain ⟨st, wh, hv⟩ : ∃ (st : Nat) (wh : Bool), st = Sp.stop L ∧ wh = Sp.whole L := ⟨_, _, rfl, rfl⟩
              obtain ⟨sk, wk, hv2⟩ : ∃ (sk : Nat) (wk : Bool), sk = Sp.stop K ∧ wk = Sp.whole K := ⟨_, _, rfl, rfl⟩
              have HS1 := Lib.hid hv
              have HS2 := Lib.hid hv2
              have HV := Lib.hid (show walkV L = .tuple #[.int .i64 st, .bool wh] by rw [hv.1, hv.2]; rfl)
              have HV2 := Lib.hid (show walkV K = .tuple #[.int .i64 sk, .bool wk] by rw [hv2.1, hv2.2]; rfl)
              clear hv hv2
              go_wp2_with fail
              refine (walk_any A1 k c1 L _ R1'.out).mono ?_
              rintro e w3 ⟨rfl, rfl⟩
              rw [HV.out]
              go_wp2_with fail
              refine (walk_any A2 j c2 K _ R2.out).mono ?_
              rintro e w4 ⟨rfl, rfl⟩
              rw [HV2.out]
              have hbn := Lib.hid (below_new w4 (.cells #[] 3))
              have hown := Lib.hid (World.ownsRow_made (w := w4) (base := w4.heap.size) (e := 3) (size := 1) #[] 0 (Nat.le_refl _) (by unfold maxLen; omega) rfl)
              go_wp2_with (at_builtin; refine wpList_append_row_g (.tmp 70) (.tmp 71) rfl (by simp [Region.wanted]) w4.heap.size (.slice (some ⟨w4.heap.size, 0, none⟩) 0 0) 0 [] rfl hown.out A1 k c1 L rfl (R1'.out.below hbn.out) (by omega) (by simp) ?_)
              intro va w5 hoa hga
              have OA := Lib.hid (show w5.ownsRow w4.heap.size 3 1 va k (L.map (Value.int .i64)) from by simpa using hoa)
              have HB5 := Lib.hid (hbn.out.grown hga (by simp) (fun q e => by simp [Value.ownBlock] at e; omega))
              have hs5 := HB5.out.size
              clear hoa hga hown hbn
              go_wp2_with (at_builtin; refine wpList_append_row_g (.tmp 72) (.tmp 73) rfl (by simp [Region.wanted]) w4.heap.size va k L rfl OA.out A2 j c2 K rfl (R2.out.below HB5.out) (by omega) hs5 ?_)
              intro vb w6 hob hgb
              have HB6 := Lib.hid (HB5.out.grown hgb hs5 (fun q e => (OA.out.lt q e).1))
              rw [← List.map_append] at hob
              obtain ⟨A3, c3, rfl, hr3⟩ := Row.of_own hob
              have R3 := Lib.hid hr3
              have R1b := Lib.hid (R1'.out.below HB6.out)
              have R2b := Lib.hid (R2.out.below HB6.out)
              have HBC := Lib.hid (HBB.out.trans (HB6.out.mono HBB.out.size))
              clear hob hgb hr3 OA HB5 HB6 hs5 R1' R2 HBB
              go_wp2_with fail
              refine (walk_any A3 (k + j) c3 (L ++ K) _ R3.out).mono ?_
              rintro e w7 ⟨rfl, rfl⟩
              obtain ⟨sb, hsb⟩ : ∃ sb : Nat, walkV (L ++ K) = .tuple #[.int .i64 sb, .bool (wh && wk && Sp.between L K)] := ⟨_, by rw [HS1.out.2, HS2.out.2, ← Sp.whole_append]; rfl⟩
              rw [hsb]
              obtain ⟨bt, hbt⟩ : ∃ bt, Sp.between L K = bt := ⟨_, rfl⟩
              rw [hbt]
              have HBT := Lib.hid hbt
              clear hsb R3 hbt
              by_cases hk0 : k = 0
              · have g3 : ((k : Int) == 0) = true := by rw [beq_iff_eq]; omega
                obtain rfl : bt = true := by rw [← HBT.out, show L = [] from List.length_eq_zero_iff.1 (by rw [HL.out, hk0])]; rfl
                subst hk0
                cases wh
                · exfalso
                  have h1 := HS1.out.1
                  have h2 := HS1.out.2
                  have h3 := Sp.stop_le L
                  unfold Sp.whole at h2
                  have := of_decide_eq_false h2.symm
                  rw [HL.out] at h3 this
                  omega
                · obtain rfl : st = 0 := by
                    have h1 := HS1.out.1
                    have h3 := Sp.stop_le L
                    rw [HL.out] at h3
                    omega
                  go_wp2_with fail
                  go_quiet (fail)
                  have HT := Lib.hid (R1b.out.below (below_drewN (Below.refl _ _) nq))
                  go_wp2_with fail
                  refine (walk_any A1 0 c1 L (w7.drewN nq) HT.out).mono ?_
                  rintro e w8 ⟨rfl, rfl⟩
                  rw [HV.out]
                  go_wp2_with fail
                  all_goals
                    go_ret
                    exact ⟨rfl, below_drewN HBC.out _⟩
              · have g3 : ((k : Int) == 0) = false := by rw [beq_eq_false_iff_ne]; omega
                obtain ⟨b1, o1, rfl, hlt1, hcs1⟩ := R1b.out.cells (by omega)
                have HC1 := Lib.hid hcs1
                by_cases hj0 : j = 0
                · have g4 : ((j : Int) == 0) = true := by rw [beq_iff_eq]; omega
                  obtain rfl : bt = true := by rw [← HBT.out, show K = [] from List.length_eq_zero_iff.1 (by rw [HK.out, hj0])]; exact Sp.between_nil_right _
                  clear hk0 hj0 hcs1
                  go_wp2_with fail
                  go_quiet (fail)
                  cases wh
                  · skip
                    have hst : st < k := by
                      have h1 := HS1.out.1
                      have h2 := HS1.out.2
                      have h3 := Sp.stop_le L
                      unfold Sp.whole at h2
                      have := of_decide_eq_false h2.symm
                      rw [HL.out] at h3 this
                      omega
                    have q1 : ((st : Int) == (k : Int)) = false := by rw [beq_eq_false_iff_ne]; omega
                    have q2 : ¬ (k : Int) < (st : Int) := by omega
                    have q3 : ¬ (st : Int) < 0 := by omega
                    have q4 : (st : Int) + 1 ≤ (c1 : Int) := by have := R1b.out.cap; omega
                    have q5 : ((st : Int) + 1).toNat = st + 1 := by omega
                    have q6 : (0 : Int) ≤ (st : Int) + 1 := by omega
                    obtain ⟨z, hz⟩ : ∃ z, L[st]? = some z := ⟨_, List.getElem?_eq_getElem (by rw [HL.out]; exact hst)⟩
                    have hcz := HC1.out st z hz
                    obtain ⟨sx, hsx⟩ : ∃ sx : Nat, walkV (L.take (st + 1)) = .tuple #[.int .i64 sx, .bool (Sp.ok z)] := by
                      have e := HS1.out.1
                      subst e
                      exact ⟨_, by rw [← Sp.whole_take hz]; rfl⟩
                    have hrt := (R1b.out.take (st + 1) hst).below (below_drewN (Below.refl _ _) nq)
                    obtain ⟨T, hT⟩ : ∃ T, L.take (st + 1) = T := ⟨_, rfl⟩
                    rw [hT] at hrt hsx
                    have HX := Lib.hid hsx
                    have hne := nm_empty z
                    have hczd : (w7.drewN nq).cell? ⟨b1, o1 + st, none⟩ = some (.int .i64 z) := hcz
                    clear hz hsx hT
                    have q7 : st < k := hst
                    have q8 : (st : Int) < (k : Int) := by omega
                    rcases Int.lt_trichotomy ((st : Int) + 1) (k : Int) with hq | hq | hq
                    · have HT := Lib.hid hrt
                      clear hrt
                      cases hok : Sp.ok z
                      · rw [hok] at hne HX
                        go_wp2_with fail
                        refine (walk_any (some ⟨b1, o1, none⟩) (st + 1) c1 T (w7.drewN nq) HT.out).mono ?_
                        rintro e w8 ⟨rfl, rfl⟩
                        rw [HX.out]
                        go_wp2_with fail
                        refine (name_any z _).mono ?_
                        rintro e w9 ⟨rfl, rfl⟩
                        go_wp2_with fail
                        go_ret
                        exact ⟨rfl, below_drewN HBC.out _⟩
                      · rw [hok] at hne HX
                        go_wp2_with fail
                        refine (walk_any (some ⟨b1, o1, none⟩) (st + 1) c1 T (w7.drewN nq) HT.out).mono ?_
                        rintro e w8 ⟨rfl, rfl⟩
                        rw [HX.out]
                        go_wp2_with fail
                        refine (name_any z _).mono ?_
                        rintro e w9 ⟨rfl, rfl⟩
                        go_wp2_with fail
                        go_ret
                        exact ⟨rfl, below_drewN HBC.out _⟩
                    · rw [show st + 1 = k by omega] at hrt
                      have HT := Lib.hid hrt
                      clear hrt
                      cases hok : Sp.ok z
                      · rw [hok] at hne HX
                        go_wp2_with fail
                        refine (walk_any (some ⟨b1, o1, none⟩) k c1 T (w7.drewN nq) HT.out).mono ?_
                        rintro e w8 ⟨rfl, rfl⟩
                        rw [HX.out]
                        go_wp2_with fail
                        refine (name_any z _).mono ?_
                        rintro e w9 ⟨rfl, rfl⟩
                        go_wp2_with fail
                        go_ret
                        exact ⟨rfl, below_drewN HBC.out _⟩
                      · rw [hok] at hne HX
                        go_wp2_with fail
                        refine (walk_any (some ⟨b1, o1, none⟩) k c1 T (w7.drewN nq) HT.out).mono ?_
                        rintro e w8 ⟨rfl, rfl⟩
                        rw [HX.out]
                        go_wp2_with fail
                        refine (name_any z _).mono ?_
                        rintro e w9 ⟨rfl, rfl⟩
                        go_wp2_with fail
                        go_ret
                        exact ⟨rfl, below_drewN HBC.out _⟩
                    · exfalso; omega
                  · skip
                    obtain rfl : st = k := by
                      have h1 := HS1.out.1
                      have h2 := HS1.out.2
                      unfold Sp.whole at h2
                      have := of_decide_eq_true h2.symm
                      rw [HL.out] at this
                      omega
                    have q1 : ¬ (st : Int) + 1 < (st : Int) := by omega
                    have q2 : (st : Int) < (st : Int) + 1 := by omega
                    have q4 : (st : Int) ≤ (c1 : Int) := by have := R1b.out.cap; omega
                    have HT := Lib.hid ((R1b.out.take st (Nat.le_refl _)).below (below_drewN (Below.refl _ _) nq))
                    rw [List.take_of_length_le (by rw [HL.out]; exact Nat.le_refl _)] at HT
                    go_wp2_with fail
                    refine (walk_any (some ⟨b1, o1, none⟩) st c1 L (w7.drewN nq) HT.out).mono ?_
                    rintro e w8 ⟨rfl, rfl⟩
                    rw [HV.out]
                    go_wp2_with fail
                    all_goals
                      go_ret
                      exact ⟨rfl, below_drewN HBC.out _⟩
                · have g4 : ((j : Int) == 0) = false := by rw [beq_eq_false_iff_ne]; omega
                  obtain ⟨b2, o2, rfl, hlt2, hcs2⟩ := R2b.out.cells (by omega)
                  obtain ⟨x, hx⟩ : ∃ x, L[k - 1]? = some x := ⟨_, List.getElem?_eq_getElem (by rw [HL.out]; omega)⟩
                  obtain ⟨y, hy⟩ : ∃ y, K[0]? = some y := ⟨_, List.getElem?_eq_getElem (by rw [HK.out]; omega)⟩
                  have hcx := hcs1 _ x hx
                  have hcy := hcs2 _ y hy
                  rw [Nat.add_zero] at hcy
                  have HXY := Lib.hid (show Sp.may x y = bt by rw [← HBT.out, Sp.between_at (by rw [HL.out]; exact hx) hy])
                  have s1 : IntKind.i64.wrap ((k : Int) - 1) = (k : Int) - 1 := IntWalk.i64_in _ (by omega)
                  have s2 : (0 : Int) ≤ (k : Int) - 1 := by omega
                  have s3 : (k : Int) - 1 < (k : Int) := by omega
                  have s4 : ((k : Int) - 1).toNat = k - 1 := by omega
                  have s5 : (0 : Int) < (j : Int) := by omega
                  have G := Lib.hid (show ∀ q, Calls Try.prog 14 #[.int .i64 x, .int .i64 y] (w7.drewN q) fun e w' => e = .returned (.bool bt) ∧ w' = w7.drewN q from fun q => by rw [← HXY.out]; exact may_any x y _)
                  clear hcs1 hcs2 hx hy hk0 hj0
                  go_wp2_with fail
                  go_quiet ((go_at_call 14; (with_reducible exact Calls.quiet_of_same (G.out _))))
                  cases wh
                  · skip
                    have hst : st < k := by
                      have h1 := HS1.out.1
                      have h2 := HS1.out.2
                      have h3 := Sp.stop_le L
                      unfold Sp.whole at h2
                      have := of_decide_eq_false h2.symm
                      rw [HL.out] at h3 this
                      omega
                    have q1 : ((st : Int) == (k : Int)) = false := by rw [beq_eq_false_iff_ne]; omega
                    have q2 : ¬ (k : Int) < (st : Int) := by omega
                    have q3 : ¬ (st : Int) < 0 := by omega
                    have q4 : (st : Int) + 1 ≤ (c1 : Int) := by have := R1b.out.cap; omega
                    have q5 : ((st : Int) + 1).toNat = st + 1 := by omega
                    have q6 : (0 : Int) ≤ (st : Int) + 1 := by omega
                    obtain ⟨z, hz⟩ : ∃ z, L[st]? = some z := ⟨_, List.getElem?_eq_getElem (by rw [HL.out]; exact hst)⟩
                    have hcz := HC1.out st z hz
                    obtain ⟨sx, hsx⟩ : ∃ sx : Nat, walkV (L.take (st + 1)) = .tuple #[.int .i64 sx, .bool (Sp.ok z)] := by
                      have e := HS1.out.1
                      subst e
                      exact ⟨_, by rw [← Sp.whole_take hz]; rfl⟩
                    have hrt := (R1b.out.take (st + 1) hst).below (below_drewN (Below.refl _ _) nq)
                    obtain ⟨T, hT⟩ : ∃ T, L.take (st + 1) = T := ⟨_, rfl⟩
                    rw [hT] at hrt hsx
                    have HX := Lib.hid hsx
                    have hne := nm_empty z
                    have hczd : (w7.drewN nq).cell? ⟨b1, o1 + st, none⟩ = some (.int .i64 z) := hcz
                    clear hz hsx hT
                    have q7 : st < k := hst
                    have q8 : (st : Int) < (k : Int) := by omega
                    rcases Int.lt_trichotomy ((st : Int) + 1) (k : Int) with hq | hq | hq
                    · have HT := Lib.hid hrt
                      clear hrt
                      cases hok : Sp.ok z
                      · rw [hok] at hne HX
                        go_wp2_with fail
                        refine (walk_any (some ⟨b1, o1, none⟩) (st + 1) c1 T (w7.drewN nq) HT.out).mono ?_
                        rintro e w8 ⟨rfl, rfl⟩
                        rw [HX.out]
                        go_wp2_with fail
                        refine (name_any z _).mono ?_
                        rintro e w9 ⟨rfl, rfl⟩
                        go_wp2_with fail
                        go_ret
                        exact ⟨rfl, below_drewN HBC.out _⟩
                      · rw [hok] at hne HX
                        go_wp2_with fail
                        refine (walk_any (some ⟨b1, o1, none⟩) (st + 1) c1 T (w7.drewN nq) HT.out).mono ?_
                        rintro e w8 ⟨rfl, rfl⟩
                        rw [HX.out]
                        go_wp2_with fail
                        refine (name_any z _).mono ?_
                        rintro e w9 ⟨rfl, rfl⟩
                        go_wp2_with fail
                        go_ret
                        exact ⟨rfl, below_drewN HBC.out _⟩
                    · rw [show st + 1 = k by omega] at hrt
                      have HT := Lib.hid hrt
                      clear hrt
                      cases hok : Sp.ok z
                      · rw [hok] at hne HX
                        go_wp2_with fail
                        refine (walk_any (some ⟨b1, o1, none⟩) k c1 T (w7.drewN nq) HT.out).mono ?_
                        rintro e w8 ⟨rfl, rfl⟩
                        rw [HX.out]
                        go_wp2_with fail
                        refine (name_any z _).mono ?_
                        rintro e w9 ⟨rfl, rfl⟩
                        go_wp2_with fail
                        go_ret
                        exact ⟨rfl, below_drewN HBC.out _⟩
                      · rw [hok] at hne HX
                        go_wp2_with fail
                        refine (walk_any (some ⟨b1, o1, none⟩) k c1 T (w7.drewN nq) HT.out).mono ?_
                        rintro e w8 ⟨rfl, rfl⟩
                        rw [HX.out]
                        go_wp2_with fail
                        refine (name_any z _).mono ?_
                        rintro e w9 ⟨rfl, rfl⟩
                        go_wp2_with fail
                        go_ret
                        exact ⟨rfl, below_drewN HBC.out _⟩
                    · exfalso; omega
                  · skip
                    obtain rfl : st = k := by
                      have h1 := HS1.out.1
                      have h2 := HS1.out.2
                      unfold Sp.whole at h2
                      have := of_decide_eq_true h2.symm
                      rw [HL.out] at this
                      omega
                    have q1 : ¬ (st : Int) + 1 < (st : Int) := by omega
                    have q2 : (st : Int) < (st : Int) + 1 := by omega
                    have q4 : (st : Int) ≤ (c1 : Int) := by have := R1b.out.cap; omega
                    have HT := Lib.hid ((R1b.out.take st (Nat.le_refl _)).below (below_drewN (Below.refl _ _) nq))
                    rw [List.take_of_length_le (by rw [HL.out]; exact Nat.le_refl _)] at HT
                    go_wp2_with fail
                    refine (walk_any (some ⟨b1, o1, none⟩) st c1 L (w7.drewN nq) HT.out).mono ?_
                    rintro e w8 ⟨rfl, rfl⟩
                    rw [HV.out]
                    go_wp2_with fail
                    all_goals
                      go_ret
                      exact ⟨rfl, below_drewN HBC.out _⟩
set_option maxRecDepth 100000 in
theorem lifted (os : Os) (started : os.Started) (H : Type) (enc : TypeId × Value → H) :
    ReturnsInHanded {} Try.checked os 5 .any (Rows.statusWalksSpec.pre6 enc Try.prog Try.f5 Rows.statusWalksRow.domain false) (Rows.statusWalksSpec.post enc Try.prog Try.f5 false true false false) := by
  refine returnsInHanded_of_change (C := Try.checked) own started (by kernel_rfl) Try.func5
    (ChangeSpec.witness6 (enc := enc) (C := Try.checked) false ⟨#[], #[.slice none 0 0, .slice none 0 0], []⟩ 8 (by kernel_rfl) (by kernel_rfl) (by kernel_rfl) (by kernel_rfl)) ?_
  intro W base args ds gs before hval0 hW hcnd _
  have hval : ∀ (j : Nat) t v, Try.f5.params[j]? = some t → args[j]? = some v → Value.okWide Try.prog W .any base t v := hval0
  have hW' := hW
  obtain ⟨p, q, hA0, hV, rfl, hfz, hnd⟩ := hW
  have hA : DataW.TrodAll enc Try.prog W 0 (fun _ => true) true Try.f5.params.toList args.toList ds p := hA0
  rw [Try.params5] at hA hval
  obtain ⟨v0, vs0, d0, ds0, p0, q0, hargs, rfl, rfl, h0, r0⟩ := trodAll_cons hA
  obtain ⟨v1, vs1, d1, ds1, p1, q1, rfl, rfl, rfl, h1, r1⟩ := trodAll_cons r0
  obtain ⟨rfl, rfl, rfl⟩ := trodAll_nil r1
  obtain rfl : args = #[v0, v1] := by cases args; simp_all
  obtain ⟨rfl, rfl⟩ := trodVars_none hV
  have k0 := h0
  have lt0 : ∀ x ∈ p0, x.block < W.heap.size := by obtain ⟨m, hm⟩ := k0; exact DataW.trod_lt m _ _ _ hm
  obtain ⟨a0, len0, cap0, rfl⟩ := okWide_slice Try.underlying31 (hval 0 31 v0 rfl rfl)
  obtain ⟨aa0, ll0, cc0, z0, ev0, hn0, hr0⟩ : ∃ A n c zs, Value.slice a0 len0 cap0 = .slice A n c ∧ (zs.length = n ∧ n ≤ 9223372036854775807) ∧ BRow W A zs := by
    obtain ⟨fuel, hf⟩ := h0
    exact open_bytes (by simpa [Value.cells] using hf)
  injection ev0 with ea0 eb0 ec0
  subst ea0 eb0 ec0
  have k1 := h1
  have lt1 : ∀ x ∈ p1, x.block < W.heap.size := by obtain ⟨m, hm⟩ := k1; exact DataW.trod_lt m _ _ _ hm
  obtain ⟨a1, len1, cap1, rfl⟩ := okWide_slice Try.underlying31 (hval 1 31 v1 rfl rfl)
  obtain ⟨aa1, ll1, cc1, z1, ev1, hn1, hr1⟩ : ∃ A n c zs, Value.slice a1 len1 cap1 = .slice A n c ∧ (zs.length = n ∧ n ≤ 9223372036854775807) ∧ BRow W A zs := by
    obtain ⟨fuel, hf⟩ := h1
    exact open_bytes (by simpa [Value.cells] using hf)
  injection ev1 with ea1 eb1 ec1
  subst ea1 eb1 ec1
  clear hA0 hval0
  refine (walk a0 len0 cap0 z0 a1 len1 cap1 z1 W (Lib.hid hn0.1) hn0.2 hr0 (Lib.hid hn1.1) hn1.2 hr1).mono fun e W' ⟨he, bel⟩ => ?_
  subst he
  exact ⟨_, rfl, _, _, _, [], _, [], hW', trodAll_mk1 (shut_bool Try.underlying4 _), (trodAll_cons_mk (Below.trod laidOut (by kernel_rfl) (of_decide_eq_true (by kernel_rfl)) k0 bel lt0) (trodAll_cons_mk (Below.trod laidOut (by kernel_rfl) (of_decide_eq_true (by kernel_rfl)) k1 bel lt1) trodAll_mk0)), rfl, bel.frame _, fun h => by cases h⟩
theorem over : Rows.statusWalksRow.holds Try.pinned (OpenSpec.ofChange Rows.statusWalksSpec) :=
  OpenClaim.holds_of_wide 5 Try.f5 rfl rfl rfl rfl rfl rfl rfl ⟨rfl, rfl, rfl, rfl, rfl⟩ rfl rfl rfl rfl rfl (by kernel_rfl) Try.func5 (by kernel_rfl)
    (of_decide_eq_true (by kernel_rfl)) (by unfold Func.isWrapper; first | (rw [if_pos (by decide +kernel)]; kernel_rfl) | (rw [if_neg (by decide +kernel)]; exact ⟨rfl, rfl⟩))
    (fun os started H enc _ => lifted os started H enc)
theorem proved : Rows.StatusWalksSaid := over
end Go.Proofs.Ytldehegoaofjnaa.statusWalks

