/- runs.May, by its contract. -/
import Derived.Test.YtcoccegmkcdeiaaDoorJMet
import Derived.Test.YtcoccegmkcdeiaaDoorJWhr
import Derived.Test.YtcoccegmkcdeiaaDoorRMay
import Derived.Test.YtcoccegmkcdeiaaDoorM10
namespace Go.Proofs.YtcoccegmkcdeiaaDoor
open Go.RowKit
set_option linter.unusedVariables false

set_option maxRecDepth 100000 in
set_option maxHeartbeats 1000000 in
theorem onMay_any {F : Nat → Prop} (d : Ad) (r : Jp.Rn) (T : Bool) (w : World) (HT : Hid (T = true ↔ (Zp.mem r.on ≠ [] ∧ ∀ z ∈ Zp.mem r.on, z < (r.rings.length : Int)))) (h : RM F w d r) (hT : Tab w) :
    Calls Tryd.prog 66 #[jv d r] w fun e w' => e = .returned (.bool T) ∧ Below w.heap.size w w' := by
  obtain ⟨A0, nt, ct, R, nr, cr, S, ns, cs⟩ := d
  obtain ⟨hr1, hr2, hr3⟩ := h.nr
  simp only at hr1 hr2 hr3
  obtain ⟨V, hV, hX, hB⟩ := B5.start w (.slice A0 nt ct) (.int .i64 r.size) (.slice R nr cr) (.slice S ns cs) (.int .u64 (r.on : Nat)) 33
  have E := Lib.hid hV
  have X0 := Lib.hid hX
  have B0 := Lib.hid hB
  have HC := Lib.hid (zall_any r.on V h.on (hT.step hB))
  have d4 := hX.c4
  clear hV hX hB h hT
  unfold jv
  go_enter Tryd.func66, Tryd.ntmps66
  go_wp2_with (rw [← E.out])
  clear E
  refine HC.out.mono ?_
  rintro e w1 ⟨v, n, rfl, ho, hb1⟩
  obtain ⟨A1, c1, rfl, hrow, _⟩ := Row.of_own' ho
  have X1 := X0.out.step hb1
  have d2 := X1.c2
  have B1 := Lib.hid (held_trans B0.out hb1)
  have HML := Lib.hid hrow.len
  have hcap := hrow.cap
  have hmost := hrow.most
  clear ho hb1 HC X1 d4
  by_cases hn : n = 0
  · subst hn
    have hnil : Zp.mem r.on = [] := List.length_eq_zero_iff.1 HML.out
    obtain rfl : T = false := t_no HT (fun h => h.1 hnil)
    clear hrow hnil
    go_wp2_with fail
    go_quiet (fail)
    go_wp2_with fail
    go_ret
    exact ⟨rfl, below_drewN B1.out _⟩
  · obtain ⟨q, rfl⟩ : ∃ q, n = q + 1 := ⟨n - 1, by omega⟩
    obtain ⟨b, off, rfl, _, hc⟩ := hrow.cells (by omega)
    obtain ⟨z, hz⟩ : ∃ z, (Zp.mem r.on)[q]? = some z := ⟨_, List.getElem?_eq_getElem (by have := HML.out; omega)⟩
    have cz := hc q z hz
    have HZ := Lib.hid hz
    have HL := Lib.hid (fun h => rises_last (m := (r.rings.length : Int)) (Zp.mem_rises r.on) HML.out hz h)
    have wq : IntKind.i64.wrap ((q : Int) + 1 - 1) = (q : Int) := by rw [Int.add_sub_cancel]; exact IntWalk.i64_in _ (by omega)
    have wq' : IntKind.i64.wrap (q : Int) = (q : Int) := IntWalk.i64_in _ (by omega)
    have j0 : (0 : Int) ≤ (q : Int) := by omega
    have j1 : (q : Int) < (q : Int) + 1 := by omega
    have j2 : (0 : Int) < (q : Int) + 1 := by omega
    clear hc hz hrow hn
    by_cases g4 : z < (nr : Int)
    · obtain rfl : T = true := HT.out.2 ⟨fun e => by have := HML.out; rw [e] at this; simp at this, HL.out (by rw [hr1]; exact g4)⟩
      go_wp2_with fail
      go_quiet (fail)
      go_wp2_with fail
      go_ret
      exact ⟨rfl, below_drewN B1.out _⟩
    · obtain rfl : T = false := t_no HT (fun h => g4 (by have := h.2 z (List.mem_of_getElem? HZ.out); rw [hr1] at this; exact this))
      go_wp2_with fail
      go_quiet (fail)
      go_wp2_with fail
      go_ret
      exact ⟨ret_bool (decide_eq_false (by omega)), below_drewN B1.out _⟩
/-- Each ring may be, with those that stand there. -/
def RingsP (r : Jp.Rn) (k : Nat) : Prop := ∀ (p : Nat) x, p < k → r.rings[p]? = some x → Rp.may x r.size = true ∧ (Rp.all x = [] ∨ Jp.onP r p = true)
theorem RingsP.next {r : Jp.Rn} {k : Nat} {x : Int × List Int} (h : RingsP r k) (hx : r.rings[k]? = some x) (h1 : Rp.may x r.size = true) (h2 : Rp.all x = [] ∨ Jp.onP r k = true) : RingsP r (k + 1) := by
  intro p y hp hy
  by_cases e : p = k
  · subst e
    rw [hx] at hy
    injection hy with hy
    subst hy
    exact ⟨h1, h2⟩
  · exact h p y (by omega) hy
theorem has_onP (r : Jp.Rn) (p : Int) : Zp.has r.on p = Jp.onP r p := by
  rw [Zp.has_mem]
  unfold Jp.onP
  rw [Bool.eq_iff_iff, decide_eq_true_iff, Jp.has_iff]
set_option maxRecDepth 100000 in
set_option maxHeartbeats 1000000 in
theorem ringsMay_any {F : Nat → Prop} (d : Ad) (r : Jp.Rn) (T : Bool) (w : World) (HT : Hid (T = true ↔ RingsP r r.rings.length)) (h : RM F w d r) (hlow : Low r) :
    Calls Tryd.prog 67 #[jv d r] w fun e w' => e = .returned (.bool T) ∧ Below w.heap.size w w' := by
  obtain ⟨A0, nt, ct, R, nr, cr, S, ns, cs⟩ := d
  have H := Lib.hid h
  have HL := Lib.hid hlow
  obtain ⟨hr1, hr2, hr3⟩ := h.nr
  have hr4 := hlow.rings
  simp only at hr1 hr2 hr3
  have HON := Lib.hid h.on
  clear h hlow
  obtain ⟨V, hV, hX, hB⟩ := B5.start w (.slice A0 nt ct) (.int .i64 r.size) (.slice R nr cr) (.slice S ns cs) (.int .u64 (r.on : Nat)) 33
  have E := Lib.hid hV
  have X0 := Lib.hid hX
  have B0 := Lib.hid hB
  have d2 := hX.c2
  clear hV hX hB
  unfold jv
  go_enter Tryd.func67, Tryd.ntmps67
  go_wp2_with (rw [← E.out])
  clear E
  go_loopw [8] (fun i wr => ∃ k : Nat, k ≤ nr ∧ i = .int .i64 k ∧ Hid (Below V.heap.size V wr) ∧ Hid (RingsP r k)) (fun i _ => nr - (intOf i).toNat)
  case atStart => exact ⟨0, Nat.zero_le _, rfl, Lib.hid (Below.refl _ _), Lib.hid (fun p x hp => by omega)⟩
  case round =>
    obtain ⟨k, hk, rfl, HB, HP⟩ := hrel
    clear d2
    by_cases hlt : k < nr
    · obtain ⟨x, hx⟩ : ∃ x, r.rings[k]? = some x := ⟨_, List.getElem?_eq_getElem (by omega)⟩
      have hB1 := held_trans B0.out HB.out
      obtain ⟨b, off, A, n, c, hR, _, c0, c1, hrow⟩ := (H.out.below hB1).ringAt hx
      simp only at hR
      subst hR
      have hn : n ≤ 400 := by rw [← hrow.len]; exact HL.out.ring x (List.mem_of_getElem? hx)
      have HX := Lib.hid hx
      have hb2 := below_new wr (.cells #[.int .i64 x.1, .slice A n c] 45)
      obtain ⟨w2, hw2⟩ : ∃ w2, w2 = wr.alloc (.cells #[.int .i64 x.1, .slice A n c] 45) := ⟨_, rfl⟩
      rw [← hw2] at hb2
      have E2 := Lib.hid hw2
      have k0 : w2.cell? ⟨wr.heap.size, 0, none⟩ = some (.int .i64 x.1) := by rw [hw2, World.cell?_alloc_at _ _ _ _ rfl]; rfl
      have k1 : w2.cell? ⟨wr.heap.size, 1, none⟩ = some (.slice A n c) := by rw [hw2, World.cell?_alloc_at _ _ _ _ rfl]; rfl
      have B2 := Lib.hid (held_trans HB.out hb2)
      have X2 := X0.out.step B2.out
      have d1 := X2.c1
      have R2 := Lib.hid (hrow.below hb2)
      have HMY := Lib.hid (may_any x.1 A n c x.2 r.size w2 R2.out (by omega))
      have i0 : (0 : Int) ≤ (k : Int) := by omega
      have i1 : (k : Int) < (nr : Int) := by omega
      clear hx hrow hr1 hw2 hb2 X2
      go_wp2_with (rw [← E2.out])
      clear E2
      refine HMY.out.mono ?_
      rintro e w3 ⟨rfl, hb3⟩
      have B3 := Lib.hid (held_trans B2.out hb3)
      have k0' := keepcell hb3 k0
      have k1' := keepcell hb3 k1
      have R3 := Lib.hid (R2.out.below hb3)
      have d4 := (X0.out.step B3.out).c4
      clear hb3 HMY k0 k1 c0 c1 d1
      cases hm : Rp.may (x.1, x.2) r.size
      · obtain rfl : T = false := t_no HT (fun hM => by have := (hM k x (by have := (List.getElem?_eq_some_iff.1 HX.out).1; exact this) HX.out).1; rw [show x = (x.1, x.2) from rfl, hm] at this; cases this)
        have BE := Lib.hid (held_trans B0.out B3.out)
        clear hm
        go_wp2_with fail
        go_ret
        exact ⟨rfl, BE.out⟩
      · have HMB := Lib.hid (show Rp.may x r.size = true from hm)
        have HHS := Lib.hid (has_any r.on (k : Int) w3 HON.out)
        clear hm
        go_wp2_with fail
        refine HHS.out.mono ?_
        rintro e w4 ⟨rfl, hb4⟩
        have B4 := Lib.hid (held_trans B3.out hb4)
        have k0 := keepcell hb4 k0'
        have k1 := keepcell hb4 k1'
        have R4 := Lib.hid (R3.out.below hb4)
        have HAL := Lib.hid (all_any x.1 A n c x.2 w4 R4.out (by omega))
        have hon := has_onP r (k : Int)
        rw [hon]
        clear hb4 HHS k0' k1' d4 hon
        cases ho : Jp.onP r (k : Int)
        · have HOF := Lib.hid ho
          clear ho
          go_wp2_with fail
          refine HAL.out.mono ?_
          rintro e w5 ⟨A5, n5, c5, rfl, hr5, _, hb5⟩
          have B5h := Lib.hid (held_trans B4.out hb5)
          have HL5 := Lib.hid (show (Rp.all x).length = n5 from hr5.len)
          clear hb5 HAL hr5 k0 k1
          by_cases h5 : n5 = 0
          · subst h5
            have HN := Lib.hid (show Rp.all x = [] from List.length_eq_zero_iff.1 HL5.out)
            go_wp2_with fail
            have HP2 := Lib.hid (HP.out.next HX.out HMB.out (.inl HN.out))
            go_roundw
            case rel => exact ⟨k + 1, by omega, by go_num, B5h, HP2⟩
            case measure => simp [intOf]; omega
          · have h5' : (0 : Int) < (n5 : Int) := by omega
            obtain rfl : T = false := t_no HT (fun hM => by
              rcases (hM k x ((List.getElem?_eq_some_iff.1 HX.out).1) HX.out).2 with h | h
              · have := HL5.out; rw [h] at this; simp at this; omega
              · rw [HOF.out] at h; cases h)
            have BE := Lib.hid (held_trans B0.out B5h.out)
            go_wp2_with fail
            go_ret
            exact ⟨rfl, BE.out⟩
        · have HOT := Lib.hid ho
          clear ho HAL
          go_wp2_with fail
          have HP2 := Lib.hid (HP.out.next HX.out HMB.out (.inr HOT.out))
          go_roundw
          case rel => exact ⟨k + 1, by omega, by go_num, B4, HP2⟩
          case measure => simp [intOf]; omega
    · obtain rfl : k = nr := by omega
      obtain rfl : T = true := HT.out.2 (by rw [hr1]; exact HP.out)
      have BE := Lib.hid (held_trans B0.out HB.out)
      go_wp2_with fail
      go_ret
      exact ⟨rfl, BE.out⟩
set_option maxRecDepth 100000 in
set_option maxHeartbeats 2000000 in
theorem runsMay_any {F : Nat → Prop} (d : Ad) (r : Jp.Rn) (T : Bool) (w : World) (HT : Hid (T = true ↔ Jp.May r)) (h : RM F w d r) (hlow : Low r) (hT : Tab w) :
    Calls Tryd.prog 58 #[jv d r] w fun e w' => e = .returned (.bool T) ∧ Below w.heap.size w w' := by
  obtain ⟨A0, nt, ct, R, nr, cr, S, ns, cs⟩ := d
  have H := Lib.hid h
  have HL := Lib.hid hlow
  have HTW := Lib.hid hT
  obtain ⟨hr1, hr2, hr3⟩ := h.nr
  obtain ⟨hs1, hs2, hs3⟩ := h.ns
  have htl := h.tlen
  have ht64 := hlow.tree
  simp only at hr1 hr2 hr3 hs1 hs2 hs3 htl
  obtain ⟨V, hV, hX, hB⟩ := B5.start w (.slice A0 nt ct) (.int .i64 r.size) (.slice R nr cr) (.slice S ns cs) (.int .u64 (r.on : Nat)) 33
  have HTL := Lib.hid htl
  have E := Lib.hid hV
  have X0 := Lib.hid hX
  have B0 := Lib.hid hB
  have HCK := Lib.hid (check_any A0 nt ct r.tree V HTL (by omega) (Lib.hid h.fit) (h.below hB).tree)
  have d0 := hX.c0
  clear hV hX hB h hlow hT
  unfold jv
  go_enter Tryd.func58, Tryd.ntmps58
  go_wp2_with (rw [← E.out])
  clear E
  refine HCK.out.mono ?_
  rintro e w1 ⟨rfl, hb1⟩
  have X1 := Lib.hid (X0.out.step hb1)
  have B1 := Lib.hid (held_trans B0.out hb1)
  clear hb1 HCK d0 X0 B0
  cases hm : Tp.may r.tree
  · obtain rfl : T = false := t_no HT (fun hM => by have := hM.tree; rw [hm] at this; cases this)
    have d1 := X1.out.c1
    clear hm
    simp only [Tp.errno]
    go_wp2_with fail
    go_ret
    exact ⟨rfl, (B1).out⟩
  have HM := Lib.hid hm
  have d1 := X1.out.c1
  clear hm
  simp only [Tp.errno]
  go_wp2_with fail
  refine (isSize_any r.size w1).mono ?_
  rintro e w2 ⟨rfl, rfl⟩
  cases hsz : decide (2 ≤ r.size ∧ r.size ≤ 16)
  · obtain rfl : T = false := t_no HT (fun hM => absurd ⟨hM.low, hM.high⟩ (of_decide_eq_false hsz))
    clear hsz
    go_wp2_with fail
    go_ret
    exact ⟨rfl, (B1).out⟩
  have HSZ := Lib.hid (of_decide_eq_true hsz)
  clear hsz d1
  have q0 := X1.out.c0
  have q2 := X1.out.c2
  have q3 := X1.out.c3
  have HPR := Lib.hid (fun (W : World) (hv : VRow W W.heap.size A0 r.tree) => procs_any A0 nt ct r.tree W HTL (by omega) (by omega) hv)
  have HND := Lib.hid (fun (W : World) (hv : VRow W W.heap.size A0 r.tree) => nodes_any A0 nt ct r.tree W HTL (by omega) (by omega) hv)
  obtain ⟨np, hnp⟩ : ∃ np, np = (Tp.those (levelP 3) r.tree).length := ⟨_, rfl⟩
  obtain ⟨nn, hnn⟩ : ∃ nn, nn = (Tp.those (levelP 1) r.tree).length := ⟨_, rfl⟩
  have HNP := Lib.hid hnp
  have HNN := Lib.hid hnn
  clear hnp hnn
  go_wp2_with fail
  refine wp_region_held_drew (S := fun w' => w'.cell? ⟨w.heap.size, 0, none⟩ = some (.slice A0 nt ct) ∧ w'.cell? ⟨w.heap.size, 2, none⟩ = some (.slice R nr cr) ∧ w'.cell? ⟨w.heap.size, 3, none⟩ = some (.slice S ns cs)) (by kernel_rfl) ⟨q0, q2, q3⟩ (fun hHeld => ?_)
  refine wpAnyH_takesJ (i := 0) (v := (.pointer (some ⟨w.heap.size, 2, none⟩))) (some 13) rfl rfl (by kernel_rfl) (by kernel_rfl) (by kernel_rfl) (fun _ _ _ h => h) (Or.inl ⟨by rfl, (by intro W9 hSw; (try dsimp only at hSw); go_simp; first | done | with_reducible rfl)⟩) (by assumption) ?_
  simp only [Act.put, List.setIfInBounds_toArray]; try simp only [List.set_cons_zero, List.set_cons_succ]
  refine wpAnyH_takesJ (i := 1) (v := (.slice R nr cr)) (some 14) rfl rfl (by kernel_rfl) (by kernel_rfl) (by kernel_rfl) (fun _ _ _ h => h) (Or.inl ⟨by rfl, (by intro W9 hSw; (try dsimp only at hSw); go_simp; first | done | with_reducible rfl)⟩) (by assumption) ?_
  simp only [Act.put, List.setIfInBounds_toArray]; try simp only [List.set_cons_zero, List.set_cons_succ]
  refine wpAnyH_takesJ (i := 2) (v := (.int .i64 (nr : Nat))) (some 15) rfl rfl (by kernel_rfl) (by kernel_rfl) (by kernel_rfl) (fun _ _ _ h => h) (Or.inl ⟨by rfl, (by intro W9 hSw; (try dsimp only at hSw); go_simp; first | done | with_reducible rfl)⟩) (by assumption) ?_
  simp only [Act.put, List.setIfInBounds_toArray]; try simp only [List.set_cons_zero, List.set_cons_succ]
  refine wpAnyH_takesJ (i := 3) (v := (.pointer (some ⟨w.heap.size, 0, none⟩))) (some 16) rfl rfl (by kernel_rfl) (by kernel_rfl) (by kernel_rfl) (fun _ _ _ h => h) (Or.inl ⟨by rfl, (by intro W9 hSw; (try dsimp only at hSw); go_simp; first | done | with_reducible rfl)⟩) (by assumption) ?_
  simp only [Act.put, List.setIfInBounds_toArray]; try simp only [List.set_cons_zero, List.set_cons_succ]
  refine wpAnyH_takesJ (i := 4) (v := (.slice A0 nt ct)) (some 17) rfl rfl (by kernel_rfl) (by kernel_rfl) (by kernel_rfl) (fun _ _ _ h => h) (Or.inl ⟨by rfl, (by intro W9 hSw; (try dsimp only at hSw); go_simp; first | done | with_reducible rfl)⟩) (by assumption) ?_
  simp only [Act.put, List.setIfInBounds_toArray]; try simp only [List.set_cons_zero, List.set_cons_succ]
  refine wpAnyH_ready (rs := [5]) (by kernel_rfl) (by simp) ?_
  refine AllReadyH.cons rfl (fun K hK => ?_) AllReadyH.nil
  go_simp
  go_at_call 51
  refine (HPR.out _ (by exact (H.out.below B1.out).drew.tree)).mono ?_
  rintro e w3 hmade
  obtain ⟨A3, c3, rfl, hI3, hb3⟩ := hmade
  rw [← HNP.out]
  have hb3' := below_of_drew hb3
  have B3 := Lib.hid (held_trans B1.out hb3')
  have X3 := Lib.hid (X1.out.step hb3')
  refine hK.out _ _ (by exact ⟨keepcell hb3' q0, keepcell hb3' q2, keepcell hb3' q3⟩) (fun hHeld => ?_)
  clear hK K hb3 hb3' hI3 q0 q2 q3 B1 X1 HPR
  try dsimp only
  have HPL := Lib.hid (show (Dp.procs r.tree).length = np from HNP.out.symm)
  have HNL := Lib.hid (show (Dp.nodes r.tree).length = nn from HNN.out.symm)
  refine wpAnyH_takesJ (i := 6) (v := (.int .i64 (np : Nat))) (some 19) rfl rfl (by kernel_rfl) (by kernel_rfl) (by kernel_rfl) (fun _ _ _ h => h) (Or.inl ⟨by rfl, (by intro W9 hSw; (try dsimp only at hSw); go_simp; first | done | with_reducible rfl)⟩) (by assumption) ?_
  simp only [Act.put, List.setIfInBounds_toArray]; try simp only [List.set_cons_zero, List.set_cons_succ]
  by_cases t1 : ¬ (nr = np)
  · have t1' : ((nr : Int) == (np : Int)) = false := by rw [beq_eq_false_iff_ne]; omega
    have t1'' : ¬ ((nr : Int) = (np : Int)) := by omega
    obtain rfl : T = false := t_no HT (fun hM => t1 (by have := hM.rings; rw [hr1, HPL.out] at this; exact this))
    refine wpAnyH_takesJ (i := 7) (v := (.bool true)) (some 20) rfl rfl (by kernel_rfl) (by kernel_rfl) (by kernel_rfl) (fun _ _ _ h => h) (Or.inl ⟨by rfl, (by intro W9 hSw; (try dsimp only at hSw); go_simp; first | done | with_reducible rfl)⟩) (by assumption) ?_
    simp only [Act.put, List.setIfInBounds_toArray]; try simp only [List.set_cons_zero, List.set_cons_succ]
    refine wpAnyH_takesJ (i := 8) (v := (.bool true)) (some 21) rfl rfl (by kernel_rfl) (by kernel_rfl) (by kernel_rfl) (fun _ _ _ h => h) (Or.inl ⟨by rfl, (by intro W9 hSw; (try dsimp only at hSw); go_simp; first | done | with_reducible rfl)⟩) (by assumption) ?_
    simp only [Act.put, List.setIfInBounds_toArray]; try simp only [List.set_cons_zero, List.set_cons_succ]
    refine wpAnyH_takesJ (i := 9) (v := undef) (some 22) rfl rfl (by kernel_rfl) (by kernel_rfl) (by kernel_rfl) (fun _ _ _ h => h) (Or.inr ⟨by rfl, rfl⟩) (by assumption) ?_
    simp only [Act.put, List.setIfInBounds_toArray]; try simp only [List.set_cons_zero, List.set_cons_succ]
    refine wpAnyH_takesJ (i := 10) (v := undef) (some 23) rfl rfl (by kernel_rfl) (by kernel_rfl) (by kernel_rfl) (fun _ _ _ h => h) (Or.inr ⟨by rfl, rfl⟩) (by assumption) ?_
    simp only [Act.put, List.setIfInBounds_toArray]; try simp only [List.set_cons_zero, List.set_cons_succ]
    refine wpAnyH_takesJ (i := 11) (v := undef) (some 24) rfl rfl (by kernel_rfl) (by kernel_rfl) (by kernel_rfl) (fun _ _ _ h => h) (Or.inr ⟨by rfl, rfl⟩) (by assumption) ?_
    simp only [Act.put, List.setIfInBounds_toArray]; try simp only [List.set_cons_zero, List.set_cons_succ]
    refine wpAnyH_takesJ (i := 12) (v := undef) (some 25) rfl rfl (by kernel_rfl) (by kernel_rfl) (by kernel_rfl) (fun _ _ _ h => h) (Or.inr ⟨by rfl, rfl⟩) (by assumption) ?_
    simp only [Act.put, List.setIfInBounds_toArray]; try simp only [List.set_cons_zero, List.set_cons_succ]
    refine wpAnyH_takesJ (i := 13) (v := undef) (some 26) rfl rfl (by kernel_rfl) (by kernel_rfl) (by kernel_rfl) (fun _ _ _ h => h) (Or.inr ⟨by rfl, rfl⟩) (by assumption) ?_
    simp only [Act.put, List.setIfInBounds_toArray]; try simp only [List.set_cons_zero, List.set_cons_succ]
    refine wpAnyH_takesJ (i := 14) (v := undef) (some 27) rfl rfl (by kernel_rfl) (by kernel_rfl) (by kernel_rfl) (fun _ _ _ h => h) (Or.inr ⟨by rfl, rfl⟩) (by assumption) ?_
    simp only [Act.put, List.setIfInBounds_toArray]; try simp only [List.set_cons_zero, List.set_cons_succ]
    refine wpAnyH_takesJ (i := 15) (v := undef) (some 28) rfl rfl (by kernel_rfl) (by kernel_rfl) (by kernel_rfl) (fun _ _ _ h => h) (Or.inr ⟨by rfl, rfl⟩) (by assumption) ?_
    simp only [Act.put, List.setIfInBounds_toArray]; try simp only [List.set_cons_zero, List.set_cons_succ]
    refine wpAnyH_takesJ (i := 16) (v := undef) (some 29) rfl rfl (by kernel_rfl) (by kernel_rfl) (by kernel_rfl) (fun _ _ _ h => h) (Or.inr ⟨by rfl, rfl⟩) (by assumption) ?_
    simp only [Act.put, List.setIfInBounds_toArray]; try simp only [List.set_cons_zero, List.set_cons_succ]
    refine wpAnyH_takesJ (i := 17) (v := (.bool true)) (some 30) rfl rfl (by kernel_rfl) (by kernel_rfl) (by kernel_rfl) (fun _ _ _ h => h) (Or.inl ⟨by rfl, (by intro W9 hSw; (try dsimp only at hSw); go_simp; first | done | with_reducible rfl)⟩) (by assumption) ?_
    simp only [Act.put, List.setIfInBounds_toArray]; try simp only [List.set_cons_zero, List.set_cons_succ]
    refine wpAnyH_done (by kernel_rfl) ?_ _
    go_wp2_with fail
    go_ret
    exact ⟨rfl, (B3).out⟩
  obtain rfl := Classical.not_not.1 t1
  clear t1
  refine wpAnyH_takesJ (i := 7) (v := (.bool false)) (some 20) rfl rfl (by kernel_rfl) (by kernel_rfl) (by kernel_rfl) (fun _ _ _ h => h) (Or.inl ⟨by rfl, (by intro W9 hSw; (try dsimp only at hSw); go_simp; first | done | with_reducible rfl)⟩) (by assumption) ?_
  simp only [Act.put, List.setIfInBounds_toArray]; try simp only [List.set_cons_zero, List.set_cons_succ]
  refine wpAnyH_takesJ (i := 8) (v := (.bool false)) (some 21) rfl rfl (by kernel_rfl) (by kernel_rfl) (by kernel_rfl) (fun _ _ _ h => h) (Or.inl ⟨by rfl, (by intro W9 hSw; (try dsimp only at hSw); go_simp; first | done | with_reducible rfl)⟩) (by assumption) ?_
  simp only [Act.put, List.setIfInBounds_toArray]; try simp only [List.set_cons_zero, List.set_cons_succ]
  refine wpAnyH_takesJ (i := 9) (v := (.pointer (some ⟨w.heap.size, 3, none⟩))) (some 22) rfl rfl (by kernel_rfl) (by kernel_rfl) (by kernel_rfl) (fun _ _ _ h => h) (Or.inl ⟨by rfl, (by intro W9 hSw; (try dsimp only at hSw); go_simp; first | done | with_reducible rfl)⟩) (by assumption) ?_
  simp only [Act.put, List.setIfInBounds_toArray]; try simp only [List.set_cons_zero, List.set_cons_succ]
  refine wpAnyH_takesJ (i := 10) (v := (.slice S ns cs)) (some 23) rfl rfl (by kernel_rfl) (by kernel_rfl) (by kernel_rfl) (fun _ _ _ h => h) (Or.inl ⟨by rfl, (by intro W9 hSw; (try dsimp only at hSw); go_simp; first | done | with_reducible rfl)⟩) (by assumption) ?_
  simp only [Act.put, List.setIfInBounds_toArray]; try simp only [List.set_cons_zero, List.set_cons_succ]
  refine wpAnyH_takesJ (i := 11) (v := (.int .i64 (ns : Nat))) (some 24) rfl rfl (by kernel_rfl) (by kernel_rfl) (by kernel_rfl) (fun _ _ _ h => h) (Or.inl ⟨by rfl, (by intro W9 hSw; (try dsimp only at hSw); go_simp; first | done | with_reducible rfl)⟩) (by assumption) ?_
  simp only [Act.put, List.setIfInBounds_toArray]; try simp only [List.set_cons_zero, List.set_cons_succ]
  refine wpAnyH_takesJ (i := 12) (v := (.pointer (some ⟨w.heap.size, 0, none⟩))) (some 25) rfl rfl (by kernel_rfl) (by kernel_rfl) (by kernel_rfl) (fun _ _ _ h => h) (Or.inl ⟨by rfl, (by intro W9 hSw; (try dsimp only at hSw); go_simp; first | done | with_reducible rfl)⟩) (by assumption) ?_
  simp only [Act.put, List.setIfInBounds_toArray]; try simp only [List.set_cons_zero, List.set_cons_succ]
  refine wpAnyH_takesJ (i := 13) (v := (.slice A0 nt ct)) (some 26) rfl rfl (by kernel_rfl) (by kernel_rfl) (by kernel_rfl) (fun _ _ _ h => h) (Or.inl ⟨by rfl, (by intro W9 hSw; (try dsimp only at hSw); go_simp; first | done | with_reducible rfl)⟩) (by assumption) ?_
  simp only [Act.put, List.setIfInBounds_toArray]; try simp only [List.set_cons_zero, List.set_cons_succ]
  refine wpAnyH_ready (rs := [14]) (by kernel_rfl) (by simp) ?_
  refine AllReadyH.cons rfl (fun K hK => ?_) AllReadyH.nil
  go_simp
  go_at_call 52
  refine (HND.out _ (by exact (H.out.below B3.out).tree)).mono ?_
  rintro e w4 hmade
  obtain ⟨A4, c4, rfl, hI4, hb4⟩ := hmade
  rw [← HNN.out]
  have B4 := Lib.hid (held_trans B3.out hb4)
  have X4 := Lib.hid (X3.out.step hb4)
  refine hK.out _ _ (by exact ⟨X4.out.c0, X4.out.c2, X4.out.c3⟩) (fun hHeld => ?_)
  clear hK K hb4 hI4 B3 X3 HND
  try dsimp only
  refine wpAnyH_takesJ (i := 15) (v := (.int .i64 (nn : Nat))) (some 28) rfl rfl (by kernel_rfl) (by kernel_rfl) (by kernel_rfl) (fun _ _ _ h => h) (Or.inl ⟨by rfl, (by intro W9 hSw; (try dsimp only at hSw); go_simp; first | done | with_reducible rfl)⟩) (by assumption) ?_
  simp only [Act.put, List.setIfInBounds_toArray]; try simp only [List.set_cons_zero, List.set_cons_succ]
  by_cases t2 : ¬ (ns = nn)
  · have t2' : ((ns : Int) == (nn : Int)) = false := by rw [beq_eq_false_iff_ne]; omega
    have t2'' : ¬ ((ns : Int) = (nn : Int)) := by omega
    obtain rfl : T = false := t_no HT (fun hM => t2 (by have := hM.rows; rw [hs1, HNL.out] at this; exact this))
    refine wpAnyH_takesJ (i := 16) (v := (.bool true)) (some 29) rfl rfl (by kernel_rfl) (by kernel_rfl) (by kernel_rfl) (fun _ _ _ h => h) (Or.inl ⟨by rfl, (by intro W9 hSw; (try dsimp only at hSw); go_simp; first | done | with_reducible rfl)⟩) (by assumption) ?_
    simp only [Act.put, List.setIfInBounds_toArray]; try simp only [List.set_cons_zero, List.set_cons_succ]
    refine wpAnyH_takesJ (i := 17) (v := (.bool true)) (some 30) rfl rfl (by kernel_rfl) (by kernel_rfl) (by kernel_rfl) (fun _ _ _ h => h) (Or.inl ⟨by rfl, (by intro W9 hSw; (try dsimp only at hSw); go_simp; first | done | with_reducible rfl)⟩) (by assumption) ?_
    simp only [Act.put, List.setIfInBounds_toArray]; try simp only [List.set_cons_zero, List.set_cons_succ]
    refine wpAnyH_done (by kernel_rfl) ?_ _
    go_wp2_with fail
    go_ret
    exact ⟨rfl, (B4).out⟩
  obtain rfl := Classical.not_not.1 t2
  clear t2
  refine wpAnyH_takesJ (i := 16) (v := (.bool false)) (some 29) rfl rfl (by kernel_rfl) (by kernel_rfl) (by kernel_rfl) (fun _ _ _ h => h) (Or.inl ⟨by rfl, (by intro W9 hSw; (try dsimp only at hSw); go_simp; first | done | with_reducible rfl)⟩) (by assumption) ?_
  simp only [Act.put, List.setIfInBounds_toArray]; try simp only [List.set_cons_zero, List.set_cons_succ]
  refine wpAnyH_takesJ (i := 17) (v := (.bool false)) (some 30) rfl rfl (by kernel_rfl) (by kernel_rfl) (by kernel_rfl) (fun _ _ _ h => h) (Or.inl ⟨by rfl, (by intro W9 hSw; (try dsimp only at hSw); go_simp; first | done | with_reducible rfl)⟩) (by assumption) ?_
  simp only [Act.put, List.setIfInBounds_toArray]; try simp only [List.set_cons_zero, List.set_cons_succ]
  refine wpAnyH_done (by kernel_rfl) ?_ _
  have q0 := X4.out.c0
  have q1 := X4.out.c1
  have q2 := X4.out.c2
  have q3 := X4.out.c3
  have q4 := X4.out.c4
  have HRR := Lib.hid (show r.rings.length = (Dp.procs r.tree).length by rw [HPL.out]; exact hr1)
  have HSS := Lib.hid (show r.rows.length = (Dp.nodes r.tree).length by rw [HNL.out]; exact hs1)
  have hOM := fun T HT => onMay_any ⟨A0, nt, ct, R, nr, cr, S, ns, cs⟩ r T w4 HT (H.out.below B4.out) (HTW.out.step B4.out)
  unfold jv at hOM
  simp only at hOM
  have OM := Lib.hid hOM
  clear hOM
  go_wp2_with fail
  by_cases g1 : ¬ (Zp.mem r.on ≠ [] ∧ ∀ z ∈ Zp.mem r.on, z < (r.rings.length : Int))
  · refine (OM.out false (Lib.hid (by simp only [g1, Bool.false_eq_true]))).mono ?_
    rintro e w5 ⟨rfl, hb5⟩
    have B5h := Lib.hid (held_trans B4.out hb5)
    obtain rfl : T = false := t_no HT (fun hM => g1 ⟨hM.some, hM.few⟩)
    clear g1
    go_wp2_with fail
    go_ret
    exact ⟨rfl, (B5h).out⟩
  have g1 := Classical.not_not.1 g1
  refine (OM.out true (Lib.hid ⟨fun _ => g1, fun _ => rfl⟩)).mono ?_
  rintro e w5 ⟨rfl, hb5⟩
  have B5h := Lib.hid (held_trans B4.out hb5)
  have X5 := Lib.hid (X4.out.step hb5)
  have HG1 := Lib.hid g1
  have hRM := fun T HT => ringsMay_any ⟨A0, nt, ct, R, nr, cr, S, ns, cs⟩ r T w5 HT (H.out.below B5h.out) HL.out
  unfold jv at hRM
  simp only at hRM
  have RMY := Lib.hid hRM
  have p0 := X5.out.c0
  have p1 := X5.out.c1
  have p2 := X5.out.c2
  have p3 := X5.out.c3
  have p4 := X5.out.c4
  clear hb5 g1 OM q0 q1 q2 q3 q4 hRM X4 B4
  go_wp2_with fail
  by_cases g2 : ¬ (RingsP r r.rings.length)
  · refine (RMY.out false (Lib.hid (by simp [g2]))).mono ?_
    rintro e w6 ⟨rfl, hb6⟩
    have B6 := Lib.hid (held_trans B5h.out hb6)
    obtain rfl : T = false := t_no HT (fun hM => g2 (fun p x _ hx => hM.ring p x hx))
    clear g2
    go_wp2_with fail
    go_ret
    exact ⟨rfl, (B6).out⟩
  have g2 := Classical.not_not.1 g2
  refine (RMY.out true (Lib.hid (by simp [g2]))).mono ?_
  rintro e w6 ⟨rfl, hb6⟩
  have B6 := Lib.hid (held_trans B5h.out hb6)
  have X6 := Lib.hid (X5.out.step hb6)
  have HG2 := Lib.hid g2
  have hAL := runsAll_any ⟨A0, nt, ct, R, nr, cr, S, ns, cs⟩ r w6 (H.out.below B6.out) HL.out
  unfold jv at hAL
  simp only at hAL
  have ALL := Lib.hid hAL
  have q0 := X6.out.c0
  have q1 := X6.out.c1
  have q2 := X6.out.c2
  have q3 := X6.out.c3
  have q4 := X6.out.c4
  clear hb6 g2 RMY p0 p1 p2 p3 p4 hAL X5 B5h
  go_wp2_with fail
  refine ALL.out.mono ?_
  rintro e w7 ⟨A7, n7, c7, rfl, hr7, _, hb7⟩
  have B7 := Lib.hid (held_trans B6.out hb7)
  have HEO := Lib.hid (eachOnce_any A7 n7 c7 (Jp.all r) w7 hr7 (by have := all_le HL.out; have := hr7.len; omega) HL.out.fit)
  clear hb7 hr7 ALL q0 q1 q2 q3 q4 X6
  go_wp2_with fail
  refine HEO.out.mono ?_
  rintro e w8 ⟨rfl, hb8⟩
  have B8 := Lib.hid (held_trans B7.out hb8)
  clear hb8 HEO
  cases ho : decide (Rp.Once (Jp.all r))
  · obtain rfl : T = false := t_no HT (fun hM => absurd hM.once (of_decide_eq_false ho))
    clear ho
    go_wp2_with fail
    go_ret
    exact ⟨rfl, (B8).out⟩
  · obtain rfl : T = true := HT.out.2 ⟨HM.out, HSZ.out.1, HSZ.out.2, HRR.out, HSS.out, HG1.out.1, HG1.out.2, fun p x hx => HG2.out p x (List.getElem?_eq_some_iff.1 hx).1 hx, of_decide_eq_true ho⟩
    clear ho
    go_wp2_with fail
    go_ret
    exact ⟨rfl, (B8).out⟩
end Go.Proofs.YtcoccegmkcdeiaaDoor

