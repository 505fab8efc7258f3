/- StealVictims: who may steal from farther away may steal from all that it may nearer, and those are first; nobody from itself, nor from whom there is nothing to take: the call answers true and changes nothing that was there; for every input. (Written by wip/gen/gen_wlaws.py: change that.) -/
import Derived.Test.YtdohnhdjlhaaaaaGreatDoorWShown
import Derived.Test.YtdohnhdjlhaaaaaGreatDoorM7
import Derived.Test.YtdohnhdjlhaaaaaGreatDoorWRefVict
import Derived.Test.YtdohnhdjlhaaaaaGreatDoorJReal
import Derived.Test.YtdohnhdjlhaaaaaGreatDoorJMade
import Derived.Test.YtdohnhdjlhaaaaaGreatDoorJFew
import Derived.Test.YtdohnhdjlhaaaaaGreatDoorJFrame
import Derived.Test.YtdohnhdjlhaaaaaGreatDoorM3
import Derived.Test.YtdohnhdjlhaaaaaGreatDoorM1
namespace Go.Proofs.YtdohnhdjlhaaaaaGreatDoor.stealVictims
open Go.ChangeShapes Go.WideShapes Go.ChangeAt Go.RowKit
set_option linter.unusedVariables false

noncomputable def told (r : Jp.Rn) (p : Int) (j : Nat) : List Int := if j = 0 then [] else Jp.victims r p ((j : Int) - 1)
theorem told_prefix (r : Jp.Rn) (p : Int) (j : Nat) : told r p j <+: Jp.victims r p (j : Int) := by
  unfold told
  split
  · exact List.nil_prefix
  · exact Jp.victims_prefix (by omega)
theorem told_next (r : Jp.Rn) (p : Int) (j : Nat) : told r p (j + 1) = Jp.victims r p (j : Int) := by
  unfold told
  rw [if_neg (by omega), show (((j + 1 : Nat) : Int) - 1) = (j : Int) by omega]
structure NM (w : World) (X : Nat) (r : Jp.Rn) (d : Ad) (wr : World) : Prop where
  box : B5 wr X (.slice d.T d.nt d.ct) (.int .i64 r.size) (.slice d.R d.nr d.cr) (.slice d.S d.ns d.cs) (.int .u64 (r.on : Nat))
  mem : RM (fun b => b < X) wr d r
  below : Below w.heap.size w wr
set_option maxRecDepth 100000 in
set_option maxHeartbeats 4000000 in
theorem walk (d : Ad) (r : Jp.Rn) (p : Int) (w : World) (h : RMI (fun b => b < w.heap.size) w d r) (hp : In64 p) (hT : Tab w) :
    Calls Tryz.prog 8 #[jv d r, .int .i64 p] w fun e w' => e = .returned (.bool true) ∧ Below w.heap.size w w' := by
  have HIN := Lib.hid h.2
  have HR := Lib.hid h.1
  have HTW := Lib.hid hT
  obtain ⟨A0, nt, ct, R, nr, cr, S, ns, cs⟩ := d
  obtain ⟨V, hV, hX, hB⟩ := B5.start w (.slice A0 nt ct) (.int .i64 r.size) (.slice R nr cr) (.slice S ns cs) (.int .u64 (r.on : Nat)) 27
  have E := Lib.hid hV
  have X0 := Lib.hid hX
  have B0 := Lib.hid hB
  have SH := Lib.hid (wshown_any V (hT.step hB))
  clear h hT hV hX hB
  unfold jv
  go_enter Tryz.func8, Tryz.ntmps8
  go_wp2_with (rw [← E.out])
  clear E
  refine SH.out.mono ?_
  rintro e w1 ⟨rfl, hb1⟩
  have X1 := Lib.hid (X0.out.step hb1)
  have B1 := Lib.hid (held_trans B0.out hb1)
  have p0 := X1.out.c0
  have p1 := X1.out.c1
  have p2 := X1.out.c2
  have p3 := X1.out.c3
  have p4 := X1.out.c4
  have hFW := fun T HT => few_any ⟨A0, nt, ct, R, nr, cr, S, ns, cs⟩ r T w1 HT (HR.out.below B1.out) HIN.out
  unfold jv at hFW
  simp only at hFW
  have FW := Lib.hid hFW
  clear hb1 SH X0 B0 hFW
  go_wp2_with fail
  by_cases hfew : ¬ FewP r
  · refine (FW.out false (Lib.hid (by simp [hfew]))).mono ?_
    rintro e w2 ⟨rfl, hb2⟩
    have BE := Lib.hid (held_trans B1.out hb2)
    go_wp2_with fail
    go_ret
    exact ⟨rfl, BE.out⟩
  have hfew := Classical.not_not.1 hfew
  have HFEW := Lib.hid hfew
  refine (FW.out true (Lib.hid (by simp [hfew]))).mono ?_
  rintro e w2a ⟨rfl, hb2⟩
  have X2a := Lib.hid (X1.out.step hb2)
  have B2a := Lib.hid (held_trans B1.out hb2)
  have p0 := X2a.out.c0
  have p1 := X2a.out.c1
  have p2 := X2a.out.c2
  have p3 := X2a.out.c3
  have p4 := X2a.out.c4
  obtain ⟨Tb, hTb⟩ : ∃ Tb : Bool, (Tb = true ↔ Jp.May r) := by
    by_cases h : Jp.May r
    · exact ⟨true, by simp [h]⟩
    · exact ⟨false, by simp [h]⟩
  have HTB := Lib.hid hTb
  have hMY := jrefMay_any ⟨A0, nt, ct, R, nr, cr, S, ns, cs⟩ r Tb w2a HTB (HR.out.below B2a.out) HFEW.out.low
  unfold jv at hMY
  simp only at hMY
  have MY := Lib.hid hMY
  clear hb2 FW X1 B1 hfew hMY hTb
  go_wp2_with fail
  refine MY.out.mono ?_
  rintro e w2 ⟨rfl, hb2⟩
  have X2 := Lib.hid (X2a.out.step hb2)
  have B2 := Lib.hid (held_trans B2a.out hb2)
  have p0 := X2.out.c0
  have p1 := X2.out.c1
  have p2 := X2.out.c2
  have p3 := X2.out.c3
  have p4 := X2.out.c4
  clear hb2 MY X2a B2a
  cases Tb
  · have BE := B2
    go_wp2_with fail
    go_ret
    exact ⟨rfl, BE.out⟩
  have HMAY := Lib.hid (HTB.out.1 rfl)
  clear HTB
  have hMD := jmade_any ⟨A0, nt, ct, R, nr, cr, S, ns, cs⟩ r w2 (HR.out.below B2.out) (fun b hb => Nat.lt_of_lt_of_le hb B2.out.size) HFEW.out.low
  unfold jv at hMD
  simp only at hMD
  have MD := Lib.hid hMD
  clear hMD
  go_wp2_with fail
  refine MD.out.mono ?_
  rintro e w3 ⟨⟨A1, nt1, ct1, R1, nr1, cr1, S1, ns1, cs1⟩, rfl, hm3, hb3⟩
  unfold jv
  simp only
  have hbn := below_new w3 (.cells #[.slice A1 nt1 ct1, .int .i64 r.size, .slice R1 nr1 cr1, .slice S1 ns1 cs1, .int .u64 (r.on : Nat)] 33)
  have hY := B5.new w3 (.slice A1 nt1 ct1) (.int .i64 r.size) (.slice R1 nr1 cr1) (.slice S1 ns1 cs1) (.int .u64 (r.on : Nat)) 33
  obtain ⟨V4, hV4⟩ : ∃ V4, V4 = w3.alloc (.cells #[.slice A1 nt1 ct1, .int .i64 r.size, .slice R1 nr1 cr1, .slice S1 ns1 cs1, .int .u64 (r.on : Nat)] 33) := ⟨_, rfl⟩
  rw [← hV4] at hbn hY
  have E4 := Lib.hid hV4
  have B4 := Lib.hid (held_trans (held_trans B2.out hb3) hbn)
  have P4 := Lib.hid ((X2.out.step hb3).step hbn)
  have Y4 := Lib.hid hY
  have M4 := Lib.hid (show RM (fun b => b < w3.heap.size) V4 ⟨A1, nt1, ct1, R1, nr1, cr1, S1, ns1, cs1⟩ r from (hm3.bound.mono (fun b hb => hb.2)).below hbn)
  have HX4 := Lib.hid (show w3.heap.size < V4.heap.size from hY.lt)
  have HWX := Lib.hid (show w.heap.size ≤ w3.heap.size from (held_trans B2.out hb3).size)
  clear hm3 hb3 hbn hY hV4 MD X2 B2 p0 p1 p2 p3 p4
  have YX4 := Y4
  have MX4 := M4
  have BW4 := B4
  have HLW := Lib.hid HFEW.out.low
  clear P4 Y4 M4 B4
  go_wp2_with (rw [← E4.out])
  clear E4
  go_loopw [7, 8] (fun la f wr => ∃ j : Nat, j ≤ 5 ∧ f = .int .i64 j ∧ ∃ (A : Option Addr) (n c : Nat), la = .slice A n c ∧ Hid (Row wr A n c (told r p j)) ∧ Hid (NM w w3.heap.size r ⟨A1, nt1, ct1, R1, nr1, cr1, S1, ns1, cs1⟩ wr)) (fun _ f _ => 5 - (intOf f).toNat)
  case atStart => exact ⟨0, by omega, rfl, none, 0, 0, rfl, Lib.hid (Row.nothing _), Lib.hid ⟨YX4.out, MX4.out, BW4.out⟩⟩
  case round =>
    clear YX4 MX4 BW4
    obtain ⟨j, hj, rfl, AP, nP, cP, rfl, RP, G⟩ := hrel
    obtain ⟨V4, hVr⟩ : ∃ V, V = wr := ⟨_, rfl⟩
    rw [← hVr] at G RP
    have HVR := Lib.hid hVr
    have YX4 := Lib.hid G.out.box
    have MX4 := Lib.hid G.out.mem
    have BW4 := Lib.hid G.out.below
    have RP4 := RP
    clear G hVr RP
    by_cases hlt : j < 5
    · skip
      have l1 : (j : Int) ≤ 4 := by omega
      have wk : IntKind.i64.wrap ((j : Int) + 1) = ((j + 1 : Nat) : Int) := by
        rw [show ((j + 1 : Nat) : Int) = (j : Int) + 1 by omega]
        exact IntWalk.i64_in _ (by omega)
      obtain ⟨vs, hvs⟩ : ∃ vs, vs = Jp.victims r p (j : Int) := ⟨_, rfl⟩
      have HVS := Lib.hid hvs
      have HPF := Lib.hid (show told r p j <+: vs from by rw [hvs]; exact told_prefix r p j)
      clear hvs
      have hcc := stealVict_any ⟨A1, nt1, ct1, R1, nr1, cr1, S1, ns1, cs1⟩ r p (j : Int) V4 MX4.out (fun b hb => Nat.lt_trans hb YX4.out.lt) HLW.out hp ⟨by omega, by omega⟩ (HTW.out.step BW4.out)
      rw [← HVS.out] at hcc
      unfold jv at hcc
      simp only at hcc
      have C5 := Lib.hid hcc
      clear hcc
      have t0 := YX4.out.c0
      have t1 := YX4.out.c1
      have t2 := YX4.out.c2
      have t3 := YX4.out.c3
      have t4 := YX4.out.c4
      go_wp2_with (rw [← HVR.out])
      clear HVR
      refine C5.out.mono ?_
      rintro e V5 ⟨Av, L, cv, rfl, hrv, _, hb⟩
      have YX5 := Lib.hid (YX4.out.step hb)
      have MX5 := Lib.hid (MX4.out.below hb)
      have RP5 := Lib.hid (RP4.out.below hb)
      have BW5 := Lib.hid (held_trans BW4.out hb)
      clear BW4 YX4 MX4 RP4
      have RV5 := Lib.hid hrv
      clear hb hrv C5 t0 t1 t2 t3 t4
      have hle : nP ≤ L := by rw [← RP5.out.len, ← RV5.out.len]; exact HPF.out.length_le
      have l2 : decide (L < nP) = false := by rw [decide_eq_false_iff_not]; omega
      have l3 : (nP : Int) ≤ (cv : Int) := by have := RV5.out.cap; omega
      have l4 : (0 : Int) ≤ (nP : Int) := by omega
      have hcv := RV5.out.cap
      have IN := Lib.hid (wints_row Av AP nP nP cv cP _ _ V5 (by obtain ⟨t, ht⟩ := HPF.out; rw [← ht, ← RP5.out.len]; exact List.take_left' rfl) (RV5.out.take nP hle) RP5.out)
      go_wp2_with fail
      refine IN.out.mono ?_
      rintro e V6 ⟨rfl, hb⟩
      have YX6 := Lib.hid (YX5.out.step hb)
      have MX6 := Lib.hid (MX5.out.below hb)
      have RP6 := Lib.hid (RP5.out.below hb)
      have RV6 := Lib.hid (RV5.out.below hb)
      have BW6 := Lib.hid (held_trans BW5.out hb)
      clear BW5 YX5 MX5 RP5 RV5
      clear hb IN RP6 l2 l3 l4 hle
      have hLm := RV6.out.most
      go_wp2_with fail
      go_loopw [10] (fun ii wr => ∃ i : Nat, i ≤ L ∧ ii = .int .i64 i ∧ Hid (Row wr Av L cv vs) ∧ Hid (NM w w3.heap.size r ⟨A1, nt1, ct1, R1, nr1, cr1, S1, ns1, cs1⟩ wr)) (fun ii _ => L - (intOf ii).toNat)
      case atStart => exact ⟨0, by omega, rfl, RV6, Lib.hid ⟨YX6.out, MX6.out, BW6.out⟩⟩
      case round =>
        clear YX6 MX6 BW6 RV6
        obtain ⟨i, hi, rfl, RI, G⟩ := hrel
        obtain ⟨V6, hVr⟩ : ∃ V, V = wr := ⟨_, rfl⟩
        rw [← hVr] at G RI
        have HVR := Lib.hid hVr
        have YX6 := Lib.hid G.out.box
        have MX6 := Lib.hid G.out.mem
        have BW6 := Lib.hid G.out.below
        clear G hVr
        by_cases hil : i < L
        · skip
          have i1 : (i : Int) < (L : Int) := by omega
          have i2 : (0 : Int) ≤ (i : Int) := by omega
          have wi : IntKind.i64.wrap ((i : Int) + 1) = ((i + 1 : Nat) : Int) := by
            rw [show ((i + 1 : Nat) : Int) = (i : Int) + 1 by omega]
            exact IntWalk.i64_in _ (by omega)
          obtain ⟨q, hq⟩ : ∃ q, vs[i]? = some q := ⟨_, List.getElem?_eq_getElem (by have := RI.out.len; omega)⟩
          obtain ⟨_, _, ⟨m, rfl, hm⟩, hmp, hma, hmf, _⟩ := Jp.victim_at (r := r) (p := p) (far := (j : Int)) (q := q) (by rw [← HVS.out]; exact List.mem_of_getElem? hq)
          obtain ⟨⟨x, tl⟩, hx⟩ : ∃ y, r.rings[m]? = some y := ⟨_, List.getElem?_eq_getElem hm⟩
          rw [show ((m : Int)).toNat = m from rfl, Jp.ringAt_some hx] at hma
          obtain ⟨bV, oV, hAv, _, hcV⟩ := RI.out.cells (by omega)
          have CL := Lib.hid (hcV i (m : Int) hq)
          obtain ⟨xb, xo, Ax, na, ca, eX, _, x0, x1, hxr⟩ := MX6.out.ringAt hx
          simp only at eX hxr x0
          have CX := Lib.hid x0
          have CY := Lib.hid x1
          have hnr := MX6.out.nr
          simp only at hnr
          have f1 : ((m : Int) == p) = false := by rw [beq_eq_false_iff_ne]; exact hmp
          have f2 : ¬ (m : Int) < 0 := by omega
          have f3 : ¬ (nr1 : Int) ≤ (m : Int) := by omega
          have f4 : (m : Int) < (nr1 : Int) := by omega
          have f7 : decide (nr1 ≤ m) = false := by rw [decide_eq_false_iff_not]; omega
          have f8 : m < nr1 := by omega
          have f5 : (0 : Int) ≤ (m : Int) := by omega
          have f6 : ¬ (j : Int) < Dp.far r.tree p (m : Int) := by omega
          have HMA := Lib.hid hma
          have hna : na ≤ 100000 := by have h1 := hxr.len; have h2 := HLW.out.ring (x, tl) (List.mem_of_getElem? hx); simp only at h2; omega
          have HXR := Lib.hid hxr
          have AL := Lib.hid (fun W (hb : Below V6.heap.size V6 W) => all_any x Ax na ca tl W (HXR.out.below hb) hna)
          have FA := Lib.hid (fun W (hb : Below V6.heap.size V6 W) => far_any A1 nt1 ct1 r.tree p (m : Int) W (Lib.hid MX6.out.tlen) MX6.out.tmax (Lib.hid MX6.out.fit) (MX6.out.below hb).tree)
          clear hcV hq hm hmp hma hmf hx x0 x1 hxr hnr
          subst hAv eX
          go_wp2_with (rw [← HVR.out])
          refine wp_region_held_drew (S := fun w' => B5 w' w3.heap.size (.slice A1 nt1 ct1) (.int .i64 r.size) (.slice (some ⟨xb, xo, none⟩) nr1 cr1) (.slice S1 ns1 cs1) (.int .u64 (r.on : Nat)) ∧ w'.cell? ⟨bV, oV + i, none⟩ = some (.int .i64 (m : Nat)) ∧ w'.cell? ⟨xb, xo + m * 2, none⟩ = some (.int .i64 x) ∧ w'.cell? ⟨xb, xo + m * 2 + 1, none⟩ = some (.slice Ax na ca)) (by kernel_rfl) ⟨YX6.out.drew, by exact CL.out, by exact CX.out, by exact CY.out⟩ (fun hHeld => ?_)
          refine wpAnyH_takesJ (i := 0) (v := (.slice (some ⟨bV, oV, none⟩) L cv)) (some 51) rfl rfl (by kernel_rfl) (by kernel_rfl) (by kernel_rfl) (fun _ _ _ h => h) (Or.inl ⟨by rfl, (by intro W9 hSw; clear hSw; go_simp; first | done | with_reducible rfl)⟩) (by assumption) ?_
          simp only [Act.put, List.setIfInBounds_toArray]; try simp only [List.set_cons_zero, List.set_cons_succ]
          refine wpAnyH_takesJ (i := 1) (v := (.int .i64 (i : Nat))) (some 52) rfl rfl (by kernel_rfl) (by kernel_rfl) (by kernel_rfl) (fun _ _ _ h => h) (Or.inl ⟨by rfl, (by intro W9 hSw; clear hSw; go_simp; first | done | with_reducible rfl)⟩) (by assumption) ?_
          simp only [Act.put, List.setIfInBounds_toArray]; try simp only [List.set_cons_zero, List.set_cons_succ]
          refine wpAnyH_takesJ (i := 2) (v := (.pointer (some ⟨bV, oV + i, none⟩))) (some 53) rfl rfl (by kernel_rfl) (by kernel_rfl) (by kernel_rfl) (fun _ _ _ h => h) (Or.inl ⟨by rfl, (by intro W9 hSw; clear hSw; go_simp; first | done | with_reducible rfl)⟩) (by assumption) ?_
          simp only [Act.put, List.setIfInBounds_toArray]; try simp only [List.set_cons_zero, List.set_cons_succ]
          refine wpAnyH_takesJ (i := 3) (v := (.int .i64 (m : Nat))) (some 54) rfl rfl (by kernel_rfl) (by kernel_rfl) (by kernel_rfl) (fun _ _ _ h => h) (Or.inl ⟨by rfl, (by intro W9 hSw; obtain ⟨hb5, e1, e2, e3⟩ := hSw; have s0 := hb5.c0; have s2 := hb5.c2; clear hb5; go_simp; first | done | with_reducible rfl)⟩) (by assumption) ?_
          simp only [Act.put, List.setIfInBounds_toArray]; try simp only [List.set_cons_zero, List.set_cons_succ]
          refine wpAnyH_takesJ (i := 4) (v := (.int .i64 p)) (some 55) rfl rfl (by kernel_rfl) (by kernel_rfl) (by kernel_rfl) (fun _ _ _ h => h) (Or.inl ⟨by rfl, (by intro W9 hSw; clear hSw; go_simp; first | done | with_reducible rfl)⟩) (by assumption) ?_
          simp only [Act.put, List.setIfInBounds_toArray]; try simp only [List.set_cons_zero, List.set_cons_succ]
          refine wpAnyH_takesJ (i := 5) (v := (.bool false)) (some 56) rfl rfl (by kernel_rfl) (by kernel_rfl) (by kernel_rfl) (fun _ _ _ h => h) (Or.inl ⟨by rfl, (by intro W9 hSw; clear hSw; go_simp; first | done | with_reducible rfl)⟩) (by assumption) ?_
          simp only [Act.put, List.setIfInBounds_toArray]; try simp only [List.set_cons_zero, List.set_cons_succ]
          refine wpAnyH_takesJ (i := 6) (v := (.bool false)) (some 57) rfl rfl (by kernel_rfl) (by kernel_rfl) (by kernel_rfl) (fun _ _ _ h => h) (Or.inl ⟨by rfl, (by intro W9 hSw; clear hSw; go_simp; first | done | with_reducible rfl)⟩) (by assumption) ?_
          simp only [Act.put, List.setIfInBounds_toArray]; try simp only [List.set_cons_zero, List.set_cons_succ]
          refine wpAnyH_takesJ (i := 7) (v := (.slice (some ⟨bV, oV, none⟩) L cv)) (some 58) rfl rfl (by kernel_rfl) (by kernel_rfl) (by kernel_rfl) (fun _ _ _ h => h) (Or.inl ⟨by rfl, (by intro W9 hSw; clear hSw; go_simp; first | done | with_reducible rfl)⟩) (by assumption) ?_
          simp only [Act.put, List.setIfInBounds_toArray]; try simp only [List.set_cons_zero, List.set_cons_succ]
          refine wpAnyH_takesJ (i := 8) (v := (.int .i64 (i : Nat))) (some 59) rfl rfl (by kernel_rfl) (by kernel_rfl) (by kernel_rfl) (fun _ _ _ h => h) (Or.inl ⟨by rfl, (by intro W9 hSw; clear hSw; go_simp; first | done | with_reducible rfl)⟩) (by assumption) ?_
          simp only [Act.put, List.setIfInBounds_toArray]; try simp only [List.set_cons_zero, List.set_cons_succ]
          refine wpAnyH_takesJ (i := 9) (v := (.pointer (some ⟨bV, oV + i, none⟩))) (some 60) rfl rfl (by kernel_rfl) (by kernel_rfl) (by kernel_rfl) (fun _ _ _ h => h) (Or.inl ⟨by rfl, (by intro W9 hSw; clear hSw; go_simp; first | done | with_reducible rfl)⟩) (by assumption) ?_
          simp only [Act.put, List.setIfInBounds_toArray]; try simp only [List.set_cons_zero, List.set_cons_succ]
          refine wpAnyH_takesJ (i := 10) (v := (.int .i64 (m : Nat))) (some 61) rfl rfl (by kernel_rfl) (by kernel_rfl) (by kernel_rfl) (fun _ _ _ h => h) (Or.inl ⟨by rfl, (by intro W9 hSw; obtain ⟨hb5, e1, e2, e3⟩ := hSw; have s0 := hb5.c0; have s2 := hb5.c2; clear hb5; go_simp; first | done | with_reducible rfl)⟩) (by assumption) ?_
          simp only [Act.put, List.setIfInBounds_toArray]; try simp only [List.set_cons_zero, List.set_cons_succ]
          refine wpAnyH_takesJ (i := 11) (v := (.bool false)) (some 62) rfl rfl (by kernel_rfl) (by kernel_rfl) (by kernel_rfl) (fun _ _ _ h => h) (Or.inl ⟨by rfl, (by intro W9 hSw; clear hSw; go_simp; first | done | with_reducible rfl)⟩) (by assumption) ?_
          simp only [Act.put, List.setIfInBounds_toArray]; try simp only [List.set_cons_zero, List.set_cons_succ]
          refine wpAnyH_takesJ (i := 12) (v := (.bool false)) (some 63) rfl rfl (by kernel_rfl) (by kernel_rfl) (by kernel_rfl) (fun _ _ _ h => h) (Or.inl ⟨by rfl, (by intro W9 hSw; clear hSw; go_simp; first | done | with_reducible rfl)⟩) (by assumption) ?_
          simp only [Act.put, List.setIfInBounds_toArray]; try simp only [List.set_cons_zero, List.set_cons_succ]
          refine wpAnyH_takesJ (i := 13) (v := (.bool false)) (some 64) rfl rfl (by kernel_rfl) (by kernel_rfl) (by kernel_rfl) (fun _ _ _ h => h) (Or.inl ⟨by rfl, (by intro W9 hSw; clear hSw; go_simp; first | done | with_reducible rfl)⟩) (by assumption) ?_
          simp only [Act.put, List.setIfInBounds_toArray]; try simp only [List.set_cons_zero, List.set_cons_succ]
          refine wpAnyH_takesJ (i := 14) (v := (.slice (some ⟨bV, oV, none⟩) L cv)) (some 65) rfl rfl (by kernel_rfl) (by kernel_rfl) (by kernel_rfl) (fun _ _ _ h => h) (Or.inl ⟨by rfl, (by intro W9 hSw; clear hSw; go_simp; first | done | with_reducible rfl)⟩) (by assumption) ?_
          simp only [Act.put, List.setIfInBounds_toArray]; try simp only [List.set_cons_zero, List.set_cons_succ]
          refine wpAnyH_takesJ (i := 15) (v := (.int .i64 (i : Nat))) (some 66) rfl rfl (by kernel_rfl) (by kernel_rfl) (by kernel_rfl) (fun _ _ _ h => h) (Or.inl ⟨by rfl, (by intro W9 hSw; clear hSw; go_simp; first | done | with_reducible rfl)⟩) (by assumption) ?_
          simp only [Act.put, List.setIfInBounds_toArray]; try simp only [List.set_cons_zero, List.set_cons_succ]
          refine wpAnyH_takesJ (i := 16) (v := (.pointer (some ⟨bV, oV + i, none⟩))) (some 67) rfl rfl (by kernel_rfl) (by kernel_rfl) (by kernel_rfl) (fun _ _ _ h => h) (Or.inl ⟨by rfl, (by intro W9 hSw; clear hSw; go_simp; first | done | with_reducible rfl)⟩) (by assumption) ?_
          simp only [Act.put, List.setIfInBounds_toArray]; try simp only [List.set_cons_zero, List.set_cons_succ]
          refine wpAnyH_takesJ (i := 17) (v := (.int .i64 (m : Nat))) (some 68) rfl rfl (by kernel_rfl) (by kernel_rfl) (by kernel_rfl) (fun _ _ _ h => h) (Or.inl ⟨by rfl, (by intro W9 hSw; obtain ⟨hb5, e1, e2, e3⟩ := hSw; have s0 := hb5.c0; have s2 := hb5.c2; clear hb5; go_simp; first | done | with_reducible rfl)⟩) (by assumption) ?_
          simp only [Act.put, List.setIfInBounds_toArray]; try simp only [List.set_cons_zero, List.set_cons_succ]
          refine wpAnyH_takesJ (i := 18) (v := (.pointer (some ⟨w3.heap.size, 2, none⟩))) (some 69) rfl rfl (by kernel_rfl) (by kernel_rfl) (by kernel_rfl) (fun _ _ _ h => h) (Or.inl ⟨by rfl, (by intro W9 hSw; clear hSw; go_simp; first | done | with_reducible rfl)⟩) (by assumption) ?_
          simp only [Act.put, List.setIfInBounds_toArray]; try simp only [List.set_cons_zero, List.set_cons_succ]
          refine wpAnyH_takesJ (i := 19) (v := (.slice (some ⟨xb, xo, none⟩) nr1 cr1)) (some 70) rfl rfl (by kernel_rfl) (by kernel_rfl) (by kernel_rfl) (fun _ _ _ h => h) (Or.inl ⟨by rfl, (by intro W9 hSw; obtain ⟨hb5, e1, e2, e3⟩ := hSw; have s0 := hb5.c0; have s2 := hb5.c2; clear hb5; go_simp; first | done | with_reducible rfl)⟩) (by assumption) ?_
          simp only [Act.put, List.setIfInBounds_toArray]; try simp only [List.set_cons_zero, List.set_cons_succ]
          refine wpAnyH_takesJ (i := 20) (v := (.int .i64 (nr1 : Nat))) (some 71) rfl rfl (by kernel_rfl) (by kernel_rfl) (by kernel_rfl) (fun _ _ _ h => h) (Or.inl ⟨by rfl, (by intro W9 hSw; clear hSw; go_simp; first | done | with_reducible rfl)⟩) (by assumption) ?_
          simp only [Act.put, List.setIfInBounds_toArray]; try simp only [List.set_cons_zero, List.set_cons_succ]
          refine wpAnyH_takesJ (i := 21) (v := (.bool false)) (some 72) rfl rfl (by kernel_rfl) (by kernel_rfl) (by kernel_rfl) (fun _ _ _ h => h) (Or.inl ⟨by rfl, (by intro W9 hSw; clear hSw; go_simp; first | done | with_reducible rfl)⟩) (by assumption) ?_
          simp only [Act.put, List.setIfInBounds_toArray]; try simp only [List.set_cons_zero, List.set_cons_succ]
          refine wpAnyH_takesJ (i := 22) (v := (.bool false)) (some 73) rfl rfl (by kernel_rfl) (by kernel_rfl) (by kernel_rfl) (fun _ _ _ h => h) (Or.inl ⟨by rfl, (by intro W9 hSw; clear hSw; go_simp; first | done | with_reducible rfl)⟩) (by assumption) ?_
          simp only [Act.put, List.setIfInBounds_toArray]; try simp only [List.set_cons_zero, List.set_cons_succ]
          refine wpAnyH_takesJ (i := 23) (v := (.bool false)) (some 74) rfl rfl (by kernel_rfl) (by kernel_rfl) (by kernel_rfl) (fun _ _ _ h => h) (Or.inl ⟨by rfl, (by intro W9 hSw; clear hSw; go_simp; first | done | with_reducible rfl)⟩) (by assumption) ?_
          simp only [Act.put, List.setIfInBounds_toArray]; try simp only [List.set_cons_zero, List.set_cons_succ]
          refine wpAnyH_takesJ (i := 24) (v := (.pointer (some ⟨w3.heap.size, 2, none⟩))) (some 75) rfl rfl (by kernel_rfl) (by kernel_rfl) (by kernel_rfl) (fun _ _ _ h => h) (Or.inl ⟨by rfl, (by intro W9 hSw; clear hSw; go_simp; first | done | with_reducible rfl)⟩) (by assumption) ?_
          simp only [Act.put, List.setIfInBounds_toArray]; try simp only [List.set_cons_zero, List.set_cons_succ]
          refine wpAnyH_takesJ (i := 25) (v := (.slice (some ⟨xb, xo, none⟩) nr1 cr1)) (some 76) rfl rfl (by kernel_rfl) (by kernel_rfl) (by kernel_rfl) (fun _ _ _ h => h) (Or.inl ⟨by rfl, (by intro W9 hSw; obtain ⟨hb5, e1, e2, e3⟩ := hSw; have s0 := hb5.c0; have s2 := hb5.c2; clear hb5; go_simp; first | done | with_reducible rfl)⟩) (by assumption) ?_
          simp only [Act.put, List.setIfInBounds_toArray]; try simp only [List.set_cons_zero, List.set_cons_succ]
          refine wpAnyH_takesJ (i := 26) (v := (.slice (some ⟨bV, oV, none⟩) L cv)) (some 77) rfl rfl (by kernel_rfl) (by kernel_rfl) (by kernel_rfl) (fun _ _ _ h => h) (Or.inl ⟨by rfl, (by intro W9 hSw; clear hSw; go_simp; first | done | with_reducible rfl)⟩) (by assumption) ?_
          simp only [Act.put, List.setIfInBounds_toArray]; try simp only [List.set_cons_zero, List.set_cons_succ]
          refine wpAnyH_takesJ (i := 27) (v := (.int .i64 (i : Nat))) (some 78) rfl rfl (by kernel_rfl) (by kernel_rfl) (by kernel_rfl) (fun _ _ _ h => h) (Or.inl ⟨by rfl, (by intro W9 hSw; clear hSw; go_simp; first | done | with_reducible rfl)⟩) (by assumption) ?_
          simp only [Act.put, List.setIfInBounds_toArray]; try simp only [List.set_cons_zero, List.set_cons_succ]
          refine wpAnyH_takesJ (i := 28) (v := (.pointer (some ⟨bV, oV + i, none⟩))) (some 79) rfl rfl (by kernel_rfl) (by kernel_rfl) (by kernel_rfl) (fun _ _ _ h => h) (Or.inl ⟨by rfl, (by intro W9 hSw; clear hSw; go_simp; first | done | with_reducible rfl)⟩) (by assumption) ?_
          simp only [Act.put, List.setIfInBounds_toArray]; try simp only [List.set_cons_zero, List.set_cons_succ]
          refine wpAnyH_takesJ (i := 29) (v := (.int .i64 (m : Nat))) (some 80) rfl rfl (by kernel_rfl) (by kernel_rfl) (by kernel_rfl) (fun _ _ _ h => h) (Or.inl ⟨by rfl, (by intro W9 hSw; obtain ⟨hb5, e1, e2, e3⟩ := hSw; have s0 := hb5.c0; have s2 := hb5.c2; clear hb5; go_simp; first | done | with_reducible rfl)⟩) (by assumption) ?_
          simp only [Act.put, List.setIfInBounds_toArray]; try simp only [List.set_cons_zero, List.set_cons_succ]
          refine wpAnyH_takesJ (i := 30) (v := (.pointer (some ⟨xb, xo + m * 2, none⟩))) (some 81) rfl rfl (by kernel_rfl) (by kernel_rfl) (by kernel_rfl) (fun _ _ _ h => h) (Or.inl ⟨by rfl, (by intro W9 hSw; clear hSw; go_simp; first | done | with_reducible rfl)⟩) (by assumption) ?_
          simp only [Act.put, List.setIfInBounds_toArray]; try simp only [List.set_cons_zero, List.set_cons_succ]
          refine wpAnyH_takesJ (i := 31) (v := (.agg #[.int .i64 x, .slice Ax na ca])) (some 82) rfl rfl (by kernel_rfl) (by kernel_rfl) (by kernel_rfl) (fun _ _ _ h => h) (Or.inl ⟨by rfl, (by intro W9 hSw; obtain ⟨hb5, e1, e2, e3⟩ := hSw; have s0 := hb5.c0; have s2 := hb5.c2; clear hb5; go_simp; first | done | with_reducible rfl)⟩) (by assumption) ?_
          simp only [Act.put, List.setIfInBounds_toArray]; try simp only [List.set_cons_zero, List.set_cons_succ]
          refine wpAnyH_ready (rs := [32]) (by kernel_rfl) (by simp) ?_
          refine AllReadyH.cons rfl (fun K hK => ?_) AllReadyH.nil
          go_simp
          go_at_call 25
          refine (AL.out _ (by exact (Below.refl _ _).drew)).mono ?_
          rintro e x1 ⟨Aq, nq, cq, rfl, hrq, _, hbx⟩
          have hb1 := (Below.refl V6.heap.size V6).drew.trans (hbx.mono (by simp))
          have g1 : ((nq : Int) == 0) = false := by rw [beq_eq_false_iff_ne]; have := List.length_pos_iff.2 HMA.out; have := hrq.len; omega
          clear hrq
          refine hK.out _ _ (by exact ⟨YX6.out.step hb1, keepcell hb1 CL.out, keepcell hb1 CX.out, keepcell hb1 CY.out⟩) (fun hHeld => ?_)
          clear hK K hbx
          try dsimp only
          refine wpAnyH_takesJ (i := 33) (v := (.int .i64 (nq : Nat))) (some 84) rfl rfl (by kernel_rfl) (by kernel_rfl) (by kernel_rfl) (fun _ _ _ h => h) (Or.inl ⟨by rfl, (by intro W9 hSw; clear hSw; go_simp; first | done | with_reducible rfl)⟩) (by assumption) ?_
          simp only [Act.put, List.setIfInBounds_toArray]; try simp only [List.set_cons_zero, List.set_cons_succ]
          refine wpAnyH_takesJ (i := 34) (v := (.bool false)) (some 85) rfl rfl (by kernel_rfl) (by kernel_rfl) (by kernel_rfl) (fun _ _ _ h => h) (Or.inl ⟨by rfl, (by intro W9 hSw; clear hSw; go_simp; first | done | with_reducible rfl)⟩) (by assumption) ?_
          simp only [Act.put, List.setIfInBounds_toArray]; try simp only [List.set_cons_zero, List.set_cons_succ]
          refine wpAnyH_takesJ (i := 35) (v := (.bool false)) (some 86) rfl rfl (by kernel_rfl) (by kernel_rfl) (by kernel_rfl) (fun _ _ _ h => h) (Or.inl ⟨by rfl, (by intro W9 hSw; clear hSw; go_simp; first | done | with_reducible rfl)⟩) (by assumption) ?_
          simp only [Act.put, List.setIfInBounds_toArray]; try simp only [List.set_cons_zero, List.set_cons_succ]
          refine wpAnyH_takesJ (i := 36) (v := (.bool false)) (some 87) rfl rfl (by kernel_rfl) (by kernel_rfl) (by kernel_rfl) (fun _ _ _ h => h) (Or.inl ⟨by rfl, (by intro W9 hSw; clear hSw; go_simp; first | done | with_reducible rfl)⟩) (by assumption) ?_
          simp only [Act.put, List.setIfInBounds_toArray]; try simp only [List.set_cons_zero, List.set_cons_succ]
          refine wpAnyH_takesJ (i := 37) (v := (.pointer (some ⟨w3.heap.size, 0, none⟩))) (some 88) rfl rfl (by kernel_rfl) (by kernel_rfl) (by kernel_rfl) (fun _ _ _ h => h) (Or.inl ⟨by rfl, (by intro W9 hSw; clear hSw; go_simp; first | done | with_reducible rfl)⟩) (by assumption) ?_
          simp only [Act.put, List.setIfInBounds_toArray]; try simp only [List.set_cons_zero, List.set_cons_succ]
          refine wpAnyH_takesJ (i := 38) (v := (.slice A1 nt1 ct1)) (some 89) rfl rfl (by kernel_rfl) (by kernel_rfl) (by kernel_rfl) (fun _ _ _ h => h) (Or.inl ⟨by rfl, (by intro W9 hSw; obtain ⟨hb5, e1, e2, e3⟩ := hSw; have s0 := hb5.c0; have s2 := hb5.c2; clear hb5; go_simp; first | done | with_reducible rfl)⟩) (by assumption) ?_
          simp only [Act.put, List.setIfInBounds_toArray]; try simp only [List.set_cons_zero, List.set_cons_succ]
          refine wpAnyH_takesJ (i := 39) (v := (.int .i64 p)) (some 90) rfl rfl (by kernel_rfl) (by kernel_rfl) (by kernel_rfl) (fun _ _ _ h => h) (Or.inl ⟨by rfl, (by intro W9 hSw; clear hSw; go_simp; first | done | with_reducible rfl)⟩) (by assumption) ?_
          simp only [Act.put, List.setIfInBounds_toArray]; try simp only [List.set_cons_zero, List.set_cons_succ]
          refine wpAnyH_takesJ (i := 40) (v := (.slice (some ⟨bV, oV, none⟩) L cv)) (some 91) rfl rfl (by kernel_rfl) (by kernel_rfl) (by kernel_rfl) (fun _ _ _ h => h) (Or.inl ⟨by rfl, (by intro W9 hSw; clear hSw; go_simp; first | done | with_reducible rfl)⟩) (by assumption) ?_
          simp only [Act.put, List.setIfInBounds_toArray]; try simp only [List.set_cons_zero, List.set_cons_succ]
          refine wpAnyH_takesJ (i := 41) (v := (.int .i64 (i : Nat))) (some 92) rfl rfl (by kernel_rfl) (by kernel_rfl) (by kernel_rfl) (fun _ _ _ h => h) (Or.inl ⟨by rfl, (by intro W9 hSw; clear hSw; go_simp; first | done | with_reducible rfl)⟩) (by assumption) ?_
          simp only [Act.put, List.setIfInBounds_toArray]; try simp only [List.set_cons_zero, List.set_cons_succ]
          refine wpAnyH_takesJ (i := 42) (v := (.pointer (some ⟨bV, oV + i, none⟩))) (some 93) rfl rfl (by kernel_rfl) (by kernel_rfl) (by kernel_rfl) (fun _ _ _ h => h) (Or.inl ⟨by rfl, (by intro W9 hSw; clear hSw; go_simp; first | done | with_reducible rfl)⟩) (by assumption) ?_
          simp only [Act.put, List.setIfInBounds_toArray]; try simp only [List.set_cons_zero, List.set_cons_succ]
          refine wpAnyH_takesJ (i := 43) (v := (.int .i64 (m : Nat))) (some 94) rfl rfl (by kernel_rfl) (by kernel_rfl) (by kernel_rfl) (fun _ _ _ h => h) (Or.inl ⟨by rfl, (by intro W9 hSw; obtain ⟨hb5, e1, e2, e3⟩ := hSw; have s0 := hb5.c0; have s2 := hb5.c2; clear hb5; go_simp; first | done | with_reducible rfl)⟩) (by assumption) ?_
          simp only [Act.put, List.setIfInBounds_toArray]; try simp only [List.set_cons_zero, List.set_cons_succ]
          refine wpAnyH_takesJ (i := 45) (v := (.int .i64 (j : Nat))) (some 96) rfl rfl (by kernel_rfl) (by kernel_rfl) (by kernel_rfl) (fun _ _ _ h => h) (Or.inl ⟨by rfl, (by intro W9 hSw; clear hSw; go_simp; first | done | with_reducible rfl)⟩) (by assumption) ?_
          simp only [Act.put, List.setIfInBounds_toArray]; try simp only [List.set_cons_zero, List.set_cons_succ]
          refine wpAnyH_ready (rs := [44]) (by kernel_rfl) (by simp) ?_
          refine AllReadyH.cons rfl (fun K hK => ?_) AllReadyH.nil
          go_simp
          go_at_call 24
          refine (FA.out _ (by exact hb1)).mono ?_
          rintro e x2 ⟨rfl, hbx⟩
          have hb2 := hb1.trans (hbx.mono hb1.size)
          refine hK.out _ _ (by exact ⟨YX6.out.step hb2, keepcell hb2 CL.out, keepcell hb2 CX.out, keepcell hb2 CY.out⟩) (fun hHeld => ?_)
          clear hK K hbx
          try dsimp only
          refine wpAnyH_takesJ (i := 46) (v := (.bool false)) (some 97) rfl rfl (by kernel_rfl) (by kernel_rfl) (by kernel_rfl) (fun _ _ _ h => h) (Or.inl ⟨by rfl, (by intro W9 hSw; clear hSw; go_simp; first | done | with_reducible rfl)⟩) (by assumption) ?_
          simp only [Act.put, List.setIfInBounds_toArray]; try simp only [List.set_cons_zero, List.set_cons_succ]
          refine wpAnyH_takesJ (i := 47) (v := (.bool false)) (some 98) rfl rfl (by kernel_rfl) (by kernel_rfl) (by kernel_rfl) (fun _ _ _ h => h) (Or.inl ⟨by rfl, (by intro W9 hSw; clear hSw; go_simp; first | done | with_reducible rfl)⟩) (by assumption) ?_
          simp only [Act.put, List.setIfInBounds_toArray]; try simp only [List.set_cons_zero, List.set_cons_succ]
          refine wpAnyH_done (by kernel_rfl) ?_ _
          have GE := Lib.hid (⟨YX6.out.step hb2, MX6.out.below hb2, held_trans BW6.out hb2⟩ : NM w w3.heap.size r ⟨A1, nt1, ct1, some ⟨xb, xo, none⟩, nr1, cr1, S1, ns1, cs1⟩ x2)
          have RE := Lib.hid (RI.out.below hb2)
          clear hb1 hb2
          go_wp2_with fail
          go_roundw
          case rel => exact ⟨i + 1, by omega, by first | exact wi | rw [wi] | go_num, RE, GE⟩
          case measure => simp [intOf]; omega
        · skip
          have i1 : ¬ (i : Int) < (L : Int) := by omega
          go_wp2_with (rw [← HVR.out])
          go_roundw
          case rel => exact ⟨j + 1, by omega, by first | exact wk | rw [wk] | go_num, _, _, _, rfl, Lib.hid (by rw [told_next, ← HVS.out]; exact RI.out), Lib.hid ⟨YX6.out, MX6.out, BW6.out⟩⟩
          case measure => simp [intOf]; omega
    · skip
      have l1 : ¬ (j : Int) ≤ 4 := by omega
      have hcc := stealVict_any ⟨A1, nt1, ct1, R1, nr1, cr1, S1, ns1, cs1⟩ r p 0 V4 MX4.out (fun b hb => Nat.lt_trans hb YX4.out.lt) HLW.out hp ⟨by decide, by decide⟩ (HTW.out.step BW4.out)
      rw [Jp.victims_zero] at hcc
      unfold jv at hcc
      simp only at hcc
      have C5 := Lib.hid hcc
      clear hcc
      have t0 := YX4.out.c0
      have t1 := YX4.out.c1
      have t2 := YX4.out.c2
      have t3 := YX4.out.c3
      have t4 := YX4.out.c4
      go_wp2_with (rw [← HVR.out])
      refine C5.out.mono ?_
      rintro e V5 ⟨Av, L, cv, rfl, hrv, _, hb⟩
      have hL0 : L = 0 := hrv.len.symm
      subst hL0
      have BE := Lib.hid (held_trans BW4.out hb)
      clear hrv hb C5 t0 t1 t2 t3 t4
      go_wp2_with fail
      go_ret
      exact ⟨rfl, BE.out⟩
set_option maxRecDepth 100000 in
theorem lifted (os : Os) (started : os.Started) (H : Type) (enc : TypeId × Value → H) :
    ReturnsInHanded {} Tryz.checked os 8 .any (fun w args => (Rows.stealVictimsSpec.pre enc Tryz.prog Tryz.f8 [] false w args ∧ laidMetH Tryz.prog laidList w) ∧ sizedMet enc Tryz.prog Tryz.f8 (OpenSpec.ofChange Rows.stealVictimsSpec) false w args)
      (Rows.stealVictimsSpec.post enc Tryz.prog Tryz.f8 false true false false) := by
  refine returnsInHanded_of_change_and (C := Tryz.checked) (X := fun w _ => laidMetH Tryz.prog laidList w) (fun _ _ _ hh h => h.of_heap hh) own started (by kernel_rfl) Tryz.func8
    (ChangeSpec.witness_shaped (enc := enc) (C := Tryz.checked) (os := os) (X := fun w _ => laidMetH Tryz.prog laidList w) false (World.doorLaid Tryz.prog 14 os) #[.agg #[.slice none 0 0, .int .i64 0, .slice none 0 0, .slice none 0 0, .int .u64 0], .int .i64 0] 8 rfl (World.shaped_of_RefB (by kernel_rfl) (by kernel_rfl)) (by kernel_rfl) (by kernel_rfl) (by kernel_rfl) (door_met os _)) ?_
  intro W base args ds gs before hval0 hW _ _ hL _
  have hval : ∀ (j : Nat) t v, Tryz.f8.params[j]? = some t → args[j]? = some v → Value.okWide Tryz.prog W .any base t v := hval0
  have hW' := hW
  obtain ⟨p, q, hA0, hV, rfl, hfz, hnd⟩ := hW
  have hA : DataW.TrodAll enc Tryz.prog W 0 (fun _ => true) true Tryz.f8.params.toList args.toList ds p := hA0
  rw [Tryz.params8] at hA hval
  obtain ⟨v0, vs0, d0, ds0, p0, q0, hargs, rfl, rfl, h0, r0⟩ := trodAll_cons hA
  obtain ⟨v1, vs1, d1, ds1, p1, q1, rfl, rfl, rfl, h1, r1⟩ := trodAll_cons r0
  obtain ⟨rfl, rfl, rfl⟩ := trodAll_nil r1
  obtain rfl : args = #[v0, v1] := by cases args; simp_all
  obtain ⟨rfl, rfl⟩ := trodVars_none hV
  have k0 := h0
  have lt0 : ∀ x ∈ p0, x.block < W.heap.size := by obtain ⟨m, hm⟩ := k0; exact DataW.trod_lt m _ _ _ hm
  obtain ⟨x0, y0, rfl, hr0⟩ := open_runs (hval 0 27 v0 rfl rfl) h0
  obtain ⟨a1, rfl, rfl, rfl, w1⟩ := open_int Tryz.underlying3 (hval 1 3 v1 rfl rfl) h1
  clear hA0 hval0
  refine (walk x0 y0 a1 W hr0 (in64_of_wf w1) (tab_of_laid hL)).mono fun e W' ⟨he, bel⟩ => ?_
  subst he
  exact ⟨_, rfl, _, _, _, [], _, [], hW', trodAll_mk1 (shut_bool Tryz.underlying4 _), (trodAll_cons_mk (Below.trod laidOut (by kernel_rfl) (of_decide_eq_true (by kernel_rfl)) k0 bel lt0) (trodAll_cons_mk (shut_int Tryz.underlying3 w1) trodAll_mk0)), rfl, bel.frame _, fun h => by cases h⟩
theorem over : Rows.StealVictimsSaid :=
  OpenClaim.holds_of_wide 8 Tryz.f8 rfl rfl rfl rfl rfl rfl rfl ⟨rfl, rfl, rfl, rfl, rfl⟩ rfl rfl rfl rfl rfl (by kernel_rfl) Tryz.func8 (by kernel_rfl)
    (of_decide_eq_true (by kernel_rfl)) (by unfold Func.isWrapper; first | (rw [if_pos (by decide +kernel)]; kernel_rfl) | (rw [if_neg (by decide +kernel)]; exact ⟨rfl, rfl⟩))
    (fun os started H enc _ => lifted os started H enc)
theorem proved : Rows.StealVictimsCardSaid :=
  Claim7.holds_tied_plain_at .later [] [.data] true Rows.stealVictimsCard.stood.harness false
    over (fun _ h => by cases h) (by kernel_rfl) (fun _ h => by cases h) stealVictims_row_tie rfl ⟨rfl, rfl⟩ (by kernel_rfl) rfl
    (fun f fn hf hfn => by
      obtain rfl : f = 8 := Option.some.inj ((show Tryz.prog.funcNamed "catafalque/catafalquelaw17.StealVictims" = some 8 by kernel_rfl).symm.trans hf) |>.symm
      obtain rfl : fn = Tryz.f8 := (Option.some.inj (Tryz.func8.symm.trans hfn)).symm
      exact ⟨by kernel_rfl, fun j t ht => by
        rw [Tryz.params8] at ht
        have hm : t ∈ [27, 3] := by simpa using Array.mem_of_getElem? ht
        have hall : ([27, 3].all fun u => !Tryz.prog.wantsStandIn u) = true := by kernel_rfl
        exact (show Tryz.prog.wantsStandIn t = false by simpa using List.all_eq_true.1 hall t hm)⟩)
    (by kernel_rfl)
end Go.Proofs.YtdohnhdjlhaaaaaGreatDoor.stealVictims

