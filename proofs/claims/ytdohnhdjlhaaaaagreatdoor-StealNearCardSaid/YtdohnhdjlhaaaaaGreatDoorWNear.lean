/- StealNear: nobody is stolen from farther away while somebody can be stolen nearer: the call answers true and changes nothing that was there; for every input. (Written by wip/gen/gen_wlaws.py: change that.) -/
import Derived.Test.YtdohnhdjlhaaaaaGreatDoorWShown
import Derived.Test.YtdohnhdjlhaaaaaGreatDoorM7
import Derived.Test.YtdohnhdjlhaaaaaGreatDoorWRefVict
import Derived.Test.YtdohnhdjlhaaaaaGreatDoorJReal
import Derived.Test.YtdohnhdjlhaaaaaGreatDoorJMade
import Derived.Test.YtdohnhdjlhaaaaaGreatDoorJFew
import Derived.Test.YtdohnhdjlhaaaaaGreatDoorJFrame
import Derived.Test.YtdohnhdjlhaaaaaGreatDoorJWhr
import Derived.Test.YtdohnhdjlhaaaaaGreatDoorM3
namespace Go.Proofs.YtdohnhdjlhaaaaaGreatDoor.stealNear
open Go.ChangeShapes Go.WideShapes Go.ChangeAt Go.RowKit
set_option linter.unusedVariables false

structure NM (w : World) (X : Nat) (r : Jp.Rn) (d : Ad) (wr : World) : Prop where
  box : B5 wr X (.slice d.T d.nt d.ct) (.int .i64 r.size) (.slice d.R d.nr d.cr) (.slice d.S d.ns d.cs) (.int .u64 (r.on : Nat))
  mem : RM (fun b => b < X) wr d r
  below : Below w.heap.size w wr
set_option maxRecDepth 100000 in
set_option maxHeartbeats 4000000 in
theorem walk (d : Ad) (r : Jp.Rn) (p : Int) (w : World) (h : RMI (fun b => b < w.heap.size) w d r) (hp : In64 p) (hT : Tab w) :
    Calls Tryz.prog 5 #[jv d r, .int .i64 p] w fun e w' => e = .returned (.bool true) ∧ Below w.heap.size w w' := by
  have HIN := Lib.hid h.2
  have HR := Lib.hid h.1
  have HTW := Lib.hid hT
  obtain ⟨A0, nt, ct, R, nr, cr, S, ns, cs⟩ := d
  obtain ⟨V, hV, hX, hB⟩ := B5.start w (.slice A0 nt ct) (.int .i64 r.size) (.slice R nr cr) (.slice S ns cs) (.int .u64 (r.on : Nat)) 27
  have E := Lib.hid hV
  have X0 := Lib.hid hX
  have B0 := Lib.hid hB
  have SH := Lib.hid (wshown_any V (hT.step hB))
  clear h hT hV hX hB
  unfold jv
  go_enter Tryz.func5, Tryz.ntmps5
  go_wp2_with (rw [← E.out])
  clear E
  refine SH.out.mono ?_
  rintro e w1 ⟨rfl, hb1⟩
  have X1 := Lib.hid (X0.out.step hb1)
  have B1 := Lib.hid (held_trans B0.out hb1)
  have p0 := X1.out.c0
  have p1 := X1.out.c1
  have p2 := X1.out.c2
  have p3 := X1.out.c3
  have p4 := X1.out.c4
  have hFW := fun T HT => few_any ⟨A0, nt, ct, R, nr, cr, S, ns, cs⟩ r T w1 HT (HR.out.below B1.out) HIN.out
  unfold jv at hFW
  simp only at hFW
  have FW := Lib.hid hFW
  clear hb1 SH X0 B0 hFW
  go_wp2_with fail
  by_cases hfew : ¬ FewP r
  · refine (FW.out false (Lib.hid (by simp [hfew]))).mono ?_
    rintro e w2 ⟨rfl, hb2⟩
    have BE := Lib.hid (held_trans B1.out hb2)
    go_wp2_with fail
    go_ret
    exact ⟨rfl, BE.out⟩
  have hfew := Classical.not_not.1 hfew
  have HFEW := Lib.hid hfew
  refine (FW.out true (Lib.hid (by simp [hfew]))).mono ?_
  rintro e w2a ⟨rfl, hb2⟩
  have X2a := Lib.hid (X1.out.step hb2)
  have B2a := Lib.hid (held_trans B1.out hb2)
  have p0 := X2a.out.c0
  have p1 := X2a.out.c1
  have p2 := X2a.out.c2
  have p3 := X2a.out.c3
  have p4 := X2a.out.c4
  obtain ⟨Tb, hTb⟩ : ∃ Tb : Bool, (Tb = true ↔ Jp.Thief r p) := by
    by_cases h : Jp.Thief r p
    · exact ⟨true, by simp [h]⟩
    · exact ⟨false, by simp [h]⟩
  have HTB := Lib.hid hTb
  have hMY := refThief_any ⟨A0, nt, ct, R, nr, cr, S, ns, cs⟩ r p Tb w2a HTB (HR.out.below B2a.out) HFEW.out.low
  unfold jv at hMY
  simp only at hMY
  have MY := Lib.hid hMY
  clear hb2 FW X1 B1 hfew hMY hTb
  go_wp2_with fail
  refine MY.out.mono ?_
  rintro e w2 ⟨rfl, hb2⟩
  have X2 := Lib.hid (X2a.out.step hb2)
  have B2 := Lib.hid (held_trans B2a.out hb2)
  have p0 := X2.out.c0
  have p1 := X2.out.c1
  have p2 := X2.out.c2
  have p3 := X2.out.c3
  have p4 := X2.out.c4
  clear hb2 MY X2a B2a
  cases Tb
  · have BE := B2
    go_wp2_with fail
    go_ret
    exact ⟨rfl, BE.out⟩
  have HTF := Lib.hid (HTB.out.1 rfl)
  clear HTB
  have hMD := jmade_any ⟨A0, nt, ct, R, nr, cr, S, ns, cs⟩ r w2 (HR.out.below B2.out) (fun b hb => Nat.lt_of_lt_of_le hb B2.out.size) HFEW.out.low
  unfold jv at hMD
  simp only at hMD
  have MD := Lib.hid hMD
  clear hMD
  go_wp2_with fail
  refine MD.out.mono ?_
  rintro e w3 ⟨⟨A1, nt1, ct1, R1, nr1, cr1, S1, ns1, cs1⟩, rfl, hm3, hb3⟩
  unfold jv
  simp only
  have hbn := below_new w3 (.cells #[.slice A1 nt1 ct1, .int .i64 r.size, .slice R1 nr1 cr1, .slice S1 ns1 cs1, .int .u64 (r.on : Nat)] 33)
  have hY := B5.new w3 (.slice A1 nt1 ct1) (.int .i64 r.size) (.slice R1 nr1 cr1) (.slice S1 ns1 cs1) (.int .u64 (r.on : Nat)) 33
  obtain ⟨V4, hV4⟩ : ∃ V4, V4 = w3.alloc (.cells #[.slice A1 nt1 ct1, .int .i64 r.size, .slice R1 nr1 cr1, .slice S1 ns1 cs1, .int .u64 (r.on : Nat)] 33) := ⟨_, rfl⟩
  rw [← hV4] at hbn hY
  have E4 := Lib.hid hV4
  have B4 := Lib.hid (held_trans (held_trans B2.out hb3) hbn)
  have P4 := Lib.hid ((X2.out.step hb3).step hbn)
  have Y4 := Lib.hid hY
  have M4 := Lib.hid (show RM (fun b => b < w3.heap.size) V4 ⟨A1, nt1, ct1, R1, nr1, cr1, S1, ns1, cs1⟩ r from (hm3.bound.mono (fun b hb => hb.2)).below hbn)
  have HX4 := Lib.hid (show w3.heap.size < V4.heap.size from hY.lt)
  have HWX := Lib.hid (show w.heap.size ≤ w3.heap.size from (held_trans B2.out hb3).size)
  clear hm3 hb3 hbn hY hV4 MD X2 B2 p0 p1 p2 p3 p4
  have YX4 := Y4
  have MX4 := M4
  have BW4 := B4
  have HLW := Lib.hid HFEW.out.low
  clear P4 Y4 M4 B4
  obtain ⟨k, hpk, hk⟩ := Jp.thief_lt HTF.out
  subst hpk
  have HK := Lib.hid hk
  obtain ⟨lo, hlo⟩ : ∃ lo, lo = Jp.stealOn r k 3 := ⟨_, rfl⟩
  have HLO := Lib.hid hlo
  clear hlo hk
  have hcc := stealSteal_any ⟨A1, nt1, ct1, R1, nr1, cr1, S1, ns1, cs1⟩ r k 3 V4 MX4.out (fun b hb => Nat.lt_trans hb YX4.out.lt) HLW.out hp ⟨by decide, by decide⟩ (HTW.out.step BW4.out)
  rw [Jp.steal_on HTF.out, ← HLO.out] at hcc
  unfold jv at hcc
  simp only at hcc
  have C5 := Lib.hid hcc
  clear hcc
  have t0 := YX4.out.c0
  have t1 := YX4.out.c1
  have t2 := YX4.out.c2
  have t3 := YX4.out.c3
  have t4 := YX4.out.c4
  go_wp2_with (rw [← E4.out])
  clear E4
  refine C5.out.mono ?_
  rintro e u5 ⟨⟨T5, nt5, ct5, R5, nr5, cr5, S5, ns5, cs5⟩, rfl, hm, hb⟩
  unfold jv
  simp only
  have hbn := below_new u5 (.cells #[.slice T5 nt5 ct5, .int .i64 lo.1.size, .slice R5 nr5 cr5, .slice S5 ns5 cs5, .int .u64 (lo.1.on : Nat)] 33)
  have hY := B5.new u5 (.slice T5 nt5 ct5) (.int .i64 lo.1.size) (.slice R5 nr5 cr5) (.slice S5 ns5 cs5) (.int .u64 (lo.1.on : Nat)) 33
  obtain ⟨V5, hV⟩ : ∃ V5, V5 = u5.alloc (.cells #[.slice T5 nt5 ct5, .int .i64 lo.1.size, .slice R5 nr5 cr5, .slice S5 ns5 cs5, .int .u64 (lo.1.on : Nat)] 33) := ⟨_, rfl⟩
  rw [← hV] at hbn hY
  have E5 := Lib.hid hV
  have hbj := hb.trans (hbn.mono hb.size)
  have YX5 := Lib.hid (YX4.out.step hbj)
  have MX5 := Lib.hid (MX4.out.below hbj)
  have BW5 := Lib.hid (held_trans BW4.out hbj)
  clear BW4 YX4 MX4 
  have Ya5 := Lib.hid hY
  have Ma5 := Lib.hid ((hm.bound.mono (G := fun b => b < u5.heap.size) (fun b hb => hb.2)).below hbn)
  clear hV hY hbn hm hb hbj C5 t0 t1 t2 t3 t4
  clear Ya5 Ma5
  go_wp2_with (rw [← E5.out])
  go_loopw [10] (fun f wr => ∃ j : Nat, j ≤ 3 ∧ f = .int .i64 j ∧ Hid (NM w w3.heap.size r ⟨A1, nt1, ct1, R1, nr1, cr1, S1, ns1, cs1⟩ wr)) (fun f _ => 3 - (intOf f).toNat)
  case atStart => exact ⟨0, by omega, rfl, Lib.hid ⟨YX5.out, MX5.out, BW5.out⟩⟩
  case round =>
    clear YX5 MX5 BW5
    obtain ⟨j, hj, rfl, G⟩ := hrel
    obtain ⟨V5, hVr⟩ : ∃ V, V = wr := ⟨_, rfl⟩
    rw [← hVr] at G
    have HVR := Lib.hid hVr
    have YX5 := Lib.hid G.out.box
    have MX5 := Lib.hid G.out.mem
    have BW5 := Lib.hid G.out.below
    clear G hVr
    by_cases hlt : j < 3
    · skip
      have l1 : (j : Int) < 3 := by omega
      have wk : IntKind.i64.wrap ((j : Int) + 1) = ((j + 1 : Nat) : Int) := by
        rw [show ((j + 1 : Nat) : Int) = (j : Int) + 1 by omega]
        exact IntWalk.i64_in _ (by omega)
      obtain ⟨l, hl⟩ : ∃ l, l = Jp.stealOn r k (j : Int) := ⟨_, rfl⟩
      have HL := Lib.hid hl
      clear hl
      have hcc := stealSteal_any ⟨A1, nt1, ct1, R1, nr1, cr1, S1, ns1, cs1⟩ r k (j : Int) V5 MX5.out (fun b hb => Nat.lt_trans hb YX5.out.lt) HLW.out hp ⟨by omega, by omega⟩ (HTW.out.step BW5.out)
      rw [Jp.steal_on HTF.out, ← HL.out] at hcc
      unfold jv at hcc
      simp only at hcc
      have C6 := Lib.hid hcc
      clear hcc
      have t0 := YX5.out.c0
      have t1 := YX5.out.c1
      have t2 := YX5.out.c2
      have t3 := YX5.out.c3
      have t4 := YX5.out.c4
      go_wp2_with (rw [← HVR.out])
      clear HVR
      refine C6.out.mono ?_
      rintro e u6 ⟨⟨T6, nt6, ct6, R6, nr6, cr6, S6, ns6, cs6⟩, rfl, hm, hb⟩
      unfold jv
      simp only
      have hbn := below_new u6 (.cells #[.slice T6 nt6 ct6, .int .i64 l.1.size, .slice R6 nr6 cr6, .slice S6 ns6 cs6, .int .u64 (l.1.on : Nat)] 33)
      have hY := B5.new u6 (.slice T6 nt6 ct6) (.int .i64 l.1.size) (.slice R6 nr6 cr6) (.slice S6 ns6 cs6) (.int .u64 (l.1.on : Nat)) 33
      obtain ⟨V6, hV⟩ : ∃ V6, V6 = u6.alloc (.cells #[.slice T6 nt6 ct6, .int .i64 l.1.size, .slice R6 nr6 cr6, .slice S6 ns6 cs6, .int .u64 (l.1.on : Nat)] 33) := ⟨_, rfl⟩
      rw [← hV] at hbn hY
      have E6 := Lib.hid hV
      have hbj := hb.trans (hbn.mono hb.size)
      have YX6 := Lib.hid (YX5.out.step hbj)
      have MX6 := Lib.hid (MX5.out.below hbj)
      have BW6 := Lib.hid (held_trans BW5.out hbj)
      clear BW5 YX5 MX5 
      have Yb6 := Lib.hid hY
      have Mb6 := Lib.hid ((hm.bound.mono (G := fun b => b < u6.heap.size) (fun b hb => hb.2)).below hbn)
      clear hV hY hbn hm hb hbj C6 t0 t1 t2 t3 t4
      clear Yb6 Mb6
      obtain ⟨wh, hwh⟩ : ∃ wh, wh = Jp.whr r l.2.1 := ⟨_, rfl⟩
      have HWH := Lib.hid hwh
      clear hwh
      have hcc := runsWhere_any ⟨A1, nt1, ct1, R1, nr1, cr1, S1, ns1, cs1⟩ r l.2.1 V6 MX6.out HLW.out
      rw [← HWH.out] at hcc
      unfold jv at hcc
      simp only at hcc
      have C7 := Lib.hid hcc
      clear hcc
      have t0 := YX6.out.c0
      have t1 := YX6.out.c1
      have t2 := YX6.out.c2
      have t3 := YX6.out.c3
      have t4 := YX6.out.c4
      go_wp2_with (rw [← E6.out])
      clear E6
      refine C7.out.mono ?_
      rintro e V7 ⟨rfl, hb⟩
      have YX7 := Lib.hid (YX6.out.step hb)
      have MX7 := Lib.hid (MX6.out.below hb)
      have BW7 := Lib.hid (held_trans BW6.out hb)
      clear BW6 YX6 MX6 
      clear hb C7 t0 t1 t2 t3 t4
      have hns := Jp.near_same (e := (j : Int)) HTF.out HK.out l1
      have hnn := Jp.near_no (e := (j : Int)) HTF.out HK.out l1
      have hst := Jp.sto HTF.out HK.out (j : Int)
      rw [← HL.out, ← HLO.out] at hns hnn
      rw [← HL.out] at hst
      have hps := hst.pos HTF.out.may
      have hsd := hst.stood HTF.out.may
      clear hst
      have t0 := YX7.out.c0
      by_cases h0 : l.2.1 = 0
      · skip
        have a1 : (l.2.1 != 0) = false := by rw [h0]; rfl
        have a2 : (l.2.1 == 0) = true := by rw [h0]; rfl
        have a3 := hnn h0
        clear hns hnn hps hsd
        by_cases g0 : lo.2.1 = 0
        · have a4 : (lo.2.1 != 0) = false := by rw [g0]; rfl
          clear a3 g0 h0
          go_wp2_with fail
          go_roundw
          case rel => exact ⟨j + 1, by omega, by first | exact wk | rw [wk] | go_num, Lib.hid ⟨YX7.out, MX7.out, BW7.out⟩⟩
          case measure => simp [intOf]; omega
        · have a4 : (lo.2.1 != 0) = true := by rw [bne_iff_ne]; exact g0
          have a5 : ¬ lo.2.2 ≤ (j : Int) := by have := a3.resolve_left g0; omega
          clear a3
          go_wp2_with fail
          go_roundw
          case rel => exact ⟨j + 1, by omega, by first | exact wk | rw [wk] | go_num, Lib.hid ⟨YX7.out, MX7.out, BW7.out⟩⟩
          case measure => simp [intOf]; omega
      · skip
        have a1 : (l.2.1 != 0) = true := by rw [bne_iff_ne]; exact h0
        have a2 : (l.2.1 == 0) = false := by rw [beq_eq_false_iff_ne]; exact h0
        obtain ⟨e1, e2⟩ := hns h0
        have a3 : (l.2.1 != lo.2.1) = false := by rw [e1]; simp
        have a4 : (l.2.2 != lo.2.2) = false := by rw [e2]; simp
        have a5 : ¬ (j : Int) < l.2.2 := by
          rcases hps with ⟨h1, _⟩ | ⟨_, _, h1⟩
          · exact absurd h1 h0
          · omega
        obtain ⟨c, hc, hd⟩ : ∃ c : Nat, Jp.whr r l.2.1 = ((c : Int), -1) ∧ l.2.2 = Dp.far r.tree k c := by
          rcases hsd h0 with ⟨c, h1, h2⟩ | ⟨h1, _⟩
          · exact ⟨c, h1, h2⟩
          · exact absurd h1 (by omega)
        rw [← HWH.out] at hc
        have ec : wh.1 = (c : Int) := by rw [hc]
        have a6 : ¬ wh.1 < 0 := by rw [ec]; omega
        have a7 : (l.2.2 != Dp.far r.tree k wh.1) = false := by rw [hd, ec]; simp
        have a7' : (Dp.far r.tree k wh.1 != l.2.2) = false := by rw [hd, ec]; simp
        have hfr := far_any A1 nt1 ct1 r.tree k wh.1 V7 (Lib.hid MX7.out.tlen) MX7.out.tmax (Lib.hid MX7.out.fit) MX7.out.tree
        have FA := Lib.hid hfr
        clear hfr hns hnn hps hsd e1 e2 hc hd ec
        go_wp2_with fail
        refine FA.out.mono ?_
        rintro e V8 ⟨rfl, hb⟩
        have YX8 := Lib.hid (YX7.out.step hb)
        have MX8 := Lib.hid (MX7.out.below hb)
        have BW8 := Lib.hid (held_trans BW7.out hb)
        clear BW7 YX7 MX7 
        clear hb FA t0
        go_wp2_with fail
        go_roundw
        case rel => exact ⟨j + 1, by omega, by first | exact wk | rw [wk] | go_num, Lib.hid ⟨YX8.out, MX8.out, BW8.out⟩⟩
        case measure => simp [intOf]; omega
    · have l1 : ¬ (j : Int) < 3 := by omega
      skip
      go_wp2_with (rw [← HVR.out])
      go_ret
      exact ⟨rfl, BW5.out⟩
set_option maxRecDepth 100000 in
theorem lifted (os : Os) (started : os.Started) (H : Type) (enc : TypeId × Value → H) :
    ReturnsInHanded {} Tryz.checked os 5 .any (fun w args => (Rows.stealNearSpec.pre enc Tryz.prog Tryz.f5 [] false w args ∧ laidMetH Tryz.prog laidList w) ∧ sizedMet enc Tryz.prog Tryz.f5 (OpenSpec.ofChange Rows.stealNearSpec) false w args)
      (Rows.stealNearSpec.post enc Tryz.prog Tryz.f5 false true false false) := by
  refine returnsInHanded_of_change_and (C := Tryz.checked) (X := fun w _ => laidMetH Tryz.prog laidList w) (fun _ _ _ hh h => h.of_heap hh) own started (by kernel_rfl) Tryz.func5
    (ChangeSpec.witness_shaped (enc := enc) (C := Tryz.checked) (os := os) (X := fun w _ => laidMetH Tryz.prog laidList w) false (World.doorLaid Tryz.prog 14 os) #[.agg #[.slice none 0 0, .int .i64 0, .slice none 0 0, .slice none 0 0, .int .u64 0], .int .i64 0] 8 rfl (World.shaped_of_RefB (by kernel_rfl) (by kernel_rfl)) (by kernel_rfl) (by kernel_rfl) (by kernel_rfl) (door_met os _)) ?_
  intro W base args ds gs before hval0 hW _ _ hL _
  have hval : ∀ (j : Nat) t v, Tryz.f5.params[j]? = some t → args[j]? = some v → Value.okWide Tryz.prog W .any base t v := hval0
  have hW' := hW
  obtain ⟨p, q, hA0, hV, rfl, hfz, hnd⟩ := hW
  have hA : DataW.TrodAll enc Tryz.prog W 0 (fun _ => true) true Tryz.f5.params.toList args.toList ds p := hA0
  rw [Tryz.params5] at hA hval
  obtain ⟨v0, vs0, d0, ds0, p0, q0, hargs, rfl, rfl, h0, r0⟩ := trodAll_cons hA
  obtain ⟨v1, vs1, d1, ds1, p1, q1, rfl, rfl, rfl, h1, r1⟩ := trodAll_cons r0
  obtain ⟨rfl, rfl, rfl⟩ := trodAll_nil r1
  obtain rfl : args = #[v0, v1] := by cases args; simp_all
  obtain ⟨rfl, rfl⟩ := trodVars_none hV
  have k0 := h0
  have lt0 : ∀ x ∈ p0, x.block < W.heap.size := by obtain ⟨m, hm⟩ := k0; exact DataW.trod_lt m _ _ _ hm
  obtain ⟨x0, y0, rfl, hr0⟩ := open_runs (hval 0 27 v0 rfl rfl) h0
  obtain ⟨a1, rfl, rfl, rfl, w1⟩ := open_int Tryz.underlying3 (hval 1 3 v1 rfl rfl) h1
  clear hA0 hval0
  refine (walk x0 y0 a1 W hr0 (in64_of_wf w1) (tab_of_laid hL)).mono fun e W' ⟨he, bel⟩ => ?_
  subst he
  exact ⟨_, rfl, _, _, _, [], _, [], hW', trodAll_mk1 (shut_bool Tryz.underlying4 _), (trodAll_cons_mk (Below.trod laidOut (by kernel_rfl) (of_decide_eq_true (by kernel_rfl)) k0 bel lt0) (trodAll_cons_mk (shut_int Tryz.underlying3 w1) trodAll_mk0)), rfl, bel.frame _, fun h => by cases h⟩
theorem over : Rows.StealNearSaid :=
  OpenClaim.holds_of_wide 5 Tryz.f5 rfl rfl rfl rfl rfl rfl rfl ⟨rfl, rfl, rfl, rfl, rfl⟩ rfl rfl rfl rfl rfl (by kernel_rfl) Tryz.func5 (by kernel_rfl)
    (of_decide_eq_true (by kernel_rfl)) (by unfold Func.isWrapper; first | (rw [if_pos (by decide +kernel)]; kernel_rfl) | (rw [if_neg (by decide +kernel)]; exact ⟨rfl, rfl⟩))
    (fun os started H enc _ => lifted os started H enc)
theorem proved : Rows.StealNearCardSaid :=
  Claim7.holds_tied_plain_at .later [] [.data] true Rows.stealNearCard.stood.harness false
    over (fun _ h => by cases h) (by kernel_rfl) (fun _ h => by cases h) stealNear_row_tie rfl ⟨rfl, rfl⟩ (by kernel_rfl) rfl
    (fun f fn hf hfn => by
      obtain rfl : f = 5 := Option.some.inj ((show Tryz.prog.funcNamed "catafalque/catafalquelaw17.StealNear" = some 5 by kernel_rfl).symm.trans hf) |>.symm
      obtain rfl : fn = Tryz.f5 := (Option.some.inj (Tryz.func5.symm.trans hfn)).symm
      exact ⟨by kernel_rfl, fun j t ht => by
        rw [Tryz.params5] at ht
        have hm : t ∈ [27, 3] := by simpa using Array.mem_of_getElem? ht
        have hall : ([27, 3].all fun u => !Tryz.prog.wantsStandIn u) = true := by kernel_rfl
        exact (show Tryz.prog.wantsStandIn t = false by simpa using List.all_eq_true.1 hall t hm)⟩)
    (by kernel_rfl)
end Go.Proofs.YtdohnhdjlhaaaaaGreatDoor.stealNear

