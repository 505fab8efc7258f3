/- BalanceRings: with empty rings, and all plugged, rows are balanced alike: the call answers true and changes nothing that was there; for every input. (Written by wip/gen/gen_elaws.py: change that.) -/
import Derived.Test.YthbeldmgaioemaaDoorEShown
import Derived.Test.YthbeldmgaioemaaDoorM7
import Derived.Test.YthbeldmgaioemaaDoorM8
import Derived.Test.YthbeldmgaioemaaDoorM10
import Derived.Test.YthbeldmgaioemaaDoorJMade
import Derived.Test.YthbeldmgaioemaaDoorJFew
import Derived.Test.YthbeldmgaioemaaDoorM9
import Derived.Test.YthbeldmgaioemaaDoorJNewL
namespace Go.Proofs.YthbeldmgaioemaaDoor.balanceRings
open Go.ChangeShapes Go.WideShapes Go.ChangeAt Go.RowKit
set_option linter.unusedVariables false

set_option maxRecDepth 100000 in
set_option maxHeartbeats 4000000 in
theorem walk (d : Ad) (r : Jp.Rn) (w : World) (h : RMI (fun b => b < w.heap.size) w d r) (hT : Tab w) :
    Calls Tryd.prog 8 #[jv d r] w fun e w' => e = .returned (.bool true) ∧ Below w.heap.size w w' := by
  have HIN := Lib.hid h.2
  have HR := Lib.hid h.1
  have HTW := Lib.hid hT
  obtain ⟨A0, nt, ct, R, nr, cr, S, ns, cs⟩ := d
  obtain ⟨V, hV, hX, hB⟩ := B5.start w (.slice A0 nt ct) (.int .i64 r.size) (.slice R nr cr) (.slice S ns cs) (.int .u64 (r.on : Nat)) 27
  have E := Lib.hid hV
  have X0 := Lib.hid hX
  have B0 := Lib.hid hB
  have SH := Lib.hid (eshown_any V (hT.step hB))
  clear h hT hV hX hB
  unfold jv
  go_enter Tryd.func8, Tryd.ntmps8
  go_wp2_with (rw [← E.out])
  clear E
  refine SH.out.mono ?_
  rintro e w1 ⟨rfl, hb1⟩
  have X1 := Lib.hid (X0.out.step hb1)
  have B1 := Lib.hid (held_trans B0.out hb1)
  have p0 := X1.out.c0
  have p1 := X1.out.c1
  have p2 := X1.out.c2
  have p3 := X1.out.c3
  have p4 := X1.out.c4
  have hFW := fun T HT => few_any ⟨A0, nt, ct, R, nr, cr, S, ns, cs⟩ r T w1 HT (HR.out.below B1.out) HIN.out
  unfold jv at hFW
  simp only at hFW
  have FW := Lib.hid hFW
  clear hb1 SH X0 B0 hFW
  go_wp2_with fail
  by_cases hfew : ¬ FewP r
  · refine (FW.out false (Lib.hid (by simp [hfew]))).mono ?_
    rintro e w2 ⟨rfl, hb2⟩
    have BE := Lib.hid (held_trans B1.out hb2)
    go_wp2_with fail
    go_ret
    exact ⟨rfl, BE.out⟩
  have hfew := Classical.not_not.1 hfew
  have HFEW := Lib.hid hfew
  refine (FW.out true (Lib.hid (by simp [hfew]))).mono ?_
  rintro e w2a ⟨rfl, hb2⟩
  have X2a := Lib.hid (X1.out.step hb2)
  have B2a := Lib.hid (held_trans B1.out hb2)
  have p0 := X2a.out.c0
  have p1 := X2a.out.c1
  have p2 := X2a.out.c2
  have p3 := X2a.out.c3
  have p4 := X2a.out.c4
  obtain ⟨Tb, hTb⟩ : ∃ Tb : Bool, (Tb = true ↔ Jp.May r) := by
    by_cases h : Jp.May r
    · exact ⟨true, by simp [h]⟩
    · exact ⟨false, by simp [h]⟩
  have HTB := Lib.hid hTb
  have hMY := jrefMay_any ⟨A0, nt, ct, R, nr, cr, S, ns, cs⟩ r Tb w2a HTB (HR.out.below B2a.out) HFEW.out.low
  unfold jv at hMY
  simp only at hMY
  have MY := Lib.hid hMY
  clear hb2 FW X1 B1 hfew hMY hTb
  go_wp2_with fail
  refine MY.out.mono ?_
  rintro e w2 ⟨rfl, hb2⟩
  have X2 := Lib.hid (X2a.out.step hb2)
  have B2 := Lib.hid (held_trans B2a.out hb2)
  have p0 := X2.out.c0
  have p1 := X2.out.c1
  have p2 := X2.out.c2
  have p3 := X2.out.c3
  have p4 := X2.out.c4
  clear hb2 MY X2a B2a
  cases Tb
  · have BE := B2
    go_wp2_with fail
    go_ret
    exact ⟨rfl, BE.out⟩
  have HMAY := Lib.hid (HTB.out.1 rfl)
  clear HTB
  have hMD := jmade_any ⟨A0, nt, ct, R, nr, cr, S, ns, cs⟩ r w2 (HR.out.below B2.out) (fun b hb => Nat.lt_of_lt_of_le hb B2.out.size) HFEW.out.low
  unfold jv at hMD
  simp only at hMD
  have MD := Lib.hid hMD
  clear hMD
  go_wp2_with fail
  refine MD.out.mono ?_
  rintro e w3 ⟨⟨A1, nt1, ct1, R1, nr1, cr1, S1, ns1, cs1⟩, rfl, hm3, hb3⟩
  unfold jv
  simp only
  have hbn := below_new w3 (.cells #[.slice A1 nt1 ct1, .int .i64 r.size, .slice R1 nr1 cr1, .slice S1 ns1 cs1, .int .u64 (r.on : Nat)] 33)
  have hY := B5.new w3 (.slice A1 nt1 ct1) (.int .i64 r.size) (.slice R1 nr1 cr1) (.slice S1 ns1 cs1) (.int .u64 (r.on : Nat)) 33
  obtain ⟨V4, hV4⟩ : ∃ V4, V4 = w3.alloc (.cells #[.slice A1 nt1 ct1, .int .i64 r.size, .slice R1 nr1 cr1, .slice S1 ns1 cs1, .int .u64 (r.on : Nat)] 33) := ⟨_, rfl⟩
  rw [← hV4] at hbn hY
  have E4 := Lib.hid hV4
  have B4 := Lib.hid (held_trans (held_trans B2.out hb3) hbn)
  have P4 := Lib.hid ((X2.out.step hb3).step hbn)
  have Y4 := Lib.hid hY
  have M4 := Lib.hid (show RM (fun b => b < w3.heap.size) V4 ⟨A1, nt1, ct1, R1, nr1, cr1, S1, ns1, cs1⟩ r from (hm3.bound.mono (fun b hb => hb.2)).below hbn)
  have HX4 := Lib.hid (show w3.heap.size < V4.heap.size from hY.lt)
  have HWX := Lib.hid (show w.heap.size ≤ w3.heap.size from (held_trans B2.out hb3).size)
  clear hm3 hb3 hbn hY hV4 MD X2 B2 p0 p1 p2 p3 p4
  have YP4 := P4
  have YX4 := Y4
  have MX4 := M4
  have MP4 := Lib.hid (HR.out.below B4.out)
  have BW4 := B4
  have HLW := Lib.hid HFEW.out.low
  clear P4 Y4 M4 B4
  obtain ⟨mv, hmv⟩ : ∃ m, m = Jp.moved r.rows := ⟨_, rfl⟩
  obtain ⟨b1, hb1⟩ : ∃ x, x = (Jp.bal r).1 := ⟨_, rfl⟩
  have HBE := Lib.hid (show Jp.bal r = (b1, ((mv : Nat) : Int)) from by rw [hb1, hmv, Jp.bal_may HMAY.out, Jp.balOn_is])
  have HB1 := Lib.hid (show b1 = { r with rows := Jp.even r.rows } from by rw [hb1, Jp.bal_may HMAY.out, Jp.balOn_is])
  have HLA := Lib.hid (show Low b1 from by rw [hb1]; exact low_bal HLW.out)
  clear hmv hb1
  obtain ⟨cm, hcm⟩ : ∃ c, c = Jp.made r.tree r.size := ⟨_, rfl⟩
  obtain ⟨c0, hc0⟩ : ∃ c, c = Jp.bare r := ⟨_, rfl⟩
  obtain ⟨c1, hc1⟩ : ∃ c, c = (Jp.bal c0).1 := ⟨_, rfl⟩
  have HNW := Lib.hid (show Jp.new r.tree r.size = (cm, 0) from by rw [hcm]; exact Jp.bare_new HMAY.out)
  have HC0 := Lib.hid (show c0 = { cm with rows := r.rows } from by rw [hc0, hcm]; rfl)
  have HBY := Lib.hid (show Jp.bal c0 = (c1, ((mv : Nat) : Int)) from by rw [hc1, hc0, Jp.bare_bal HMAY.out, HBE.out])
  have HC1 := Lib.hid (show c1 = { c0 with rows := b1.rows } from by rw [hc1, hc0, Jp.bare_bal HMAY.out, HBE.out])
  have HLY := Lib.hid (show Low c0 from by rw [hc0]; exact bare_low HLW.out HMAY.out)
  have HLZ := Lib.hid (show Low c1 from by rw [hc1]; exact low_bal HLY.out)
  have HRL := Lib.hid (show cm.rows.length = r.rows.length from by rw [hcm]; show (List.replicate _ _).length = _; rw [List.length_replicate, HMAY.out.rows])
  clear hcm hc0 hc1
  have hcc := runsNew_any (F := fun b => b < w.heap.size) A0 nt ct r.tree r.size V4 (Lib.hid (show r.tree.length = nt from MP4.out.tlen)) MP4.out.tmax (Lib.hid MP4.out.fit) MP4.out.tree MP4.out.lie (fun b hb => Nat.lt_trans hb YP4.out.lt) MP4.out.size (HTW.out.step BW4.out)
  rw [HNW.out] at hcc
  try unfold jv at hcc
  try simp only at hcc
  have C5 := Lib.hid hcc
  clear hcc
  have t0 := YP4.out.c0
  have t1 := YP4.out.c1
  have t2 := YP4.out.c2
  have t3 := YP4.out.c3
  have t4 := YP4.out.c4
  go_wp2_with (rw [← E4.out])
  clear E4
  refine C5.out.mono ?_
  rintro e u5 ⟨⟨T5, nt5, ct5, R5, nr5, cr5, S5, ns5, cs5⟩, rfl, hm, hb⟩
  unfold jv
  simp only
  have hbn := below_new u5 (.cells #[.slice T5 nt5 ct5, .int .i64 cm.size, .slice R5 nr5 cr5, .slice S5 ns5 cs5, .int .u64 (cm.on : Nat)] 33)
  have hY := Go.Proofs.YthbeldmgaioemaaDoor.C5.new u5 (.slice T5 nt5 ct5) (.int .i64 cm.size) (.slice R5 nr5 cr5) (.slice S5 ns5 cs5) (.int .u64 (cm.on : Nat)) 33
  obtain ⟨V5, hV⟩ : ∃ V5, V5 = u5.alloc (.cells #[.slice T5 nt5 ct5, .int .i64 cm.size, .slice R5 nr5 cr5, .slice S5 ns5 cs5, .int .u64 (cm.on : Nat)] 33) := ⟨_, rfl⟩
  rw [← hV] at hbn hY
  have E5 := Lib.hid hV
  have hbj := hb.trans (hbn.mono hb.size)
  have hus1 : V4.heap.size ≤ u5.heap.size := hb.size
  have hwlt1 := BW4.out.size
  have hPlt1 := YP4.out.lt
  have hXlt1 := YX4.out.lt
  have YP5 := Lib.hid (YP4.out.step hbj)
  have MP5 := Lib.hid (MP4.out.below hbj)
  have YX5 := Lib.hid (YX4.out.step hbj)
  have MX5 := Lib.hid (MX4.out.below hbj)
  have BW5 := Lib.hid (held_trans BW4.out hbj)
  clear BW4 YP4 MP4 YX4 MX4 
  have Cy := Lib.hid hY
  have Yy5 := Lib.hid hY.b5
  have My5 := Lib.hid ((hm.bound.mono (G := fun b => b < u5.heap.size) (fun b hb => hb.2)).below hbn)
  clear hV hY hbn hm hb hbj C5 t0 t1 t2 t3 t4
  have hnx := MX5.out.ns
  have hna := My5.out.ns
  simp only at hnx hna
  have e0 : ((ns5 : Int) != (ns1 : Int)) = false := by
    have h1 : ns5 = ns1 := by rw [← hna.1, ← hnx.1]; exact HRL.out
    rw [h1]; simp
  clear hnx hna
  have t3 := YX5.out.c3
  have s3 := Yy5.out.c3
  have f3 := Cy.out.f3
  go_upto_region 9 with (rw [← E5.out])
  clear t3 s3 e0 f3 E5
  obtain ⟨V6, hVs⟩ : ∃ V, V = V5.setCell ⟨u5.heap.size, 3, none⟩ (.slice S1 ns1 cs1) := ⟨_, rfl⟩
  rw [← hVs]
  have YP6 := Lib.hid (show B5 V6 w.heap.size (.slice A0 nt ct) (.int .i64 r.size) (.slice R nr cr) (.slice S ns cs) (.int .u64 (r.on : Nat)) from by rw [hVs]; exact YP5.out.far (by first | omega | (simp only; omega) | (show ¬ _; omega)))
  have MP6 := MP5.out.far (X := u5.heap.size) (by first | omega | (simp only; omega) | (show ¬ _; omega)) 3 (.slice S1 ns1 cs1)
  rw [← hVs] at MP6
  replace MP6 := Lib.hid MP6
  have YX6 := Lib.hid (show B5 V6 w3.heap.size (.slice A1 nt1 ct1) (.int .i64 r.size) (.slice R1 nr1 cr1) (.slice S1 ns1 cs1) (.int .u64 (r.on : Nat)) from by rw [hVs]; exact YX5.out.far (by first | omega | (simp only; omega) | (show ¬ _; omega)))
  have MX6 := MX5.out.far (X := u5.heap.size) (by first | omega | (simp only; omega) | (show ¬ _; omega)) 3 (.slice S1 ns1 cs1)
  rw [← hVs] at MX6
  replace MX6 := Lib.hid MX6
  have BW6 := Lib.hid (show Below w.heap.size w V6 from by rw [hVs]; exact BW5.out.setCell (by first | omega | (simp only; omega) | (show ¬ _; omega)) _)
  have hz1 := My5.out.far (X := u5.heap.size) (by first | omega | (simp only; omega) | (show ¬ _; omega)) 3 (.slice S1 ns1 cs1)
  rw [← hVs] at hz1
  have hc1 := Cy.out.set3 (.slice S1 ns1 cs1)
  rw [← hVs] at hc1
  replace Cy := Lib.hid hc1
  have Yy6 := Lib.hid (show B5 V6 u5.heap.size (.slice T5 nt5 ct5) (.int .i64 c0.size) (.slice R5 nr5 cr5) (.slice S1 ns1 cs1) (.int .u64 (c0.on : Nat)) from by
    have h1 : c0.size = cm.size := by rw [HC0.out]
    have h2 : c0.on = cm.on := by rw [HC0.out]
    rw [h1, h2]; exact Cy.out.b5)
  have My6 := Lib.hid (show RM (fun b => b < u5.heap.size) V6 ⟨T5, nt5, ct5, R5, nr5, cr5, S1, ns1, cs1⟩ c0 from by
    have g2 := MX6.out.mono (G := fun b => b < u5.heap.size) (fun b hb => by omega)
    rw [HC0.out]
    exact ⟨hz1.tlen, hz1.tmax, hz1.fit, hz1.tree, hz1.lie, hz1.rings, g2.rows, hz1.on, hz1.size⟩)
  clear hVs hz1 hc1 YP5 MP5 YX5 MX5 Yy5 My5 BW5
  clear Cy hus1 hwlt1 hPlt1 hXlt1
  have hcc := balBalance_any ⟨A1, nt1, ct1, R1, nr1, cr1, S1, ns1, cs1⟩ r V6 MX6.out (fun b hb => Nat.lt_trans hb YX6.out.lt) HLW.out (HTW.out.step BW6.out)
  rw [HBE.out] at hcc
  unfold jv at hcc
  simp only at hcc
  have C7 := Lib.hid hcc
  clear hcc
  have t0 := YX6.out.c0
  have t1 := YX6.out.c1
  have t2 := YX6.out.c2
  have t3 := YX6.out.c3
  have t4 := YX6.out.c4
  go_wp2_with fail
  refine C7.out.mono ?_
  rintro e u7 ⟨⟨T7, nt7, ct7, R7, nr7, cr7, S7, ns7, cs7⟩, rfl, hm, hb⟩
  unfold jv
  simp only
  have hbn := below_new u7 (.cells #[.slice T7 nt7 ct7, .int .i64 b1.size, .slice R7 nr7 cr7, .slice S7 ns7 cs7, .int .u64 (b1.on : Nat)] 33)
  have hY := B5.new u7 (.slice T7 nt7 ct7) (.int .i64 b1.size) (.slice R7 nr7 cr7) (.slice S7 ns7 cs7) (.int .u64 (b1.on : Nat)) 33
  obtain ⟨V7, hV⟩ : ∃ V7, V7 = u7.alloc (.cells #[.slice T7 nt7 ct7, .int .i64 b1.size, .slice R7 nr7 cr7, .slice S7 ns7 cs7, .int .u64 (b1.on : Nat)] 33) := ⟨_, rfl⟩
  rw [← hV] at hbn hY
  have E7 := Lib.hid hV
  have hbj := hb.trans (hbn.mono hb.size)
  have YP7 := Lib.hid (YP6.out.step hbj)
  have MP7 := Lib.hid (MP6.out.below hbj)
  have YX7 := Lib.hid (YX6.out.step hbj)
  have MX7 := Lib.hid (MX6.out.below hbj)
  have Yy7 := Lib.hid (Yy6.out.step hbj)
  have My7 := Lib.hid (My6.out.below hbj)
  have BW7 := Lib.hid (held_trans BW6.out hbj)
  clear BW6 YP6 MP6 YX6 MX6 Yy6 My6 
  have Ya7 := Lib.hid hY
  have Ma7 := Lib.hid ((hm.bound.mono (G := fun b => b < u7.heap.size) (fun b hb => hb.2)).below hbn)
  clear hV hY hbn hm hb hbj C7 t0 t1 t2 t3 t4
  have hcc := balBalance_any ⟨T5, nt5, ct5, R5, nr5, cr5, S1, ns1, cs1⟩ c0 V7 My7.out (fun b hb => Nat.lt_trans hb Yy7.out.lt) HLY.out (HTW.out.step BW7.out)
  rw [HBY.out] at hcc
  unfold jv at hcc
  simp only at hcc
  have C8 := Lib.hid hcc
  clear hcc
  have t0 := Yy7.out.c0
  have t1 := Yy7.out.c1
  have t2 := Yy7.out.c2
  have t3 := Yy7.out.c3
  have t4 := Yy7.out.c4
  go_wp2_with (rw [← E7.out])
  clear E7
  refine C8.out.mono ?_
  rintro e u8 ⟨⟨T8, nt8, ct8, R8, nr8, cr8, S8, ns8, cs8⟩, rfl, hm, hb⟩
  unfold jv
  simp only
  have hbn := below_new u8 (.cells #[.slice T8 nt8 ct8, .int .i64 c1.size, .slice R8 nr8 cr8, .slice S8 ns8 cs8, .int .u64 (c1.on : Nat)] 33)
  have hY := B5.new u8 (.slice T8 nt8 ct8) (.int .i64 c1.size) (.slice R8 nr8 cr8) (.slice S8 ns8 cs8) (.int .u64 (c1.on : Nat)) 33
  obtain ⟨V8, hV⟩ : ∃ V8, V8 = u8.alloc (.cells #[.slice T8 nt8 ct8, .int .i64 c1.size, .slice R8 nr8 cr8, .slice S8 ns8 cs8, .int .u64 (c1.on : Nat)] 33) := ⟨_, rfl⟩
  rw [← hV] at hbn hY
  have E8 := Lib.hid hV
  have hbj := hb.trans (hbn.mono hb.size)
  have YP8 := Lib.hid (YP7.out.step hbj)
  have MP8 := Lib.hid (MP7.out.below hbj)
  have YX8 := Lib.hid (YX7.out.step hbj)
  have MX8 := Lib.hid (MX7.out.below hbj)
  have Yy8 := Lib.hid (Yy7.out.step hbj)
  have My8 := Lib.hid (My7.out.below hbj)
  have Ya8 := Lib.hid (Ya7.out.step hbj)
  have Ma8 := Lib.hid (Ma7.out.below hbj)
  have BW8 := Lib.hid (held_trans BW7.out hbj)
  clear BW7 YP7 MP7 YX7 MX7 Yy7 My7 Ya7 Ma7 
  have Yb8 := Lib.hid hY
  have Mb8 := Lib.hid ((hm.bound.mono (G := fun b => b < u8.heap.size) (fun b hb => hb.2)).below hbn)
  clear hV hY hbn hm hb hbj C8 t0 t1 t2 t3 t4
  have hcc := jreal_any ⟨T8, nt8, ct8, R8, nr8, cr8, S8, ns8, cs8⟩ c1 V8 Mb8.out (fun b hb' => Nat.lt_trans hb' Yb8.out.lt) HLZ.out
  try unfold jv at hcc
  try simp only at hcc
  have C9 := Lib.hid hcc
  clear hcc
  have t0 := Yb8.out.c0
  have t1 := Yb8.out.c1
  have t2 := Yb8.out.c2
  have t3 := Yb8.out.c3
  have t4 := Yb8.out.c4
  go_wp2_with (rw [← E8.out])
  clear E8
  refine C9.out.mono ?_
  rintro e u9 ⟨⟨T9, nt9, ct9, R9, nr9, cr9, S9, ns9, cs9⟩, rfl, hm, hb⟩
  unfold jv
  simp only
  have hbn := below_new u9 (.cells #[.slice T9 nt9 ct9, .int .i64 c1.size, .slice R9 nr9 cr9, .slice S9 ns9 cs9, .int .u64 (c1.on : Nat)] 27)
  have hY := Go.Proofs.YthbeldmgaioemaaDoor.C5.new u9 (.slice T9 nt9 ct9) (.int .i64 c1.size) (.slice R9 nr9 cr9) (.slice S9 ns9 cs9) (.int .u64 (c1.on : Nat)) 27
  obtain ⟨V9, hV⟩ : ∃ V9, V9 = u9.alloc (.cells #[.slice T9 nt9 ct9, .int .i64 c1.size, .slice R9 nr9 cr9, .slice S9 ns9 cs9, .int .u64 (c1.on : Nat)] 27) := ⟨_, rfl⟩
  rw [← hV] at hbn hY
  have E9 := Lib.hid hV
  have hbj := hb.trans (hbn.mono hb.size)
  have hus2 : V8.heap.size ≤ u9.heap.size := hb.size
  have hwlt2 := BW8.out.size
  have hPlt2 := YP8.out.lt
  have hXlt2 := YX8.out.lt
  have hylt2 := Yy8.out.lt
  have halt2 := Ya8.out.lt
  have hblt2 := Yb8.out.lt
  have YP9 := Lib.hid (YP8.out.step hbj)
  have MP9 := Lib.hid (MP8.out.below hbj)
  have YX9 := Lib.hid (YX8.out.step hbj)
  have MX9 := Lib.hid (MX8.out.below hbj)
  have Yy9 := Lib.hid (Yy8.out.step hbj)
  have My9 := Lib.hid (My8.out.below hbj)
  have Ya9 := Lib.hid (Ya8.out.step hbj)
  have Ma9 := Lib.hid (Ma8.out.below hbj)
  have Yb9 := Lib.hid (Yb8.out.step hbj)
  have Mb9 := Lib.hid (Mb8.out.below hbj)
  have BW9 := Lib.hid (held_trans BW8.out hbj)
  clear BW8 YP8 MP8 YX8 MX8 Yy8 My8 Ya8 Ma8 Yb8 Mb8 
  have Cz := Lib.hid hY
  have Yz9 := Lib.hid hY.b5
  have Mz9 := Lib.hid ((hm.bound.mono (G := fun b => b < u9.heap.size) (fun b hb => hb.2)).below hbn)
  clear hV hY hbn hm hb hbj C9 t0 t1 t2 t3 t4
  have p2 := YP9.out.c2
  have z2 := Cz.out.b5.c2
  have f2 := Cz.out.f2
  go_upto_region 13 with (rw [← E9.out])
  clear p2 z2 f2 E9
  obtain ⟨ch, hch⟩ : ∃ c, c = { c1 with rings := r.rings } := ⟨_, rfl⟩
  have HCH := Lib.hid hch
  clear hch
  obtain ⟨cq, hcq⟩ : ∃ c, c = { ch with on := r.on } := ⟨_, rfl⟩
  have HCQ := Lib.hid hcq
  clear hcq
  obtain ⟨V10, hVs⟩ : ∃ V, V = V9.setCell ⟨u9.heap.size, 2, none⟩ (.slice R nr cr) := ⟨_, rfl⟩
  rw [← hVs]
  have YP10 := Lib.hid (show B5 V10 w.heap.size (.slice A0 nt ct) (.int .i64 r.size) (.slice R nr cr) (.slice S ns cs) (.int .u64 (r.on : Nat)) from by rw [hVs]; exact YP9.out.far (by first | omega | (simp only; omega) | (show ¬ _; omega)))
  have MP10 := MP9.out.far (X := u9.heap.size) (by first | omega | (simp only; omega) | (show ¬ _; omega)) 2 (.slice R nr cr)
  rw [← hVs] at MP10
  replace MP10 := Lib.hid MP10
  have YX10 := Lib.hid (show B5 V10 w3.heap.size (.slice A1 nt1 ct1) (.int .i64 r.size) (.slice R1 nr1 cr1) (.slice S1 ns1 cs1) (.int .u64 (r.on : Nat)) from by rw [hVs]; exact YX9.out.far (by first | omega | (simp only; omega) | (show ¬ _; omega)))
  have MX10 := MX9.out.far (X := u9.heap.size) (by first | omega | (simp only; omega) | (show ¬ _; omega)) 2 (.slice R nr cr)
  rw [← hVs] at MX10
  replace MX10 := Lib.hid MX10
  have Yy10 := Lib.hid (show B5 V10 u5.heap.size (.slice T5 nt5 ct5) (.int .i64 c0.size) (.slice R5 nr5 cr5) (.slice S1 ns1 cs1) (.int .u64 (c0.on : Nat)) from by rw [hVs]; exact Yy9.out.far (by first | omega | (simp only; omega) | (show ¬ _; omega)))
  have My10 := My9.out.far (X := u9.heap.size) (by first | omega | (simp only; omega) | (show ¬ _; omega)) 2 (.slice R nr cr)
  rw [← hVs] at My10
  replace My10 := Lib.hid My10
  have Ya10 := Lib.hid (show B5 V10 u7.heap.size (.slice T7 nt7 ct7) (.int .i64 b1.size) (.slice R7 nr7 cr7) (.slice S7 ns7 cs7) (.int .u64 (b1.on : Nat)) from by rw [hVs]; exact Ya9.out.far (by first | omega | (simp only; omega) | (show ¬ _; omega)))
  have Ma10 := Ma9.out.far (X := u9.heap.size) (by first | omega | (simp only; omega) | (show ¬ _; omega)) 2 (.slice R nr cr)
  rw [← hVs] at Ma10
  replace Ma10 := Lib.hid Ma10
  have Yb10 := Lib.hid (show B5 V10 u8.heap.size (.slice T8 nt8 ct8) (.int .i64 c1.size) (.slice R8 nr8 cr8) (.slice S8 ns8 cs8) (.int .u64 (c1.on : Nat)) from by rw [hVs]; exact Yb9.out.far (by first | omega | (simp only; omega) | (show ¬ _; omega)))
  have Mb10 := Mb9.out.far (X := u9.heap.size) (by first | omega | (simp only; omega) | (show ¬ _; omega)) 2 (.slice R nr cr)
  rw [← hVs] at Mb10
  replace Mb10 := Lib.hid Mb10
  have BW10 := Lib.hid (show Below w.heap.size w V10 from by rw [hVs]; exact BW9.out.setCell (by first | omega | (simp only; omega) | (show ¬ _; omega)) _)
  have hz1 := Mz9.out.far (X := u9.heap.size) (by first | omega | (simp only; omega) | (show ¬ _; omega)) 2 (.slice R nr cr)
  rw [← hVs] at hz1
  have hc1 := Cz.out.set2 (.slice R nr cr)
  rw [← hVs] at hc1
  replace Cz := Lib.hid hc1
  have Yz10 := Lib.hid (show B5 V10 u9.heap.size (.slice T9 nt9 ct9) (.int .i64 ch.size) (.slice R nr cr) (.slice S9 ns9 cs9) (.int .u64 (ch.on : Nat)) from by
    have h1 : ch.size = c1.size := by rw [HCH.out]
    have h2 : ch.on = c1.on := by rw [HCH.out]
    rw [h1, h2]; exact Cz.out.b5)
  have Mz10 := Lib.hid (show RM (fun b => b < u9.heap.size) V10 ⟨T9, nt9, ct9, R, nr, cr, S9, ns9, cs9⟩ ch from by
    have g2 := MP10.out.mono (G := fun b => b < u9.heap.size) (fun b hb => by omega)
    rw [HCH.out]
    exact ⟨hz1.tlen, hz1.tmax, hz1.fit, hz1.tree, hz1.lie, g2.rings, hz1.rows, hz1.on, hz1.size⟩)
  clear hVs hz1 hc1 YP9 MP9 YX9 MX9 Yy9 My9 Ya9 Ma9 Yb9 Mb9 Yz9 Mz9 BW9
  have p4 := YP10.out.c4
  have z4 := Cz.out.b5.c4
  have f4 := Cz.out.f4
  go_upto_region 14 with fail
  clear p4 z4 f4
  obtain ⟨V11, hVs⟩ : ∃ V, V = V10.setCell ⟨u9.heap.size, 4, none⟩ (.int .u64 (r.on : Nat)) := ⟨_, rfl⟩
  rw [← hVs]
  have YP11 := Lib.hid (show B5 V11 w.heap.size (.slice A0 nt ct) (.int .i64 r.size) (.slice R nr cr) (.slice S ns cs) (.int .u64 (r.on : Nat)) from by rw [hVs]; exact YP10.out.far (by first | omega | (simp only; omega) | (show ¬ _; omega)))
  have MP11 := MP10.out.far (X := u9.heap.size) (by first | omega | (simp only; omega) | (show ¬ _; omega)) 4 (.int .u64 (r.on : Nat))
  rw [← hVs] at MP11
  replace MP11 := Lib.hid MP11
  have YX11 := Lib.hid (show B5 V11 w3.heap.size (.slice A1 nt1 ct1) (.int .i64 r.size) (.slice R1 nr1 cr1) (.slice S1 ns1 cs1) (.int .u64 (r.on : Nat)) from by rw [hVs]; exact YX10.out.far (by first | omega | (simp only; omega) | (show ¬ _; omega)))
  have MX11 := MX10.out.far (X := u9.heap.size) (by first | omega | (simp only; omega) | (show ¬ _; omega)) 4 (.int .u64 (r.on : Nat))
  rw [← hVs] at MX11
  replace MX11 := Lib.hid MX11
  have Yy11 := Lib.hid (show B5 V11 u5.heap.size (.slice T5 nt5 ct5) (.int .i64 c0.size) (.slice R5 nr5 cr5) (.slice S1 ns1 cs1) (.int .u64 (c0.on : Nat)) from by rw [hVs]; exact Yy10.out.far (by first | omega | (simp only; omega) | (show ¬ _; omega)))
  have My11 := My10.out.far (X := u9.heap.size) (by first | omega | (simp only; omega) | (show ¬ _; omega)) 4 (.int .u64 (r.on : Nat))
  rw [← hVs] at My11
  replace My11 := Lib.hid My11
  have Ya11 := Lib.hid (show B5 V11 u7.heap.size (.slice T7 nt7 ct7) (.int .i64 b1.size) (.slice R7 nr7 cr7) (.slice S7 ns7 cs7) (.int .u64 (b1.on : Nat)) from by rw [hVs]; exact Ya10.out.far (by first | omega | (simp only; omega) | (show ¬ _; omega)))
  have Ma11 := Ma10.out.far (X := u9.heap.size) (by first | omega | (simp only; omega) | (show ¬ _; omega)) 4 (.int .u64 (r.on : Nat))
  rw [← hVs] at Ma11
  replace Ma11 := Lib.hid Ma11
  have Yb11 := Lib.hid (show B5 V11 u8.heap.size (.slice T8 nt8 ct8) (.int .i64 c1.size) (.slice R8 nr8 cr8) (.slice S8 ns8 cs8) (.int .u64 (c1.on : Nat)) from by rw [hVs]; exact Yb10.out.far (by first | omega | (simp only; omega) | (show ¬ _; omega)))
  have Mb11 := Mb10.out.far (X := u9.heap.size) (by first | omega | (simp only; omega) | (show ¬ _; omega)) 4 (.int .u64 (r.on : Nat))
  rw [← hVs] at Mb11
  replace Mb11 := Lib.hid Mb11
  have BW11 := Lib.hid (show Below w.heap.size w V11 from by rw [hVs]; exact BW10.out.setCell (by first | omega | (simp only; omega) | (show ¬ _; omega)) _)
  have hz1 := Mz10.out.far (X := u9.heap.size) (by first | omega | (simp only; omega) | (show ¬ _; omega)) 4 (.int .u64 (r.on : Nat))
  rw [← hVs] at hz1
  have hc1 := Cz.out.set4 (.int .u64 (r.on : Nat))
  rw [← hVs] at hc1
  replace Cz := Lib.hid hc1
  have Yz11 := Lib.hid (show B5 V11 u9.heap.size (.slice T9 nt9 ct9) (.int .i64 cq.size) (.slice R nr cr) (.slice S9 ns9 cs9) (.int .u64 (cq.on : Nat)) from by
    have h1 : cq.size = c1.size := by rw [HCQ.out, HCH.out]
    have h2 : cq.on = r.on := by rw [HCQ.out]
    rw [h1, h2]; exact Cz.out.b5)
  have Mz11 := Lib.hid (show RM (fun b => b < u9.heap.size) V11 ⟨T9, nt9, ct9, R, nr, cr, S9, ns9, cs9⟩ cq from by
    rw [HCQ.out]
    exact ⟨hz1.tlen, hz1.tmax, hz1.fit, hz1.tree, hz1.lie, hz1.rings, hz1.rows, MP11.out.on, hz1.size⟩)
  clear hVs hz1 hc1 YP10 MP10 YX10 MX10 Yy10 My10 Ya10 Ma10 Yb10 Mb10 Yz10 Mz10 BW10
  clear Cz hus2 hwlt2
  have hcc := fun W (hb : Below V11.heap.size V11 W) => jreal_any ⟨T7, nt7, ct7, R7, nr7, cr7, S7, ns7, cs7⟩ b1 W (Ma11.out.below hb) (fun b hb' => Nat.lt_of_lt_of_le (Nat.lt_trans hb' Ya11.out.lt) hb.size) HLA.out
  unfold jv at hcc
  simp only at hcc
  have RA := Lib.hid hcc
  clear hcc
  refine wp_region_held_drew (S := fun w' => B5 w' w.heap.size (.slice A0 nt ct) (.int .i64 r.size) (.slice R nr cr) (.slice S ns cs) (.int .u64 (r.on : Nat)) ∧ B5 w' w3.heap.size (.slice A1 nt1 ct1) (.int .i64 r.size) (.slice R1 nr1 cr1) (.slice S1 ns1 cs1) (.int .u64 (r.on : Nat)) ∧ B5 w' u5.heap.size (.slice T5 nt5 ct5) (.int .i64 c0.size) (.slice R5 nr5 cr5) (.slice S1 ns1 cs1) (.int .u64 (c0.on : Nat)) ∧ B5 w' u7.heap.size (.slice T7 nt7 ct7) (.int .i64 b1.size) (.slice R7 nr7 cr7) (.slice S7 ns7 cs7) (.int .u64 (b1.on : Nat)) ∧ B5 w' u8.heap.size (.slice T8 nt8 ct8) (.int .i64 c1.size) (.slice R8 nr8 cr8) (.slice S8 ns8 cs8) (.int .u64 (c1.on : Nat)) ∧ B5 w' u9.heap.size (.slice T9 nt9 ct9) (.int .i64 cq.size) (.slice R nr cr) (.slice S9 ns9 cs9) (.int .u64 (cq.on : Nat))) (by kernel_rfl) ⟨YP11.out.drew, YX11.out.drew, Yy11.out.drew, Ya11.out.drew, Yb11.out.drew, Yz11.out.drew⟩ (fun hHeld => ?_)
  refine wpAnyH_takesJ (i := 0) (v := (.bool true)) (some 64) rfl rfl (by kernel_rfl) (by kernel_rfl) (by kernel_rfl) (fun _ _ _ h => h) (Or.inl ⟨by rfl, (by intro W9 hSw; clear hSw; go_simp; first | done | with_reducible rfl)⟩) (by assumption) ?_
  simp only [Act.put, List.setIfInBounds_toArray]; try simp only [List.set_cons_zero, List.set_cons_succ]
  refine wpAnyH_takesJ (i := 1) (v := (.bool true)) (some 65) rfl rfl (by kernel_rfl) (by kernel_rfl) (by kernel_rfl) (fun _ _ _ h => h) (Or.inl ⟨by rfl, (by intro W9 hSw; clear hSw; go_simp; first | done | with_reducible rfl)⟩) (by assumption) ?_
  simp only [Act.put, List.setIfInBounds_toArray]; try simp only [List.set_cons_zero, List.set_cons_succ]
  refine wpAnyH_takesJ (i := 2) (v := (.int .i64 (mv : Nat))) (some 66) rfl rfl (by kernel_rfl) (by kernel_rfl) (by kernel_rfl) (fun _ _ _ h => h) (Or.inl ⟨by rfl, (by intro W9 hSw; clear hSw; go_simp; first | done | with_reducible rfl)⟩) (by assumption) ?_
  simp only [Act.put, List.setIfInBounds_toArray]; try simp only [List.set_cons_zero, List.set_cons_succ]
  refine wpAnyH_takesJ (i := 3) (v := (.int .i64 (mv : Nat))) (some 67) rfl rfl (by kernel_rfl) (by kernel_rfl) (by kernel_rfl) (fun _ _ _ h => h) (Or.inl ⟨by rfl, (by intro W9 hSw; clear hSw; go_simp; first | done | with_reducible rfl)⟩) (by assumption) ?_
  simp only [Act.put, List.setIfInBounds_toArray]; try simp only [List.set_cons_zero, List.set_cons_succ]
  refine wpAnyH_takesJ (i := 4) (v := (.bool true)) (some 68) rfl rfl (by kernel_rfl) (by kernel_rfl) (by kernel_rfl) (fun _ _ _ h => h) (Or.inl ⟨by rfl, (by intro W9 hSw; clear hSw; go_simp; first | done | with_reducible rfl)⟩) (by assumption) ?_
  simp only [Act.put, List.setIfInBounds_toArray]; try simp only [List.set_cons_zero, List.set_cons_succ]
  refine wpAnyH_takesJ (i := 5) (v := (.bool true)) (some 69) rfl rfl (by kernel_rfl) (by kernel_rfl) (by kernel_rfl) (fun _ _ _ h => h) (Or.inl ⟨by rfl, (by intro W9 hSw; clear hSw; go_simp; first | done | with_reducible rfl)⟩) (by assumption) ?_
  simp only [Act.put, List.setIfInBounds_toArray]; try simp only [List.set_cons_zero, List.set_cons_succ]
  refine wpAnyH_takesJ (i := 6) (v := (.bool true)) (some 70) rfl rfl (by kernel_rfl) (by kernel_rfl) (by kernel_rfl) (fun _ _ _ h => h) (Or.inl ⟨by rfl, (by intro W9 hSw; clear hSw; go_simp; first | done | with_reducible rfl)⟩) (by assumption) ?_
  simp only [Act.put, List.setIfInBounds_toArray]; try simp only [List.set_cons_zero, List.set_cons_succ]
  refine wpAnyH_takesJ (i := 7) (v := (.agg #[.slice T7 nt7 ct7, .int .i64 b1.size, .slice R7 nr7 cr7, .slice S7 ns7 cs7, .int .u64 (b1.on : Nat)])) (some 71) rfl rfl (by kernel_rfl) (by kernel_rfl) (by kernel_rfl) (fun _ _ _ h => h) (Or.inl ⟨by rfl, (by intro W9 hSw; have s0 := (hSw.2.2.2.1).c0; have s1 := (hSw.2.2.2.1).c1; have s2 := (hSw.2.2.2.1).c2; have s3 := (hSw.2.2.2.1).c3; have s4 := (hSw.2.2.2.1).c4; clear hSw; go_simp; first | done | with_reducible rfl)⟩) (by assumption) ?_
  simp only [Act.put, List.setIfInBounds_toArray]; try simp only [List.set_cons_zero, List.set_cons_succ]
  refine wpAnyH_takesJ (i := 9) (v := (.agg #[.slice T9 nt9 ct9, .int .i64 cq.size, .slice R nr cr, .slice S9 ns9 cs9, .int .u64 (cq.on : Nat)])) (some 73) rfl rfl (by kernel_rfl) (by kernel_rfl) (by kernel_rfl) (fun _ _ _ h => h) (Or.inl ⟨by rfl, (by intro W9 hSw; have s0 := (hSw.2.2.2.2.2).c0; have s1 := (hSw.2.2.2.2.2).c1; have s2 := (hSw.2.2.2.2.2).c2; have s3 := (hSw.2.2.2.2.2).c3; have s4 := (hSw.2.2.2.2.2).c4; clear hSw; go_simp; first | done | with_reducible rfl)⟩) (by assumption) ?_
  simp only [Act.put, List.setIfInBounds_toArray]; try simp only [List.set_cons_zero, List.set_cons_succ]
  refine wpAnyH_ready (rs := [8]) (by kernel_rfl) (by simp) ?_
  refine AllReadyH.cons rfl (fun K hK => ?_) AllReadyH.nil
  go_simp
  go_at_call 17
  refine (RA.out _ (by exact (Below.refl _ _).drew)).mono ?_
  rintro e x1 ⟨⟨Ar1, ntr1, ctr1, Rr1, nrr1, crr1, Sr1, nsr1, csr1⟩, rfl, hmr1, hbx⟩
  have hb1 := (Below.refl V11.heap.size V11).drew.trans (hbx.mono (by simp))
  have hsm := jsame_any ⟨Ar1, ntr1, ctr1, Rr1, nrr1, crr1, Sr1, nsr1, csr1⟩ ⟨T9, nt9, ct9, R, nr, cr, S9, ns9, cs9⟩ b1 cq x1 hmr1 (Mz11.out.below hb1) HLA.out (by rw [HCQ.out, HCH.out, HB1.out]) (by rw [HCQ.out, HCH.out, HC1.out]) (by rw [HCQ.out, HB1.out])
  unfold jv at hsm
  simp only at hsm
  have SM1 := Lib.hid hsm
  clear hsm hmr1
  unfold jv
  simp only
  refine hK.out _ _ (by exact ⟨YP11.out.step hb1, YX11.out.step hb1, Yy11.out.step hb1, Ya11.out.step hb1, Yb11.out.step hb1, Yz11.out.step hb1⟩) (fun hHeld => ?_)
  clear hK K hbx
  try dsimp only
  refine wpAnyH_ready (rs := [10]) (by kernel_rfl) (by simp) ?_
  refine AllReadyH.cons rfl (fun K hK => ?_) AllReadyH.nil
  go_simp
  go_at_call 16
  refine (SM1.out).mono ?_
  rintro e x2 ⟨rfl, hbx⟩
  have hb2 := hb1.trans (hbx.mono hb1.size)
  refine hK.out _ _ (by exact ⟨YP11.out.step hb2, YX11.out.step hb2, Yy11.out.step hb2, Ya11.out.step hb2, Yb11.out.step hb2, Yz11.out.step hb2⟩) (fun hHeld => ?_)
  clear hK K hbx
  try dsimp only
  refine wpAnyH_takesJ (i := 11) (v := (.bool true)) (some 75) rfl rfl (by kernel_rfl) (by kernel_rfl) (by kernel_rfl) (fun _ _ _ h => h) (Or.inl ⟨by rfl, (by intro W9 hSw; clear hSw; go_simp; first | done | with_reducible rfl)⟩) (by assumption) ?_
  simp only [Act.put, List.setIfInBounds_toArray]; try simp only [List.set_cons_zero, List.set_cons_succ]
  refine wpAnyH_takesJ (i := 12) (v := (.bool true)) (some 2) rfl rfl (by kernel_rfl) (by kernel_rfl) (by kernel_rfl) (fun _ _ _ h => h) (Or.inl ⟨by rfl, (by intro W9 hSw; clear hSw; go_simp; first | done | with_reducible rfl)⟩) (by assumption) ?_
  simp only [Act.put, List.setIfInBounds_toArray]; try simp only [List.set_cons_zero, List.set_cons_succ]
  refine wpAnyH_done (by kernel_rfl) ?_ _
  have BE := Lib.hid (held_trans BW11.out hb2)
  clear hb1 hb2
  go_wp2_with fail
  go_ret
  exact ⟨rfl, BE.out⟩
set_option maxRecDepth 100000 in
theorem lifted (os : Os) (started : os.Started) (H : Type) (enc : TypeId × Value → H) :
    ReturnsInHanded {} Tryd.checked os 8 .any (fun w args => (Rows.balanceRingsSpec.pre enc Tryd.prog Tryd.f8 [] false w args ∧ laidMetH Tryd.prog laidList w) ∧ sizedMet enc Tryd.prog Tryd.f8 (OpenSpec.ofChange Rows.balanceRingsSpec) false w args)
      (Rows.balanceRingsSpec.post enc Tryd.prog Tryd.f8 false true false false) := by
  refine returnsInHanded_of_change_and (C := Tryd.checked) (X := fun w _ => laidMetH Tryd.prog laidList w) (fun _ _ _ hh h => h.of_heap hh) own started (by kernel_rfl) Tryd.func8
    (ChangeSpec.witness_shaped (enc := enc) (C := Tryd.checked) (os := os) (X := fun w _ => laidMetH Tryd.prog laidList w) false (World.doorLaid Tryd.prog 14 os) #[.agg #[.slice none 0 0, .int .i64 0, .slice none 0 0, .slice none 0 0, .int .u64 0]] 8 rfl (World.shaped_of_RefB (by kernel_rfl) (by kernel_rfl)) (by kernel_rfl) (by kernel_rfl) (by kernel_rfl) (door_met os _)) ?_
  intro W base args ds gs before hval0 hW _ _ hL _
  have hval : ∀ (j : Nat) t v, Tryd.f8.params[j]? = some t → args[j]? = some v → Value.okWide Tryd.prog W .any base t v := hval0
  have hW' := hW
  obtain ⟨p, q, hA0, hV, rfl, hfz, hnd⟩ := hW
  have hA : DataW.TrodAll enc Tryd.prog W 0 (fun _ => true) true Tryd.f8.params.toList args.toList ds p := hA0
  rw [Tryd.params8] at hA hval
  obtain ⟨v0, vs0, d0, ds0, p0, q0, hargs, rfl, rfl, h0, r0⟩ := trodAll_cons hA
  obtain ⟨rfl, rfl, rfl⟩ := trodAll_nil r0
  obtain rfl : args = #[v0] := by cases args; simp_all
  obtain ⟨rfl, rfl⟩ := trodVars_none hV
  have k0 := h0
  have lt0 : ∀ x ∈ p0, x.block < W.heap.size := by obtain ⟨m, hm⟩ := k0; exact DataW.trod_lt m _ _ _ hm
  obtain ⟨x0, y0, rfl, hr0⟩ := open_runs (hval 0 27 v0 rfl rfl) h0
  clear hA0 hval0
  refine (walk x0 y0 W hr0 (tab_of_laid hL)).mono fun e W' ⟨he, bel⟩ => ?_
  subst he
  exact ⟨_, rfl, _, _, _, [], _, [], hW', trodAll_mk1 (shut_bool Tryd.underlying4 _), (trodAll_cons_mk (Below.trod laidOut (by kernel_rfl) (of_decide_eq_true (by kernel_rfl)) k0 bel lt0) trodAll_mk0), rfl, bel.frame _, fun h => by cases h⟩
theorem over : Rows.BalanceRingsSaid :=
  OpenClaim.holds_of_wide 8 Tryd.f8 rfl rfl rfl rfl rfl rfl rfl ⟨rfl, rfl, rfl, rfl, rfl⟩ rfl rfl rfl rfl rfl (by kernel_rfl) Tryd.func8 (by kernel_rfl)
    (of_decide_eq_true (by kernel_rfl)) (by unfold Func.isWrapper; first | (rw [if_pos (by decide +kernel)]; kernel_rfl) | (rw [if_neg (by decide +kernel)]; exact ⟨rfl, rfl⟩))
    (fun os started H enc _ => lifted os started H enc)
theorem proved : Rows.BalanceRingsCardSaid :=
  Claim7.holds_tied_plain_at .later [] [.data] true Rows.balanceRingsCard.stood.harness false
    over (fun _ h => by cases h) (by kernel_rfl) (fun _ h => by cases h) balanceRings_row_tie rfl ⟨rfl, rfl⟩ (by kernel_rfl) rfl
    (fun f fn hf hfn => by
      obtain rfl : f = 8 := Option.some.inj ((show Tryd.prog.funcNamed "catafalque/catafalquelaw19.BalanceRings" = some 8 by kernel_rfl).symm.trans hf) |>.symm
      obtain rfl : fn = Tryd.f8 := (Option.some.inj (Tryd.func8.symm.trans hfn)).symm
      exact ⟨by kernel_rfl, fun j t ht => by
        rw [Tryd.params8] at ht
        have hm : t ∈ [27] := by simpa using Array.mem_of_getElem? ht
        have hall : ([27].all fun u => !Tryd.prog.wantsStandIn u) = true := by kernel_rfl
        exact (show Tryd.prog.wantsStandIn t = false by simpa using List.all_eq_true.1 hall t hm)⟩)
    (by kernel_rfl)
end Go.Proofs.YthbeldmgaioemaaDoor.balanceRings

