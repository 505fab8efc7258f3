/- RunsTells: of any Runs whether they may be, who stands there, where any one stands, and what they are with any one put, and pushed, are the document's; handed in they stay as they were: the call answers true and changes nothing that was there; for every input. (Written by wip/gen/gen_jlaws.py: change that.) -/
import Derived.Test.YtgloibgmaiadfaaGreatDoorJLow
import Derived.Test.YtgloibgmaiadfaaGreatDoorJReal
import Derived.Test.YtgloibgmaiadfaaGreatDoorJRefPut
import Derived.Test.YtgloibgmaiadfaaGreatDoorM6
namespace Go.Proofs.YtgloibgmaiadfaaGreatDoor.runsTells
open Go.ChangeShapes Go.WideShapes Go.ChangeAt Go.RowKit
set_option linter.unusedVariables false

set_option maxRecDepth 100000 in
set_option maxHeartbeats 8000000 in
theorem walk (d : Ad) (r : Jp.Rn) (p g : Int) (w : World) (h : RMI (fun b => b < w.heap.size) w d r) (hp : In64 p) (hg : In64 g) (hT : Tab w) :
    Calls Tryz.prog 3 #[jv d r, .int .i64 p, .int .i64 g] w fun e w' => e = .returned (.bool true) ∧ Below w.heap.size w w' := by
  have HIN := Lib.hid h.2
  have HR := Lib.hid h.1
  have HTW := Lib.hid hT
  obtain ⟨A0, nt, ct, R, nr, cr, S, ns, cs⟩ := d
  obtain ⟨V, hV, hX, hB⟩ := B5.start w (.slice A0 nt ct) (.int .i64 r.size) (.slice R nr cr) (.slice S ns cs) (.int .u64 (r.on : Nat)) 27
  have E := Lib.hid hV
  have X0 := Lib.hid hX
  have B0 := Lib.hid hB
  have SH := Lib.hid (jshown_any V (hT.step hB))
  clear h hT hV hX hB
  unfold jv
  go_enter Tryz.func3, Tryz.ntmps3
  go_wp2_with (rw [← E.out])
  clear E
  refine SH.out.mono ?_
  rintro e w1 ⟨rfl, hb1⟩
  have X1 := Lib.hid (X0.out.step hb1)
  have B1 := Lib.hid (held_trans B0.out hb1)
  have p0 := X1.out.c0
  have p1 := X1.out.c1
  have p2 := X1.out.c2
  have p3 := X1.out.c3
  have p4 := X1.out.c4
  have hFW := fun T HT => few_any ⟨A0, nt, ct, R, nr, cr, S, ns, cs⟩ r T w1 HT (HR.out.below B1.out) HIN.out
  unfold jv at hFW
  simp only at hFW
  have FW := Lib.hid hFW
  clear hb1 SH X0 B0 hFW
  go_wp2_with fail
  by_cases hfew : ¬ FewP r
  · refine (FW.out false (Lib.hid (by simp [hfew]))).mono ?_
    rintro e w2 ⟨rfl, hb2⟩
    have BE := Lib.hid (held_trans B1.out hb2)
    go_wp2_with fail
    go_ret
    exact ⟨rfl, BE.out⟩
  have hfew := Classical.not_not.1 hfew
  have HFEW := Lib.hid hfew
  refine (FW.out true (Lib.hid (by simp [hfew]))).mono ?_
  rintro e w2 ⟨rfl, hb2⟩
  have X2 := Lib.hid (X1.out.step hb2)
  have B2 := Lib.hid (held_trans B1.out hb2)
  have p0 := X2.out.c0
  have p1 := X2.out.c1
  have p2 := X2.out.c2
  have p3 := X2.out.c3
  have p4 := X2.out.c4
  clear hb2 FW X1 B1 hfew
  have hMD := jmade_any ⟨A0, nt, ct, R, nr, cr, S, ns, cs⟩ r w2 (HR.out.below B2.out) (fun b hb => Nat.lt_of_lt_of_le hb B2.out.size) HFEW.out.low
  unfold jv at hMD
  simp only at hMD
  have MD := Lib.hid hMD
  clear hMD
  go_wp2_with fail
  refine MD.out.mono ?_
  rintro e w3 ⟨⟨A1, nt1, ct1, R1, nr1, cr1, S1, ns1, cs1⟩, rfl, hm3, hb3⟩
  unfold jv
  simp only
  have hbn := below_new w3 (.cells #[.slice A1 nt1 ct1, .int .i64 r.size, .slice R1 nr1 cr1, .slice S1 ns1 cs1, .int .u64 (r.on : Nat)] 33)
  have hY := B5.new w3 (.slice A1 nt1 ct1) (.int .i64 r.size) (.slice R1 nr1 cr1) (.slice S1 ns1 cs1) (.int .u64 (r.on : Nat)) 33
  obtain ⟨V4, hV4⟩ : ∃ V4, V4 = w3.alloc (.cells #[.slice A1 nt1 ct1, .int .i64 r.size, .slice R1 nr1 cr1, .slice S1 ns1 cs1, .int .u64 (r.on : Nat)] 33) := ⟨_, rfl⟩
  rw [← hV4] at hbn hY
  have E4 := Lib.hid hV4
  have B4 := Lib.hid (held_trans (held_trans B2.out hb3) hbn)
  have P4 := Lib.hid ((X2.out.step hb3).step hbn)
  have Y4 := Lib.hid hY
  have M4 := Lib.hid (show RM (fun b => b < w3.heap.size) V4 ⟨A1, nt1, ct1, R1, nr1, cr1, S1, ns1, cs1⟩ r from (hm3.bound.mono (fun b hb => hb.2)).below hbn)
  have HX4 := Lib.hid (show w3.heap.size < V4.heap.size from hY.lt)
  have HWX := Lib.hid (show w.heap.size ≤ w3.heap.size from (held_trans B2.out hb3).size)
  clear hm3 hb3 hbn hY hV4 MD X2 B2 p0 p1 p2 p3 p4
  obtain ⟨pa, hpa⟩ : ∃ pa, pa = Jp.put r p g := ⟨_, rfl⟩
  obtain ⟨pc, hpc⟩ : ∃ pc, pc = Jp.push r p g := ⟨_, rfl⟩
  have YP4 := P4
  have YX4 := Y4
  have MX4 := M4
  have MP4 := Lib.hid (HR.out.below B4.out)
  have BW4 := B4
  have HLW := Lib.hid HFEW.out.low
  clear P4 Y4 M4 B4
  have HPA := Lib.hid hpa
  have HPC := Lib.hid hpc
  clear hpa hpc
  have hcc := runsPut_any ⟨A1, nt1, ct1, R1, nr1, cr1, S1, ns1, cs1⟩ r p g V4 MX4.out (fun b hb => Nat.lt_trans hb YX4.out.lt) HLW.out hp hg (HTW.out.step BW4.out)
  rw [← HPA.out] at hcc
  unfold jv at hcc
  simp only at hcc
  have C5 := Lib.hid hcc
  clear hcc
  have t0 := YX4.out.c0
  have t1 := YX4.out.c1
  have t2 := YX4.out.c2
  have t3 := YX4.out.c3
  have t4 := YX4.out.c4
  go_wp2_with (rw [← E4.out])
  clear E4
  refine C5.out.mono ?_
  rintro e u5 ⟨⟨T5, nt5, ct5, R5, nr5, cr5, S5, ns5, cs5⟩, rfl, hm, hb⟩
  unfold jv
  simp only
  have hbn := below_new u5 (.cells #[.slice T5 nt5 ct5, .int .i64 pa.1.size, .slice R5 nr5 cr5, .slice S5 ns5 cs5, .int .u64 (pa.1.on : Nat)] 33)
  have hY := B5.new u5 (.slice T5 nt5 ct5) (.int .i64 pa.1.size) (.slice R5 nr5 cr5) (.slice S5 ns5 cs5) (.int .u64 (pa.1.on : Nat)) 33
  obtain ⟨V5, hV⟩ : ∃ V5, V5 = u5.alloc (.cells #[.slice T5 nt5 ct5, .int .i64 pa.1.size, .slice R5 nr5 cr5, .slice S5 ns5 cs5, .int .u64 (pa.1.on : Nat)] 33) := ⟨_, rfl⟩
  rw [← hV] at hbn hY
  have E5 := Lib.hid hV
  have hbj := hb.trans (hbn.mono hb.size)
  have YP5 := Lib.hid (YP4.out.step hbj)
  have MP5 := Lib.hid (MP4.out.below hbj)
  have YX5 := Lib.hid (YX4.out.step hbj)
  have MX5 := Lib.hid (MX4.out.below hbj)
  have BW5 := Lib.hid (held_trans BW4.out hbj)
  clear BW4 YP4 MP4 YX4 MX4 
  have Ya5 := Lib.hid hY
  have Ma5 := Lib.hid ((hm.bound.mono (G := fun b => b < u5.heap.size) (fun b hb => hb.2)).below hbn)
  clear hV hY hbn hm hb hbj C5 t0 t1 t2 t3 t4
  have hcc := jrefPut_any ⟨A0, nt, ct, R, nr, cr, S, ns, cs⟩ r p g V5 MP5.out (fun b hb => Nat.lt_trans hb YP5.out.lt) HLW.out hg
  rw [← HPA.out] at hcc
  unfold jv at hcc
  simp only at hcc
  have C6 := Lib.hid hcc
  clear hcc
  have t0 := YP5.out.c0
  have t1 := YP5.out.c1
  have t2 := YP5.out.c2
  have t3 := YP5.out.c3
  have t4 := YP5.out.c4
  go_wp2_with (rw [← E5.out])
  clear E5
  refine C6.out.mono ?_
  rintro e u6 ⟨⟨T6, nt6, ct6, R6, nr6, cr6, S6, ns6, cs6⟩, rfl, hm, hb⟩
  unfold jv
  simp only
  have hbn := below_new u6 (.cells #[.slice T6 nt6 ct6, .int .i64 pa.1.size, .slice R6 nr6 cr6, .slice S6 ns6 cs6, .int .u64 (pa.1.on : Nat)] 27)
  have hY := B5.new u6 (.slice T6 nt6 ct6) (.int .i64 pa.1.size) (.slice R6 nr6 cr6) (.slice S6 ns6 cs6) (.int .u64 (pa.1.on : Nat)) 27
  obtain ⟨V6, hV⟩ : ∃ V6, V6 = u6.alloc (.cells #[.slice T6 nt6 ct6, .int .i64 pa.1.size, .slice R6 nr6 cr6, .slice S6 ns6 cs6, .int .u64 (pa.1.on : Nat)] 27) := ⟨_, rfl⟩
  rw [← hV] at hbn hY
  have E6 := Lib.hid hV
  have hbj := hb.trans (hbn.mono hb.size)
  have YP6 := Lib.hid (YP5.out.step hbj)
  have MP6 := Lib.hid (MP5.out.below hbj)
  have YX6 := Lib.hid (YX5.out.step hbj)
  have MX6 := Lib.hid (MX5.out.below hbj)
  have Ya6 := Lib.hid (Ya5.out.step hbj)
  have Ma6 := Lib.hid (Ma5.out.below hbj)
  have BW6 := Lib.hid (held_trans BW5.out hbj)
  clear BW5 YP5 MP5 YX5 MX5 Ya5 Ma5 
  have Yb6 := Lib.hid hY
  have Mb6 := Lib.hid ((hm.bound.mono (G := fun b => b < u6.heap.size) (fun b hb => hb.2)).below hbn)
  clear hV hY hbn hm hb hbj C6 t0 t1 t2 t3 t4
  have hcc := runsPush_any ⟨A1, nt1, ct1, R1, nr1, cr1, S1, ns1, cs1⟩ r p g V6 MX6.out (fun b hb => Nat.lt_trans hb YX6.out.lt) HLW.out hp hg (HTW.out.step BW6.out)
  rw [← HPC.out] at hcc
  unfold jv at hcc
  simp only at hcc
  have C7 := Lib.hid hcc
  clear hcc
  have t0 := YX6.out.c0
  have t1 := YX6.out.c1
  have t2 := YX6.out.c2
  have t3 := YX6.out.c3
  have t4 := YX6.out.c4
  go_wp2_with (rw [← E6.out])
  clear E6
  refine C7.out.mono ?_
  rintro e u7 ⟨⟨T7, nt7, ct7, R7, nr7, cr7, S7, ns7, cs7⟩, rfl, hm, hb⟩
  unfold jv
  simp only
  have hbn := below_new u7 (.cells #[.slice T7 nt7 ct7, .int .i64 pc.1.size, .slice R7 nr7 cr7, .slice S7 ns7 cs7, .int .u64 (pc.1.on : Nat)] 33)
  have hY := B5.new u7 (.slice T7 nt7 ct7) (.int .i64 pc.1.size) (.slice R7 nr7 cr7) (.slice S7 ns7 cs7) (.int .u64 (pc.1.on : Nat)) 33
  obtain ⟨V7, hV⟩ : ∃ V7, V7 = u7.alloc (.cells #[.slice T7 nt7 ct7, .int .i64 pc.1.size, .slice R7 nr7 cr7, .slice S7 ns7 cs7, .int .u64 (pc.1.on : Nat)] 33) := ⟨_, rfl⟩
  rw [← hV] at hbn hY
  have E7 := Lib.hid hV
  have hbj := hb.trans (hbn.mono hb.size)
  have YP7 := Lib.hid (YP6.out.step hbj)
  have MP7 := Lib.hid (MP6.out.below hbj)
  have YX7 := Lib.hid (YX6.out.step hbj)
  have MX7 := Lib.hid (MX6.out.below hbj)
  have Ya7 := Lib.hid (Ya6.out.step hbj)
  have Ma7 := Lib.hid (Ma6.out.below hbj)
  have Yb7 := Lib.hid (Yb6.out.step hbj)
  have Mb7 := Lib.hid (Mb6.out.below hbj)
  have BW7 := Lib.hid (held_trans BW6.out hbj)
  clear BW6 YP6 MP6 YX6 MX6 Ya6 Ma6 Yb6 Mb6 
  have Yc7 := Lib.hid hY
  have Mc7 := Lib.hid ((hm.bound.mono (G := fun b => b < u7.heap.size) (fun b hb => hb.2)).below hbn)
  clear hV hY hbn hm hb hbj C7 t0 t1 t2 t3 t4
  have hcc := jrefPush_any ⟨A0, nt, ct, R, nr, cr, S, ns, cs⟩ r p g V7 MP7.out (fun b hb => Nat.lt_trans hb YP7.out.lt) HLW.out hg
  rw [← HPC.out] at hcc
  unfold jv at hcc
  simp only at hcc
  have C8 := Lib.hid hcc
  clear hcc
  have t0 := YP7.out.c0
  have t1 := YP7.out.c1
  have t2 := YP7.out.c2
  have t3 := YP7.out.c3
  have t4 := YP7.out.c4
  go_wp2_with (rw [← E7.out])
  clear E7
  refine C8.out.mono ?_
  rintro e u8 ⟨⟨T8, nt8, ct8, R8, nr8, cr8, S8, ns8, cs8⟩, rfl, hm, hb⟩
  unfold jv
  simp only
  have hbn := below_new u8 (.cells #[.slice T8 nt8 ct8, .int .i64 pc.1.size, .slice R8 nr8 cr8, .slice S8 ns8 cs8, .int .u64 (pc.1.on : Nat)] 27)
  have hY := B5.new u8 (.slice T8 nt8 ct8) (.int .i64 pc.1.size) (.slice R8 nr8 cr8) (.slice S8 ns8 cs8) (.int .u64 (pc.1.on : Nat)) 27
  obtain ⟨V8, hV⟩ : ∃ V8, V8 = u8.alloc (.cells #[.slice T8 nt8 ct8, .int .i64 pc.1.size, .slice R8 nr8 cr8, .slice S8 ns8 cs8, .int .u64 (pc.1.on : Nat)] 27) := ⟨_, rfl⟩
  rw [← hV] at hbn hY
  have E8 := Lib.hid hV
  have hbj := hb.trans (hbn.mono hb.size)
  have YP8 := Lib.hid (YP7.out.step hbj)
  have MP8 := Lib.hid (MP7.out.below hbj)
  have YX8 := Lib.hid (YX7.out.step hbj)
  have MX8 := Lib.hid (MX7.out.below hbj)
  have Ya8 := Lib.hid (Ya7.out.step hbj)
  have Ma8 := Lib.hid (Ma7.out.below hbj)
  have Yb8 := Lib.hid (Yb7.out.step hbj)
  have Mb8 := Lib.hid (Mb7.out.below hbj)
  have Yc8 := Lib.hid (Yc7.out.step hbj)
  have Mc8 := Lib.hid (Mc7.out.below hbj)
  have BW8 := Lib.hid (held_trans BW7.out hbj)
  clear BW7 YP7 MP7 YX7 MX7 Ya7 Ma7 Yb7 Mb7 Yc7 Mc7 
  have Yd8 := Lib.hid hY
  have Md8 := Lib.hid ((hm.bound.mono (G := fun b => b < u8.heap.size) (fun b hb => hb.2)).below hbn)
  clear hV hY hbn hm hb hbj C8 t0 t1 t2 t3 t4
  obtain ⟨pw, hpw⟩ : ∃ pw, pw = Jp.whr r g := ⟨_, rfl⟩
  have HPW := Lib.hid hpw
  clear hpw
  have hcc := runsWhere_any ⟨A1, nt1, ct1, R1, nr1, cr1, S1, ns1, cs1⟩ r g V8 MX8.out HLW.out
  rw [← HPW.out] at hcc
  unfold jv at hcc
  simp only at hcc
  have C9 := Lib.hid hcc
  clear hcc
  have t0 := YX8.out.c0
  have t1 := YX8.out.c1
  have t2 := YX8.out.c2
  have t3 := YX8.out.c3
  have t4 := YX8.out.c4
  go_wp2_with (rw [← E8.out])
  clear E8
  refine C9.out.mono ?_
  rintro e V9 ⟨rfl, hb⟩
  have YP9 := Lib.hid (YP8.out.step hb)
  have MP9 := Lib.hid (MP8.out.below hb)
  have YX9 := Lib.hid (YX8.out.step hb)
  have MX9 := Lib.hid (MX8.out.below hb)
  have Ya9 := Lib.hid (Ya8.out.step hb)
  have Ma9 := Lib.hid (Ma8.out.below hb)
  have Yb9 := Lib.hid (Yb8.out.step hb)
  have Mb9 := Lib.hid (Mb8.out.below hb)
  have Yc9 := Lib.hid (Yc8.out.step hb)
  have Mc9 := Lib.hid (Mc8.out.below hb)
  have Yd9 := Lib.hid (Yd8.out.step hb)
  have Md9 := Lib.hid (Md8.out.below hb)
  have BW9 := Lib.hid (held_trans BW8.out hb)
  clear BW8 YP8 MP8 YX8 MX8 Ya8 Ma8 Yb8 Mb8 Yc8 Mc8 Yd8 Md8 
  clear hb C9 t0 t1 t2 t3 t4
  have hcc := jrefWhere_any ⟨A0, nt, ct, R, nr, cr, S, ns, cs⟩ r g V9 MP9.out HLW.out
  rw [← HPW.out] at hcc
  unfold jv at hcc
  simp only at hcc
  have C10 := Lib.hid hcc
  clear hcc
  have t0 := YP9.out.c0
  have t1 := YP9.out.c1
  have t2 := YP9.out.c2
  have t3 := YP9.out.c3
  have t4 := YP9.out.c4
  go_wp2_with fail
  refine C10.out.mono ?_
  rintro e V10 ⟨rfl, hb⟩
  have YP10 := Lib.hid (YP9.out.step hb)
  have MP10 := Lib.hid (MP9.out.below hb)
  have YX10 := Lib.hid (YX9.out.step hb)
  have MX10 := Lib.hid (MX9.out.below hb)
  have Ya10 := Lib.hid (Ya9.out.step hb)
  have Ma10 := Lib.hid (Ma9.out.below hb)
  have Yb10 := Lib.hid (Yb9.out.step hb)
  have Mb10 := Lib.hid (Mb9.out.below hb)
  have Yc10 := Lib.hid (Yc9.out.step hb)
  have Mc10 := Lib.hid (Mc9.out.below hb)
  have Yd10 := Lib.hid (Yd9.out.step hb)
  have Md10 := Lib.hid (Md9.out.below hb)
  have BW10 := Lib.hid (held_trans BW9.out hb)
  clear BW9 YP9 MP9 YX9 MX9 Ya9 Ma9 Yb9 Mb9 Yc9 Mc9 Yd9 Md9 
  clear hb C10 t0 t1 t2 t3 t4
  have t0 := YX10.out.c0
  have t1 := YX10.out.c1
  have t2 := YX10.out.c2
  have t3 := YX10.out.c3
  have t4 := YX10.out.c4
  have HLA := Lib.hid (show Low pa.1 from by rw [HPA.out]; exact low_put HFEW.out p g hg)
  have HLC := Lib.hid (show Low pc.1 from by rw [HPC.out]; exact low_push HFEW.out p g hg)
  obtain ⟨Tb, hTb⟩ : ∃ Tb : Bool, (Tb = true ↔ Jp.May r) := by
    by_cases h : Jp.May r
    · exact ⟨true, by simp [h]⟩
    · exact ⟨false, by simp [h]⟩
  have HTB := Lib.hid hTb
  clear hTb
  have hcc := fun W (hb : Below V10.heap.size V10 W) => jreal_any ⟨T5, nt5, ct5, R5, nr5, cr5, S5, ns5, cs5⟩ pa.1 W (Ma10.out.below hb) (fun b hb' => Nat.lt_of_lt_of_le (Nat.lt_trans hb' Ya10.out.lt) hb.size) HLA.out
  unfold jv at hcc
  simp only at hcc
  have RA := Lib.hid hcc
  clear hcc
  have hcc := fun W (hb : Below V10.heap.size V10 W) => jreal_any ⟨T7, nt7, ct7, R7, nr7, cr7, S7, ns7, cs7⟩ pc.1 W (Mc10.out.below hb) (fun b hb' => Nat.lt_of_lt_of_le (Nat.lt_trans hb' Yc10.out.lt) hb.size) HLC.out
  unfold jv at hcc
  simp only at hcc
  have RC := Lib.hid hcc
  clear hcc
  have hcc := fun W (hb : Below V10.heap.size V10 W) => jreal_any ⟨A1, nt1, ct1, R1, nr1, cr1, S1, ns1, cs1⟩ r W (MX10.out.below hb) (fun b hb' => Nat.lt_of_lt_of_le (Nat.lt_trans hb' YX10.out.lt) hb.size) HLW.out
  unfold jv at hcc
  simp only at hcc
  have RX := Lib.hid hcc
  clear hcc
  have hcc := fun W (hb : Below V10.heap.size V10 W) => runsMay_any ⟨A1, nt1, ct1, R1, nr1, cr1, S1, ns1, cs1⟩ r Tb W HTB (MX10.out.below hb) HLW.out (HTW.out.step (held_trans BW10.out hb))
  unfold jv at hcc
  simp only at hcc
  have MY := Lib.hid hcc
  clear hcc
  have hcc := fun W (hb : Below V10.heap.size V10 W) => jrefMay_any ⟨A0, nt, ct, R, nr, cr, S, ns, cs⟩ r Tb W HTB (MP10.out.below hb) HLW.out
  unfold jv at hcc
  simp only at hcc
  have MR := Lib.hid hcc
  clear hcc
  have hcc := fun W (hb : Below V10.heap.size V10 W) => runsAll_any ⟨A1, nt1, ct1, R1, nr1, cr1, S1, ns1, cs1⟩ r W (MX10.out.below hb) HLW.out
  unfold jv at hcc
  simp only at hcc
  have AX := Lib.hid hcc
  clear hcc
  have hcc := fun W (hb : Below V10.heap.size V10 W) => jrefAll_any ⟨A0, nt, ct, R, nr, cr, S, ns, cs⟩ r W (MP10.out.below hb) HLW.out
  unfold jv at hcc
  simp only at hcc
  have AP := Lib.hid hcc
  clear hcc
  clear t0 t1 t2 t3 t4
  have t0 := YX10.out.c0
  have t1 := YX10.out.c1
  have t2 := YX10.out.c2
  have t3 := YX10.out.c3
  have t4 := YX10.out.c4
  go_wp2_with fail
  clear t0 t1 t2 t3 t4
  refine wp_region_held_drew (S := fun w' => B5 w' w.heap.size (.slice A0 nt ct) (.int .i64 r.size) (.slice R nr cr) (.slice S ns cs) (.int .u64 (r.on : Nat)) ∧ B5 w' w3.heap.size (.slice A1 nt1 ct1) (.int .i64 r.size) (.slice R1 nr1 cr1) (.slice S1 ns1 cs1) (.int .u64 (r.on : Nat)) ∧ B5 w' u5.heap.size (.slice T5 nt5 ct5) (.int .i64 pa.1.size) (.slice R5 nr5 cr5) (.slice S5 ns5 cs5) (.int .u64 (pa.1.on : Nat)) ∧ B5 w' u6.heap.size (.slice T6 nt6 ct6) (.int .i64 pa.1.size) (.slice R6 nr6 cr6) (.slice S6 ns6 cs6) (.int .u64 (pa.1.on : Nat)) ∧ B5 w' u7.heap.size (.slice T7 nt7 ct7) (.int .i64 pc.1.size) (.slice R7 nr7 cr7) (.slice S7 ns7 cs7) (.int .u64 (pc.1.on : Nat)) ∧ B5 w' u8.heap.size (.slice T8 nt8 ct8) (.int .i64 pc.1.size) (.slice R8 nr8 cr8) (.slice S8 ns8 cs8) (.int .u64 (pc.1.on : Nat))) (by kernel_rfl) ⟨YP10.out.drew, YX10.out.drew, Ya10.out.drew, Yb10.out.drew, Yc10.out.drew, Yd10.out.drew⟩ (fun hHeld => ?_)
  refine wpAnyH_takesJ (i := 0) (v := (.bool true)) (some 68) rfl rfl (by kernel_rfl) (by kernel_rfl) (by kernel_rfl) (fun _ _ _ h => h) (Or.inl ⟨by rfl, (by intro W9 hSw; clear hSw; go_simp; first | done | with_reducible rfl)⟩) (by assumption) ?_
  simp only [Act.put, List.setIfInBounds_toArray]; try simp only [List.set_cons_zero, List.set_cons_succ]
  refine wpAnyH_takesJ (i := 1) (v := (.bool true)) (some 69) rfl rfl (by kernel_rfl) (by kernel_rfl) (by kernel_rfl) (fun _ _ _ h => h) (Or.inl ⟨by rfl, (by intro W9 hSw; clear hSw; go_simp; first | done | with_reducible rfl)⟩) (by assumption) ?_
  simp only [Act.put, List.setIfInBounds_toArray]; try simp only [List.set_cons_zero, List.set_cons_succ]
  refine wpAnyH_takesJ (i := 2) (v := (.agg #[.slice T5 nt5 ct5, .int .i64 pa.1.size, .slice R5 nr5 cr5, .slice S5 ns5 cs5, .int .u64 (pa.1.on : Nat)])) (some 70) rfl rfl (by kernel_rfl) (by kernel_rfl) (by kernel_rfl) (fun _ _ _ h => h) (Or.inl ⟨by rfl, (by intro W9 hSw; have s0 := (hSw.2.2.1).c0; have s1 := (hSw.2.2.1).c1; have s2 := (hSw.2.2.1).c2; have s3 := (hSw.2.2.1).c3; have s4 := (hSw.2.2.1).c4; clear hSw; go_simp; first | done | with_reducible rfl)⟩) (by assumption) ?_
  simp only [Act.put, List.setIfInBounds_toArray]; try simp only [List.set_cons_zero, List.set_cons_succ]
  refine wpAnyH_takesJ (i := 4) (v := (.agg #[.slice T6 nt6 ct6, .int .i64 pa.1.size, .slice R6 nr6 cr6, .slice S6 ns6 cs6, .int .u64 (pa.1.on : Nat)])) (some 72) rfl rfl (by kernel_rfl) (by kernel_rfl) (by kernel_rfl) (fun _ _ _ h => h) (Or.inl ⟨by rfl, (by intro W9 hSw; have s0 := (hSw.2.2.2.1).c0; have s1 := (hSw.2.2.2.1).c1; have s2 := (hSw.2.2.2.1).c2; have s3 := (hSw.2.2.2.1).c3; have s4 := (hSw.2.2.2.1).c4; clear hSw; go_simp; first | done | with_reducible rfl)⟩) (by assumption) ?_
  simp only [Act.put, List.setIfInBounds_toArray]; try simp only [List.set_cons_zero, List.set_cons_succ]
  refine wpAnyH_ready (rs := [3]) (by kernel_rfl) (by simp) ?_
  refine AllReadyH.cons rfl (fun K hK => ?_) AllReadyH.nil
  go_simp
  go_at_call 14
  refine (RA.out _ (by exact (Below.refl _ _).drew)).mono ?_
  rintro e x1 ⟨⟨Ar1, ntr1, ctr1, Rr1, nrr1, crr1, Sr1, nsr1, csr1⟩, rfl, hmr1, hbx⟩
  have hb1 := (Below.refl V10.heap.size V10).drew.trans (hbx.mono (by simp))
  have hsm := jsame_any ⟨Ar1, ntr1, ctr1, Rr1, nrr1, crr1, Sr1, nsr1, csr1⟩ ⟨T6, nt6, ct6, R6, nr6, cr6, S6, ns6, cs6⟩ pa.1 pa.1 x1 hmr1 (Mb10.out.below hb1) HLA.out rfl rfl rfl
  unfold jv at hsm
  simp only at hsm
  have SM1 := Lib.hid hsm
  clear hsm hmr1
  unfold jv
  simp only
  refine hK.out _ _ (by exact ⟨YP10.out.step hb1, YX10.out.step hb1, Ya10.out.step hb1, Yb10.out.step hb1, Yc10.out.step hb1, Yd10.out.step hb1⟩) (fun hHeld => ?_)
  clear hK K hbx
  try dsimp only
  refine wpAnyH_ready (rs := [5]) (by kernel_rfl) (by simp) ?_
  refine AllReadyH.cons rfl (fun K hK => ?_) AllReadyH.nil
  go_simp
  go_at_call 13
  refine (SM1.out).mono ?_
  rintro e x2 ⟨rfl, hbx⟩
  have hb2 := hb1.trans (hbx.mono hb1.size)
  refine hK.out _ _ (by exact ⟨YP10.out.step hb2, YX10.out.step hb2, Ya10.out.step hb2, Yb10.out.step hb2, Yc10.out.step hb2, Yd10.out.step hb2⟩) (fun hHeld => ?_)
  clear hK K hbx
  try dsimp only
  refine wpAnyH_takesJ (i := 6) (v := (.bool true)) (some 74) rfl rfl (by kernel_rfl) (by kernel_rfl) (by kernel_rfl) (fun _ _ _ h => h) (Or.inl ⟨by rfl, (by intro W9 hSw; clear hSw; go_simp; first | done | with_reducible rfl)⟩) (by assumption) ?_
  simp only [Act.put, List.setIfInBounds_toArray]; try simp only [List.set_cons_zero, List.set_cons_succ]
  refine wpAnyH_takesJ (i := 7) (v := (.bool true)) (some 75) rfl rfl (by kernel_rfl) (by kernel_rfl) (by kernel_rfl) (fun _ _ _ h => h) (Or.inl ⟨by rfl, (by intro W9 hSw; clear hSw; go_simp; first | done | with_reducible rfl)⟩) (by assumption) ?_
  simp only [Act.put, List.setIfInBounds_toArray]; try simp only [List.set_cons_zero, List.set_cons_succ]
  refine wpAnyH_takesJ (i := 8) (v := (.int .i64 pa.2)) (some 76) rfl rfl (by kernel_rfl) (by kernel_rfl) (by kernel_rfl) (fun _ _ _ h => h) (Or.inl ⟨by rfl, (by intro W9 hSw; clear hSw; go_simp; first | done | with_reducible rfl)⟩) (by assumption) ?_
  simp only [Act.put, List.setIfInBounds_toArray]; try simp only [List.set_cons_zero, List.set_cons_succ]
  refine wpAnyH_takesJ (i := 9) (v := (.int .i64 pa.2)) (some 77) rfl rfl (by kernel_rfl) (by kernel_rfl) (by kernel_rfl) (fun _ _ _ h => h) (Or.inl ⟨by rfl, (by intro W9 hSw; clear hSw; go_simp; first | done | with_reducible rfl)⟩) (by assumption) ?_
  simp only [Act.put, List.setIfInBounds_toArray]; try simp only [List.set_cons_zero, List.set_cons_succ]
  refine wpAnyH_takesJ (i := 10) (v := (.bool true)) (some 78) rfl rfl (by kernel_rfl) (by kernel_rfl) (by kernel_rfl) (fun _ _ _ h => h) (Or.inl ⟨by rfl, (by intro W9 hSw; clear hSw; go_simp; first | done | with_reducible rfl)⟩) (by assumption) ?_
  simp only [Act.put, List.setIfInBounds_toArray]; try simp only [List.set_cons_zero, List.set_cons_succ]
  refine wpAnyH_takesJ (i := 11) (v := (.bool true)) (some 79) rfl rfl (by kernel_rfl) (by kernel_rfl) (by kernel_rfl) (fun _ _ _ h => h) (Or.inl ⟨by rfl, (by intro W9 hSw; clear hSw; go_simp; first | done | with_reducible rfl)⟩) (by assumption) ?_
  simp only [Act.put, List.setIfInBounds_toArray]; try simp only [List.set_cons_zero, List.set_cons_succ]
  refine wpAnyH_takesJ (i := 12) (v := (.bool true)) (some 80) rfl rfl (by kernel_rfl) (by kernel_rfl) (by kernel_rfl) (fun _ _ _ h => h) (Or.inl ⟨by rfl, (by intro W9 hSw; clear hSw; go_simp; first | done | with_reducible rfl)⟩) (by assumption) ?_
  simp only [Act.put, List.setIfInBounds_toArray]; try simp only [List.set_cons_zero, List.set_cons_succ]
  refine wpAnyH_takesJ (i := 13) (v := (.agg #[.slice T7 nt7 ct7, .int .i64 pc.1.size, .slice R7 nr7 cr7, .slice S7 ns7 cs7, .int .u64 (pc.1.on : Nat)])) (some 81) rfl rfl (by kernel_rfl) (by kernel_rfl) (by kernel_rfl) (fun _ _ _ h => h) (Or.inl ⟨by rfl, (by intro W9 hSw; have s0 := (hSw.2.2.2.2.1).c0; have s1 := (hSw.2.2.2.2.1).c1; have s2 := (hSw.2.2.2.2.1).c2; have s3 := (hSw.2.2.2.2.1).c3; have s4 := (hSw.2.2.2.2.1).c4; clear hSw; go_simp; first | done | with_reducible rfl)⟩) (by assumption) ?_
  simp only [Act.put, List.setIfInBounds_toArray]; try simp only [List.set_cons_zero, List.set_cons_succ]
  refine wpAnyH_takesJ (i := 15) (v := (.agg #[.slice T8 nt8 ct8, .int .i64 pc.1.size, .slice R8 nr8 cr8, .slice S8 ns8 cs8, .int .u64 (pc.1.on : Nat)])) (some 83) rfl rfl (by kernel_rfl) (by kernel_rfl) (by kernel_rfl) (fun _ _ _ h => h) (Or.inl ⟨by rfl, (by intro W9 hSw; have s0 := (hSw.2.2.2.2.2).c0; have s1 := (hSw.2.2.2.2.2).c1; have s2 := (hSw.2.2.2.2.2).c2; have s3 := (hSw.2.2.2.2.2).c3; have s4 := (hSw.2.2.2.2.2).c4; clear hSw; go_simp; first | done | with_reducible rfl)⟩) (by assumption) ?_
  simp only [Act.put, List.setIfInBounds_toArray]; try simp only [List.set_cons_zero, List.set_cons_succ]
  refine wpAnyH_ready (rs := [14]) (by kernel_rfl) (by simp) ?_
  refine AllReadyH.cons rfl (fun K hK => ?_) AllReadyH.nil
  go_simp
  go_at_call 14
  refine (RC.out _ (by exact hb2)).mono ?_
  rintro e x3 ⟨⟨Ar2, ntr2, ctr2, Rr2, nrr2, crr2, Sr2, nsr2, csr2⟩, rfl, hmr2, hbx⟩
  have hb3 := hb2.trans (hbx.mono hb2.size)
  have hsm := jsame_any ⟨Ar2, ntr2, ctr2, Rr2, nrr2, crr2, Sr2, nsr2, csr2⟩ ⟨T8, nt8, ct8, R8, nr8, cr8, S8, ns8, cs8⟩ pc.1 pc.1 x3 hmr2 (Md10.out.below hb3) HLC.out rfl rfl rfl
  unfold jv at hsm
  simp only at hsm
  have SM2 := Lib.hid hsm
  clear hsm hmr2
  unfold jv
  simp only
  refine hK.out _ _ (by exact ⟨YP10.out.step hb3, YX10.out.step hb3, Ya10.out.step hb3, Yb10.out.step hb3, Yc10.out.step hb3, Yd10.out.step hb3⟩) (fun hHeld => ?_)
  clear hK K hbx
  try dsimp only
  refine wpAnyH_ready (rs := [16]) (by kernel_rfl) (by simp) ?_
  refine AllReadyH.cons rfl (fun K hK => ?_) AllReadyH.nil
  go_simp
  go_at_call 13
  refine (SM2.out).mono ?_
  rintro e x4 ⟨rfl, hbx⟩
  have hb4 := hb3.trans (hbx.mono hb3.size)
  refine hK.out _ _ (by exact ⟨YP10.out.step hb4, YX10.out.step hb4, Ya10.out.step hb4, Yb10.out.step hb4, Yc10.out.step hb4, Yd10.out.step hb4⟩) (fun hHeld => ?_)
  clear hK K hbx
  try dsimp only
  refine wpAnyH_takesJ (i := 17) (v := (.bool true)) (some 85) rfl rfl (by kernel_rfl) (by kernel_rfl) (by kernel_rfl) (fun _ _ _ h => h) (Or.inl ⟨by rfl, (by intro W9 hSw; clear hSw; go_simp; first | done | with_reducible rfl)⟩) (by assumption) ?_
  simp only [Act.put, List.setIfInBounds_toArray]; try simp only [List.set_cons_zero, List.set_cons_succ]
  refine wpAnyH_takesJ (i := 18) (v := (.bool true)) (some 86) rfl rfl (by kernel_rfl) (by kernel_rfl) (by kernel_rfl) (fun _ _ _ h => h) (Or.inl ⟨by rfl, (by intro W9 hSw; clear hSw; go_simp; first | done | with_reducible rfl)⟩) (by assumption) ?_
  simp only [Act.put, List.setIfInBounds_toArray]; try simp only [List.set_cons_zero, List.set_cons_succ]
  refine wpAnyH_takesJ (i := 19) (v := (.int .i64 pc.2)) (some 87) rfl rfl (by kernel_rfl) (by kernel_rfl) (by kernel_rfl) (fun _ _ _ h => h) (Or.inl ⟨by rfl, (by intro W9 hSw; clear hSw; go_simp; first | done | with_reducible rfl)⟩) (by assumption) ?_
  simp only [Act.put, List.setIfInBounds_toArray]; try simp only [List.set_cons_zero, List.set_cons_succ]
  refine wpAnyH_takesJ (i := 20) (v := (.int .i64 pc.2)) (some 88) rfl rfl (by kernel_rfl) (by kernel_rfl) (by kernel_rfl) (fun _ _ _ h => h) (Or.inl ⟨by rfl, (by intro W9 hSw; clear hSw; go_simp; first | done | with_reducible rfl)⟩) (by assumption) ?_
  simp only [Act.put, List.setIfInBounds_toArray]; try simp only [List.set_cons_zero, List.set_cons_succ]
  refine wpAnyH_takesJ (i := 21) (v := (.bool true)) (some 89) rfl rfl (by kernel_rfl) (by kernel_rfl) (by kernel_rfl) (fun _ _ _ h => h) (Or.inl ⟨by rfl, (by intro W9 hSw; clear hSw; go_simp; first | done | with_reducible rfl)⟩) (by assumption) ?_
  simp only [Act.put, List.setIfInBounds_toArray]; try simp only [List.set_cons_zero, List.set_cons_succ]
  refine wpAnyH_takesJ (i := 22) (v := (.bool true)) (some 90) rfl rfl (by kernel_rfl) (by kernel_rfl) (by kernel_rfl) (fun _ _ _ h => h) (Or.inl ⟨by rfl, (by intro W9 hSw; clear hSw; go_simp; first | done | with_reducible rfl)⟩) (by assumption) ?_
  simp only [Act.put, List.setIfInBounds_toArray]; try simp only [List.set_cons_zero, List.set_cons_succ]
  refine wpAnyH_takesJ (i := 23) (v := (.bool true)) (some 91) rfl rfl (by kernel_rfl) (by kernel_rfl) (by kernel_rfl) (fun _ _ _ h => h) (Or.inl ⟨by rfl, (by intro W9 hSw; clear hSw; go_simp; first | done | with_reducible rfl)⟩) (by assumption) ?_
  simp only [Act.put, List.setIfInBounds_toArray]; try simp only [List.set_cons_zero, List.set_cons_succ]
  refine wpAnyH_takesJ (i := 24) (v := (.int .i64 pw.1)) (some 92) rfl rfl (by kernel_rfl) (by kernel_rfl) (by kernel_rfl) (fun _ _ _ h => h) (Or.inl ⟨by rfl, (by intro W9 hSw; clear hSw; go_simp; first | done | with_reducible rfl)⟩) (by assumption) ?_
  simp only [Act.put, List.setIfInBounds_toArray]; try simp only [List.set_cons_zero, List.set_cons_succ]
  refine wpAnyH_takesJ (i := 25) (v := (.int .i64 pw.1)) (some 93) rfl rfl (by kernel_rfl) (by kernel_rfl) (by kernel_rfl) (fun _ _ _ h => h) (Or.inl ⟨by rfl, (by intro W9 hSw; clear hSw; go_simp; first | done | with_reducible rfl)⟩) (by assumption) ?_
  simp only [Act.put, List.setIfInBounds_toArray]; try simp only [List.set_cons_zero, List.set_cons_succ]
  refine wpAnyH_takesJ (i := 26) (v := (.bool true)) (some 94) rfl rfl (by kernel_rfl) (by kernel_rfl) (by kernel_rfl) (fun _ _ _ h => h) (Or.inl ⟨by rfl, (by intro W9 hSw; clear hSw; go_simp; first | done | with_reducible rfl)⟩) (by assumption) ?_
  simp only [Act.put, List.setIfInBounds_toArray]; try simp only [List.set_cons_zero, List.set_cons_succ]
  refine wpAnyH_takesJ (i := 27) (v := (.bool true)) (some 95) rfl rfl (by kernel_rfl) (by kernel_rfl) (by kernel_rfl) (fun _ _ _ h => h) (Or.inl ⟨by rfl, (by intro W9 hSw; clear hSw; go_simp; first | done | with_reducible rfl)⟩) (by assumption) ?_
  simp only [Act.put, List.setIfInBounds_toArray]; try simp only [List.set_cons_zero, List.set_cons_succ]
  refine wpAnyH_takesJ (i := 28) (v := (.bool true)) (some 96) rfl rfl (by kernel_rfl) (by kernel_rfl) (by kernel_rfl) (fun _ _ _ h => h) (Or.inl ⟨by rfl, (by intro W9 hSw; clear hSw; go_simp; first | done | with_reducible rfl)⟩) (by assumption) ?_
  simp only [Act.put, List.setIfInBounds_toArray]; try simp only [List.set_cons_zero, List.set_cons_succ]
  refine wpAnyH_takesJ (i := 29) (v := (.int .i64 pw.2)) (some 97) rfl rfl (by kernel_rfl) (by kernel_rfl) (by kernel_rfl) (fun _ _ _ h => h) (Or.inl ⟨by rfl, (by intro W9 hSw; clear hSw; go_simp; first | done | with_reducible rfl)⟩) (by assumption) ?_
  simp only [Act.put, List.setIfInBounds_toArray]; try simp only [List.set_cons_zero, List.set_cons_succ]
  refine wpAnyH_takesJ (i := 30) (v := (.int .i64 pw.2)) (some 98) rfl rfl (by kernel_rfl) (by kernel_rfl) (by kernel_rfl) (fun _ _ _ h => h) (Or.inl ⟨by rfl, (by intro W9 hSw; clear hSw; go_simp; first | done | with_reducible rfl)⟩) (by assumption) ?_
  simp only [Act.put, List.setIfInBounds_toArray]; try simp only [List.set_cons_zero, List.set_cons_succ]
  refine wpAnyH_takesJ (i := 31) (v := (.bool true)) (some 99) rfl rfl (by kernel_rfl) (by kernel_rfl) (by kernel_rfl) (fun _ _ _ h => h) (Or.inl ⟨by rfl, (by intro W9 hSw; clear hSw; go_simp; first | done | with_reducible rfl)⟩) (by assumption) ?_
  simp only [Act.put, List.setIfInBounds_toArray]; try simp only [List.set_cons_zero, List.set_cons_succ]
  refine wpAnyH_takesJ (i := 32) (v := (.bool true)) (some 100) rfl rfl (by kernel_rfl) (by kernel_rfl) (by kernel_rfl) (fun _ _ _ h => h) (Or.inl ⟨by rfl, (by intro W9 hSw; clear hSw; go_simp; first | done | with_reducible rfl)⟩) (by assumption) ?_
  simp only [Act.put, List.setIfInBounds_toArray]; try simp only [List.set_cons_zero, List.set_cons_succ]
  refine wpAnyH_takesJ (i := 33) (v := (.bool true)) (some 101) rfl rfl (by kernel_rfl) (by kernel_rfl) (by kernel_rfl) (fun _ _ _ h => h) (Or.inl ⟨by rfl, (by intro W9 hSw; clear hSw; go_simp; first | done | with_reducible rfl)⟩) (by assumption) ?_
  simp only [Act.put, List.setIfInBounds_toArray]; try simp only [List.set_cons_zero, List.set_cons_succ]
  refine wpAnyH_takesJ (i := 34) (v := (.agg #[.slice A1 nt1 ct1, .int .i64 r.size, .slice R1 nr1 cr1, .slice S1 ns1 cs1, .int .u64 (r.on : Nat)])) (some 102) rfl rfl (by kernel_rfl) (by kernel_rfl) (by kernel_rfl) (fun _ _ _ h => h) (Or.inl ⟨by rfl, (by intro W9 hSw; have s0 := (hSw.2.1).c0; have s1 := (hSw.2.1).c1; have s2 := (hSw.2.1).c2; have s3 := (hSw.2.1).c3; have s4 := (hSw.2.1).c4; clear hSw; go_simp; first | done | with_reducible rfl)⟩) (by assumption) ?_
  simp only [Act.put, List.setIfInBounds_toArray]; try simp only [List.set_cons_zero, List.set_cons_succ]
  refine wpAnyH_takesJ (i := 36) (v := (.agg #[.slice A0 nt ct, .int .i64 r.size, .slice R nr cr, .slice S ns cs, .int .u64 (r.on : Nat)])) (some 104) rfl rfl (by kernel_rfl) (by kernel_rfl) (by kernel_rfl) (fun _ _ _ h => h) (Or.inl ⟨by rfl, (by intro W9 hSw; have s0 := (hSw.1).c0; have s1 := (hSw.1).c1; have s2 := (hSw.1).c2; have s3 := (hSw.1).c3; have s4 := (hSw.1).c4; clear hSw; go_simp; first | done | with_reducible rfl)⟩) (by assumption) ?_
  simp only [Act.put, List.setIfInBounds_toArray]; try simp only [List.set_cons_zero, List.set_cons_succ]
  refine wpAnyH_ready (rs := [35]) (by kernel_rfl) (by simp) ?_
  refine AllReadyH.cons rfl (fun K hK => ?_) AllReadyH.nil
  go_simp
  go_at_call 15
  refine (MY.out _ (by exact hb4)).mono ?_
  rintro e x5 ⟨rfl, hbx⟩
  have hb5 := hb4.trans (hbx.mono hb4.size)
  refine hK.out _ _ (by exact ⟨YP10.out.step hb5, YX10.out.step hb5, Ya10.out.step hb5, Yb10.out.step hb5, Yc10.out.step hb5, Yd10.out.step hb5⟩) (fun hHeld => ?_)
  clear hK K hbx
  try dsimp only
  refine wpAnyH_ready (rs := [37]) (by kernel_rfl) (by simp) ?_
  refine AllReadyH.cons rfl (fun K hK => ?_) AllReadyH.nil
  go_simp
  go_at_call 16
  refine (MR.out _ (by exact hb5)).mono ?_
  rintro e x6 ⟨rfl, hbx⟩
  have hb6 := hb5.trans (hbx.mono hb5.size)
  refine hK.out _ _ (by exact ⟨YP10.out.step hb6, YX10.out.step hb6, Ya10.out.step hb6, Yb10.out.step hb6, Yc10.out.step hb6, Yd10.out.step hb6⟩) (fun hHeld => ?_)
  clear hK K hbx
  try dsimp only
  refine wpAnyH_takesJ (i := 38) (v := (.bool true)) (some 106) rfl rfl (by kernel_rfl) (by kernel_rfl) (by kernel_rfl) (fun _ _ _ h => h) (Or.inl ⟨by rfl, (by intro W9 hSw; clear hSw; go_simp; first | done | with_reducible rfl)⟩) (by assumption) ?_
  simp only [Act.put, List.setIfInBounds_toArray]; try simp only [List.set_cons_zero, List.set_cons_succ]
  refine wpAnyH_takesJ (i := 39) (v := (.bool true)) (some 107) rfl rfl (by kernel_rfl) (by kernel_rfl) (by kernel_rfl) (fun _ _ _ h => h) (Or.inl ⟨by rfl, (by intro W9 hSw; clear hSw; go_simp; first | done | with_reducible rfl)⟩) (by assumption) ?_
  simp only [Act.put, List.setIfInBounds_toArray]; try simp only [List.set_cons_zero, List.set_cons_succ]
  refine wpAnyH_takesJ (i := 40) (v := (.bool true)) (some 108) rfl rfl (by kernel_rfl) (by kernel_rfl) (by kernel_rfl) (fun _ _ _ h => h) (Or.inl ⟨by rfl, (by intro W9 hSw; clear hSw; go_simp; first | done | with_reducible rfl)⟩) (by assumption) ?_
  simp only [Act.put, List.setIfInBounds_toArray]; try simp only [List.set_cons_zero, List.set_cons_succ]
  refine wpAnyH_takesJ (i := 41) (v := (.agg #[.slice A1 nt1 ct1, .int .i64 r.size, .slice R1 nr1 cr1, .slice S1 ns1 cs1, .int .u64 (r.on : Nat)])) (some 109) rfl rfl (by kernel_rfl) (by kernel_rfl) (by kernel_rfl) (fun _ _ _ h => h) (Or.inl ⟨by rfl, (by intro W9 hSw; have s0 := (hSw.2.1).c0; have s1 := (hSw.2.1).c1; have s2 := (hSw.2.1).c2; have s3 := (hSw.2.1).c3; have s4 := (hSw.2.1).c4; clear hSw; go_simp; first | done | with_reducible rfl)⟩) (by assumption) ?_
  simp only [Act.put, List.setIfInBounds_toArray]; try simp only [List.set_cons_zero, List.set_cons_succ]
  refine wpAnyH_takesJ (i := 43) (v := (.agg #[.slice A0 nt ct, .int .i64 r.size, .slice R nr cr, .slice S ns cs, .int .u64 (r.on : Nat)])) (some 111) rfl rfl (by kernel_rfl) (by kernel_rfl) (by kernel_rfl) (fun _ _ _ h => h) (Or.inl ⟨by rfl, (by intro W9 hSw; have s0 := (hSw.1).c0; have s1 := (hSw.1).c1; have s2 := (hSw.1).c2; have s3 := (hSw.1).c3; have s4 := (hSw.1).c4; clear hSw; go_simp; first | done | with_reducible rfl)⟩) (by assumption) ?_
  simp only [Act.put, List.setIfInBounds_toArray]; try simp only [List.set_cons_zero, List.set_cons_succ]
  refine wpAnyH_ready (rs := [42]) (by kernel_rfl) (by simp) ?_
  refine AllReadyH.cons rfl (fun K hK => ?_) AllReadyH.nil
  go_simp
  go_at_call 18
  refine (AX.out _ (by exact hb6)).mono ?_
  rintro e x7 ⟨Aq, nq, cq, rfl, hrq, _, hbx⟩
  have hb7 := hb6.trans (hbx.mono hb6.size)
  refine hK.out _ _ (by exact ⟨YP10.out.step hb7, YX10.out.step hb7, Ya10.out.step hb7, Yb10.out.step hb7, Yc10.out.step hb7, Yd10.out.step hb7⟩) (fun hHeld => ?_)
  clear hK K hbx
  try dsimp only
  refine wpAnyH_ready (rs := [44]) (by kernel_rfl) (by simp) ?_
  refine AllReadyH.cons rfl (fun K hK => ?_) AllReadyH.nil
  go_simp
  go_at_call 19
  refine (AP.out _ (by exact hb7)).mono ?_
  rintro e x8 ⟨Av, nv, cv', rfl, hrv, _, hbx⟩
  have hb8 := hb7.trans (hbx.mono hb7.size)
  obtain rfl : nq = nv := hrq.len.symm.trans hrv.len
  have IN := Lib.hid (ints_same Aq Av nq cq cv' (Jp.all r) x8 (Lib.hid hrv.len) (by have := hrv.cap; have := hrv.most; omega) (hrq.below hbx).row hrv.row)
  clear hrq hrv
  refine hK.out _ _ (by exact ⟨YP10.out.step hb8, YX10.out.step hb8, Ya10.out.step hb8, Yb10.out.step hb8, Yc10.out.step hb8, Yd10.out.step hb8⟩) (fun hHeld => ?_)
  clear hK K hbx
  try dsimp only
  refine wpAnyH_ready (rs := [45]) (by kernel_rfl) (by simp) ?_
  refine AllReadyH.cons rfl (fun K hK => ?_) AllReadyH.nil
  go_simp
  go_at_call 17
  refine (IN.out).mono ?_
  rintro e x9 ⟨rfl, hbx⟩
  have hb9 := hb8.trans (hbx.mono hb8.size)
  refine hK.out _ _ (by exact ⟨YP10.out.step hb9, YX10.out.step hb9, Ya10.out.step hb9, Yb10.out.step hb9, Yc10.out.step hb9, Yd10.out.step hb9⟩) (fun hHeld => ?_)
  clear hK K hbx
  try dsimp only
  refine wpAnyH_takesJ (i := 46) (v := (.bool true)) (some 114) rfl rfl (by kernel_rfl) (by kernel_rfl) (by kernel_rfl) (fun _ _ _ h => h) (Or.inl ⟨by rfl, (by intro W9 hSw; clear hSw; go_simp; first | done | with_reducible rfl)⟩) (by assumption) ?_
  simp only [Act.put, List.setIfInBounds_toArray]; try simp only [List.set_cons_zero, List.set_cons_succ]
  refine wpAnyH_takesJ (i := 47) (v := (.bool true)) (some 115) rfl rfl (by kernel_rfl) (by kernel_rfl) (by kernel_rfl) (fun _ _ _ h => h) (Or.inl ⟨by rfl, (by intro W9 hSw; clear hSw; go_simp; first | done | with_reducible rfl)⟩) (by assumption) ?_
  simp only [Act.put, List.setIfInBounds_toArray]; try simp only [List.set_cons_zero, List.set_cons_succ]
  refine wpAnyH_takesJ (i := 48) (v := (.agg #[.slice A1 nt1 ct1, .int .i64 r.size, .slice R1 nr1 cr1, .slice S1 ns1 cs1, .int .u64 (r.on : Nat)])) (some 116) rfl rfl (by kernel_rfl) (by kernel_rfl) (by kernel_rfl) (fun _ _ _ h => h) (Or.inl ⟨by rfl, (by intro W9 hSw; have s0 := (hSw.2.1).c0; have s1 := (hSw.2.1).c1; have s2 := (hSw.2.1).c2; have s3 := (hSw.2.1).c3; have s4 := (hSw.2.1).c4; clear hSw; go_simp; first | done | with_reducible rfl)⟩) (by assumption) ?_
  simp only [Act.put, List.setIfInBounds_toArray]; try simp only [List.set_cons_zero, List.set_cons_succ]
  refine wpAnyH_takesJ (i := 50) (v := (.agg #[.slice A0 nt ct, .int .i64 r.size, .slice R nr cr, .slice S ns cs, .int .u64 (r.on : Nat)])) (some 118) rfl rfl (by kernel_rfl) (by kernel_rfl) (by kernel_rfl) (fun _ _ _ h => h) (Or.inl ⟨by rfl, (by intro W9 hSw; have s0 := (hSw.1).c0; have s1 := (hSw.1).c1; have s2 := (hSw.1).c2; have s3 := (hSw.1).c3; have s4 := (hSw.1).c4; clear hSw; go_simp; first | done | with_reducible rfl)⟩) (by assumption) ?_
  simp only [Act.put, List.setIfInBounds_toArray]; try simp only [List.set_cons_zero, List.set_cons_succ]
  refine wpAnyH_ready (rs := [49]) (by kernel_rfl) (by simp) ?_
  refine AllReadyH.cons rfl (fun K hK => ?_) AllReadyH.nil
  go_simp
  go_at_call 14
  refine (RX.out _ (by exact hb9)).mono ?_
  rintro e x10 ⟨⟨Ar3, ntr3, ctr3, Rr3, nrr3, crr3, Sr3, nsr3, csr3⟩, rfl, hmr3, hbx⟩
  have hb10 := hb9.trans (hbx.mono hb9.size)
  have hsm := jsame_any ⟨Ar3, ntr3, ctr3, Rr3, nrr3, crr3, Sr3, nsr3, csr3⟩ ⟨A0, nt, ct, R, nr, cr, S, ns, cs⟩ r r x10 hmr3 (MP10.out.below hb10) HLW.out rfl rfl rfl
  unfold jv at hsm
  simp only at hsm
  have SM3 := Lib.hid hsm
  clear hsm hmr3
  unfold jv
  simp only
  refine hK.out _ _ (by exact ⟨YP10.out.step hb10, YX10.out.step hb10, Ya10.out.step hb10, Yb10.out.step hb10, Yc10.out.step hb10, Yd10.out.step hb10⟩) (fun hHeld => ?_)
  clear hK K hbx
  try dsimp only
  refine wpAnyH_ready (rs := [51]) (by kernel_rfl) (by simp) ?_
  refine AllReadyH.cons rfl (fun K hK => ?_) AllReadyH.nil
  go_simp
  go_at_call 13
  refine (SM3.out).mono ?_
  rintro e x11 ⟨rfl, hbx⟩
  have hb11 := hb10.trans (hbx.mono hb10.size)
  refine hK.out _ _ (by exact ⟨YP10.out.step hb11, YX10.out.step hb11, Ya10.out.step hb11, Yb10.out.step hb11, Yc10.out.step hb11, Yd10.out.step hb11⟩) (fun hHeld => ?_)
  clear hK K hbx
  try dsimp only
  refine wpAnyH_takesJ (i := 52) (v := (.bool true)) (some 120) rfl rfl (by kernel_rfl) (by kernel_rfl) (by kernel_rfl) (fun _ _ _ h => h) (Or.inl ⟨by rfl, (by intro W9 hSw; clear hSw; go_simp; first | done | with_reducible rfl)⟩) (by assumption) ?_
  simp only [Act.put, List.setIfInBounds_toArray]; try simp only [List.set_cons_zero, List.set_cons_succ]
  refine wpAnyH_takesJ (i := 53) (v := (.bool true)) (some 6) rfl rfl (by kernel_rfl) (by kernel_rfl) (by kernel_rfl) (fun _ _ _ h => h) (Or.inl ⟨by rfl, (by intro W9 hSw; clear hSw; go_simp; first | done | with_reducible rfl)⟩) (by assumption) ?_
  simp only [Act.put, List.setIfInBounds_toArray]; try simp only [List.set_cons_zero, List.set_cons_succ]
  refine wpAnyH_done (by kernel_rfl) ?_ _
  have BE := Lib.hid (held_trans BW10.out hb11)
  clear hb1 hb2 hb3 hb4 hb5 hb6 hb7 hb8 hb9 hb10 hb11
  go_wp2_with fail
  go_ret
  exact ⟨rfl, BE.out⟩
set_option maxRecDepth 100000 in
theorem lifted (os : Os) (started : os.Started) (H : Type) (enc : TypeId × Value → H) :
    ReturnsInHanded {} Tryz.checked os 3 .any (fun w args => (Rows.runsTellsSpec.pre enc Tryz.prog Tryz.f3 [] false w args ∧ laidMetH Tryz.prog laidList w) ∧ sizedMet enc Tryz.prog Tryz.f3 (OpenSpec.ofChange Rows.runsTellsSpec) false w args)
      (Rows.runsTellsSpec.post enc Tryz.prog Tryz.f3 false true false false) := by
  refine returnsInHanded_of_change_and (C := Tryz.checked) (X := fun w _ => laidMetH Tryz.prog laidList w) (fun _ _ _ hh h => h.of_heap hh) own started (by kernel_rfl) Tryz.func3
    (ChangeSpec.witness_shaped (enc := enc) (C := Tryz.checked) (os := os) (X := fun w _ => laidMetH Tryz.prog laidList w) false (World.doorLaid Tryz.prog 14 os) #[.agg #[.slice none 0 0, .int .i64 0, .slice none 0 0, .slice none 0 0, .int .u64 0], .int .i64 0, .int .i64 0] 8 rfl (World.shaped_of_RefB (by kernel_rfl) (by kernel_rfl)) (by kernel_rfl) (by kernel_rfl) (by kernel_rfl) (door_met os _)) ?_
  intro W base args ds gs before hval0 hW _ _ hL _
  have hval : ∀ (j : Nat) t v, Tryz.f3.params[j]? = some t → args[j]? = some v → Value.okWide Tryz.prog W .any base t v := hval0
  have hW' := hW
  obtain ⟨p, q, hA0, hV, rfl, hfz, hnd⟩ := hW
  have hA : DataW.TrodAll enc Tryz.prog W 0 (fun _ => true) true Tryz.f3.params.toList args.toList ds p := hA0
  rw [Tryz.params3] at hA hval
  obtain ⟨v0, vs0, d0, ds0, p0, q0, hargs, rfl, rfl, h0, r0⟩ := trodAll_cons hA
  obtain ⟨v1, vs1, d1, ds1, p1, q1, rfl, rfl, rfl, h1, r1⟩ := trodAll_cons r0
  obtain ⟨v2, vs2, d2, ds2, p2, q2, rfl, rfl, rfl, h2, r2⟩ := trodAll_cons r1
  obtain ⟨rfl, rfl, rfl⟩ := trodAll_nil r2
  obtain rfl : args = #[v0, v1, v2] := by cases args; simp_all
  obtain ⟨rfl, rfl⟩ := trodVars_none hV
  have k0 := h0
  have lt0 : ∀ x ∈ p0, x.block < W.heap.size := by obtain ⟨m, hm⟩ := k0; exact DataW.trod_lt m _ _ _ hm
  obtain ⟨x0, y0, rfl, hr0⟩ := open_runs (hval 0 27 v0 rfl rfl) h0
  obtain ⟨a1, rfl, rfl, rfl, w1⟩ := open_int Tryz.underlying3 (hval 1 3 v1 rfl rfl) h1
  obtain ⟨a2, rfl, rfl, rfl, w2⟩ := open_int Tryz.underlying3 (hval 2 3 v2 rfl rfl) h2
  clear hA0 hval0
  refine (walk x0 y0 a1 a2 W hr0 (in64_of_wf w1) (in64_of_wf w2) (tab_of_laid hL)).mono fun e W' ⟨he, bel⟩ => ?_
  subst he
  exact ⟨_, rfl, _, _, _, [], _, [], hW', trodAll_mk1 (shut_bool Tryz.underlying4 _), (trodAll_cons_mk (Below.trod laidOut (by kernel_rfl) (of_decide_eq_true (by kernel_rfl)) k0 bel lt0) (trodAll_cons_mk (shut_int Tryz.underlying3 w1) (trodAll_cons_mk (shut_int Tryz.underlying3 w2) trodAll_mk0))), rfl, bel.frame _, fun h => by cases h⟩
theorem over : Rows.RunsTellsSaid :=
  OpenClaim.holds_of_wide 3 Tryz.f3 rfl rfl rfl rfl rfl rfl rfl ⟨rfl, rfl, rfl, rfl, rfl⟩ rfl rfl rfl rfl rfl (by kernel_rfl) Tryz.func3 (by kernel_rfl)
    (of_decide_eq_true (by kernel_rfl)) (by unfold Func.isWrapper; first | (rw [if_pos (by decide +kernel)]; kernel_rfl) | (rw [if_neg (by decide +kernel)]; exact ⟨rfl, rfl⟩))
    (fun os started H enc _ => lifted os started H enc)
theorem proved : Rows.RunsTellsCardSaid :=
  Claim7.holds_tied_plain_at .later [] [.data] true Rows.runsTellsCard.stood.harness false
    over (fun _ h => by cases h) (by kernel_rfl) (fun _ h => by cases h) runsTells_row_tie rfl ⟨rfl, rfl⟩ (by kernel_rfl) rfl
    (fun f fn hf hfn => by
      obtain rfl : f = 3 := Option.some.inj ((show Tryz.prog.funcNamed "catafalque/catafalquelaw15.RunsTells" = some 3 by kernel_rfl).symm.trans hf) |>.symm
      obtain rfl : fn = Tryz.f3 := (Option.some.inj (Tryz.func3.symm.trans hfn)).symm
      exact ⟨by kernel_rfl, fun j t ht => by
        rw [Tryz.params3] at ht
        have hm : t ∈ [27, 3, 3] := by simpa using Array.mem_of_getElem? ht
        have hall : ([27, 3, 3].all fun u => !Tryz.prog.wantsStandIn u) = true := by kernel_rfl
        exact (show Tryz.prog.wantsStandIn t = false by simpa using List.all_eq_true.1 hall t hm)⟩)
    (by kernel_rfl)
end Go.Proofs.YtgloibgmaiadfaaGreatDoor.runsTells

