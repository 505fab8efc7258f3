/- PlugBack: unplugged and plugged again, all stand where they stood, but those of the ring, who stand in a row; who is plugged can't be plugged, who isn't can't be unplugged: the call answers true and changes nothing that was there; for every input. (Written by wip/gen/gen_nlaws.py: change that.) -/
import Derived.Test.YtcoccegmkcdeiaaDoorNShown
import Derived.Test.YtcoccegmkcdeiaaDoorJMade
import Derived.Test.YtcoccegmkcdeiaaDoorJFew
import Derived.Test.YtcoccegmkcdeiaaDoorM10
import Derived.Test.YtcoccegmkcdeiaaDoorM7
import Derived.Test.YtcoccegmkcdeiaaDoorM9
import Derived.Test.YtcoccegmkcdeiaaDoorM6
import Derived.Test.YtcoccegmkcdeiaaDoorM1
namespace Go.Proofs.YtcoccegmkcdeiaaDoor.plugBack
open Go.ChangeShapes Go.WideShapes Go.ChangeAt Go.RowKit
set_option linter.unusedVariables false

theorem yes_of {P : Prop} (h : P) : true = true ↔ P := ⟨fun _ => h, fun _ => rfl⟩
theorem bag_row (A B : Option Addr) (n m c d : Nat) (a b : List Int) (w : World) (hp : a.Perm b) (h : Row w A n c a) (hB : Row w B m d b) (hm : m ≤ 1000000) :
    Calls Tryd.prog 15 #[.slice A n c, .slice B m d] w fun e w' => e = .returned (.bool true) ∧ Below w.heap.size w w' := by
  have h1 := h.len
  have h2 := hB.len
  have h3 := hp.length_eq
  obtain rfl : n = m := by omega
  exact bag_any A B n c d a b w (Lib.hid hp) h hB (by omega)
set_option maxRecDepth 100000 in
set_option maxHeartbeats 4000000 in
theorem walk (d : Ad) (r : Jp.Rn) (p : Int) (w : World) (h : RMI (fun b => b < w.heap.size) w d r) (hp : In64 p) (hT : Tab w) :
    Calls Tryd.prog 3 #[jv d r, .int .i64 p] w fun e w' => e = .returned (.bool true) ∧ Below w.heap.size w w' := by
  have HIN := Lib.hid h.2
  have HR := Lib.hid h.1
  have HTW := Lib.hid hT
  obtain ⟨A0, nt, ct, R, nr, cr, S, ns, cs⟩ := d
  obtain ⟨V, hV, hX, hB⟩ := B5.start w (.slice A0 nt ct) (.int .i64 r.size) (.slice R nr cr) (.slice S ns cs) (.int .u64 (r.on : Nat)) 27
  have E := Lib.hid hV
  have X0 := Lib.hid hX
  have B0 := Lib.hid hB
  have SH := Lib.hid (nshown_any V (hT.step hB))
  clear h hT hV hX hB
  unfold jv
  go_enter Tryd.func3, Tryd.ntmps3
  go_wp2_with (rw [← E.out])
  clear E
  refine SH.out.mono ?_
  rintro e w1 ⟨rfl, hb1⟩
  have X1 := Lib.hid (X0.out.step hb1)
  have B1 := Lib.hid (held_trans B0.out hb1)
  have p0 := X1.out.c0
  have p1 := X1.out.c1
  have p2 := X1.out.c2
  have p3 := X1.out.c3
  have p4 := X1.out.c4
  have hFW := fun T HT => few_any ⟨A0, nt, ct, R, nr, cr, S, ns, cs⟩ r T w1 HT (HR.out.below B1.out) HIN.out
  unfold jv at hFW
  simp only at hFW
  have FW := Lib.hid hFW
  clear hb1 SH X0 B0 hFW
  go_wp2_with fail
  by_cases hfew : ¬ FewP r
  · refine (FW.out false (Lib.hid (by simp [hfew]))).mono ?_
    rintro e w2 ⟨rfl, hb2⟩
    have BE := Lib.hid (held_trans B1.out hb2)
    go_wp2_with fail
    go_ret
    exact ⟨rfl, BE.out⟩
  have hfew := Classical.not_not.1 hfew
  have HFEW := Lib.hid hfew
  refine (FW.out true (Lib.hid (by simp [hfew]))).mono ?_
  rintro e w2a ⟨rfl, hb2⟩
  have X2a := Lib.hid (X1.out.step hb2)
  have B2a := Lib.hid (held_trans B1.out hb2)
  have p0 := X2a.out.c0
  have p1 := X2a.out.c1
  have p2 := X2a.out.c2
  have p3 := X2a.out.c3
  have p4 := X2a.out.c4
  obtain ⟨Tb, hTb⟩ : ∃ Tb : Bool, (Tb = true ↔ Jp.May r) := by
    by_cases h : Jp.May r
    · exact ⟨true, by simp [h]⟩
    · exact ⟨false, by simp [h]⟩
  have HTB := Lib.hid hTb
  have hMY := jrefMay_any ⟨A0, nt, ct, R, nr, cr, S, ns, cs⟩ r Tb w2a HTB (HR.out.below B2a.out) HFEW.out.low
  unfold jv at hMY
  simp only at hMY
  have MY := Lib.hid hMY
  clear hb2 FW X1 B1 hfew hMY hTb
  go_wp2_with fail
  refine MY.out.mono ?_
  rintro e w2 ⟨rfl, hb2⟩
  have X2 := Lib.hid (X2a.out.step hb2)
  have B2 := Lib.hid (held_trans B2a.out hb2)
  have p0 := X2.out.c0
  have p1 := X2.out.c1
  have p2 := X2.out.c2
  have p3 := X2.out.c3
  have p4 := X2.out.c4
  clear hb2 MY X2a B2a
  cases Tb
  · have BE := B2
    go_wp2_with fail
    go_ret
    exact ⟨rfl, BE.out⟩
  have HMAY := Lib.hid (HTB.out.1 rfl)
  clear HTB
  have hnr0 := HR.out.nr
  simp only at hnr0
  by_cases hpo : p < 0 ∨ (r.rings.length : Int) ≤ p
  · have BE := B2
    by_cases hp0 : p < 0
    · have hq0 : decide (p < 0) = true := decide_eq_true hp0
      go_wp2_with fail
      go_ret
      exact ⟨rfl, BE.out⟩
    · have hp1 : (nr : Int) ≤ p := by omega
      have hq0 : decide (p < 0) = false := decide_eq_false hp0
      have hq1 : decide ((nr : Int) ≤ p) = true := decide_eq_true hp1
      go_wp2_with fail
      go_ret
      exact ⟨rfl, BE.out⟩
  have hp0 : ¬ p < 0 := by omega
  have hp1 : ¬ (nr : Int) ≤ p := by omega
  have hq0 : decide (p < 0) = false := decide_eq_false hp0
  have hq1 : decide ((nr : Int) ≤ p) = false := decide_eq_false hp1
  have hMD := jmade_any ⟨A0, nt, ct, R, nr, cr, S, ns, cs⟩ r w2 (HR.out.below B2.out) (fun b hb => Nat.lt_of_lt_of_le hb B2.out.size) HFEW.out.low
  unfold jv at hMD
  simp only at hMD
  have MD := Lib.hid hMD
  clear hMD
  go_wp2_with fail
  refine MD.out.mono ?_
  rintro e w3 ⟨⟨A1, nt1, ct1, R1, nr1, cr1, S1, ns1, cs1⟩, rfl, hm3, hb3⟩
  unfold jv
  simp only
  have hbn := below_new w3 (.cells #[.slice A1 nt1 ct1, .int .i64 r.size, .slice R1 nr1 cr1, .slice S1 ns1 cs1, .int .u64 (r.on : Nat)] 33)
  have hY := B5.new w3 (.slice A1 nt1 ct1) (.int .i64 r.size) (.slice R1 nr1 cr1) (.slice S1 ns1 cs1) (.int .u64 (r.on : Nat)) 33
  obtain ⟨V4, hV4⟩ : ∃ V4, V4 = w3.alloc (.cells #[.slice A1 nt1 ct1, .int .i64 r.size, .slice R1 nr1 cr1, .slice S1 ns1 cs1, .int .u64 (r.on : Nat)] 33) := ⟨_, rfl⟩
  rw [← hV4] at hbn hY
  have E4 := Lib.hid hV4
  have B4 := Lib.hid (held_trans (held_trans B2.out hb3) hbn)
  have P4 := Lib.hid ((X2.out.step hb3).step hbn)
  have Y4 := Lib.hid hY
  have M4 := Lib.hid (show RM (fun b => b < w3.heap.size) V4 ⟨A1, nt1, ct1, R1, nr1, cr1, S1, ns1, cs1⟩ r from (hm3.bound.mono (fun b hb => hb.2)).below hbn)
  have HX4 := Lib.hid (show w3.heap.size < V4.heap.size from hY.lt)
  have HWX := Lib.hid (show w.heap.size ≤ w3.heap.size from (held_trans B2.out hb3).size)
  clear hm3 hb3 hbn hY hV4 MD X2 B2 p0 p1 p2 p3 p4
  have YP4 := P4
  have YX4 := Y4
  have MX4 := M4
  have MP4 := Lib.hid (HR.out.below B4.out)
  have BW4 := B4
  have HLW := Lib.hid HFEW.out.low
  clear P4 Y4 M4 B4
  obtain ⟨k, hpk, hk⟩ : ∃ k : Nat, p = k ∧ k < r.rings.length := ⟨p.toNat, by omega, by omega⟩
  subst hpk
  have HK := Lib.hid hk
  have HP := Lib.hid hp
  clear hpo hp0 hp1 hq0 hq1 hnr0 hk hp
  have HON := Lib.hid HR.out.on
  have HIN := Lib.hid (show ¬ (¬ Jp.May r ∨ (k : Int) < 0 ∨ (r.rings.length : Int) ≤ k) from by
    rintro (h | h | h)
    · exact h HMAY.out
    · omega
    · have := HK.out; omega)
  obtain ⟨nc, hnc⟩ : ∃ n, n = (Zp.mem r.on).length := ⟨_, rfl⟩
  have HNC := Lib.hid hnc
  have HN1 := Lib.hid (show 1 ≤ nc from by rw [hnc]; exact List.length_pos_iff.2 HMAY.out.some)
  have HN64 := Lib.hid (show nc ≤ 64 from by rw [hnc]; exact Zp.mem_len _)
  clear hnc
  obtain ⟨ob, hob⟩ : ∃ ob, ob = Jp.onP r k := ⟨_, rfl⟩
  have HOB := Lib.hid hob
  clear hob
  have hcc := jrefOn_any ⟨A0, nt, ct, R, nr, cr, S, ns, cs⟩ r (k : Int) V4 MP4.out.on
  rw [← HOB.out] at hcc
  unfold jv at hcc
  simp only at hcc
  have C5 := Lib.hid hcc
  clear hcc
  have t0 := YP4.out.c0
  have t1 := YP4.out.c1
  have t2 := YP4.out.c2
  have t3 := YP4.out.c3
  have t4 := YP4.out.c4
  go_wp2_with (rw [← E4.out])
  clear E4
  refine C5.out.mono ?_
  rintro e V5 ⟨rfl, hb⟩
  have YP5 := Lib.hid (YP4.out.step hb)
  have MP5 := Lib.hid (MP4.out.below hb)
  have YX5 := Lib.hid (YX4.out.step hb)
  have MX5 := Lib.hid (MX4.out.below hb)
  have BW5 := Lib.hid (held_trans BW4.out hb)
  clear BW4 YP4 MP4 YX4 MX4 
  clear hb C5 t0 t1 t2 t3 t4
  cases ob
  · skip
    have HPL := Lib.hid (Jp.plug_done HIN.out HOB.out.symm)
    obtain ⟨g9, hg9⟩ : ∃ g, g = Jp.plugged r k := ⟨_, rfl⟩
    rw [← hg9] at HPL
    have HUN := Lib.hid (Jp.unplug_none (r := r) (p := (k : Int)) (cur := 0) (by rintro (h | h | h | h) <;> first | exact HIN.out (.inl h) | exact HIN.out (.inr (.inl h)) | exact HIN.out (.inr (.inr h)) | omega) HOB.out.symm)
    clear hg9
    have hcc := plugPlug_any ⟨A1, nt1, ct1, R1, nr1, cr1, S1, ns1, cs1⟩ r (k : Int) V5 MX5.out (fun b hb => Nat.lt_trans hb YX5.out.lt) HLW.out HP.out (HTW.out.step BW5.out)
    rw [HPL.out] at hcc
    unfold jv at hcc
    simp only at hcc
    have C6 := Lib.hid hcc
    clear hcc
    have t0 := YX5.out.c0
    have t1 := YX5.out.c1
    have t2 := YX5.out.c2
    have t3 := YX5.out.c3
    have t4 := YX5.out.c4
    go_wp2_with fail
    refine C6.out.mono ?_
    rintro e u6 ⟨⟨T6, nt6, ct6, R6, nr6, cr6, S6, ns6, cs6⟩, rfl, hm, hb⟩
    unfold jv
    simp only
    have hbn := below_new u6 (.cells #[.slice T6 nt6 ct6, .int .i64 g9.size, .slice R6 nr6 cr6, .slice S6 ns6 cs6, .int .u64 (g9.on : Nat)] 33)
    have hY := B5.new u6 (.slice T6 nt6 ct6) (.int .i64 g9.size) (.slice R6 nr6 cr6) (.slice S6 ns6 cs6) (.int .u64 (g9.on : Nat)) 33
    obtain ⟨V6, hV⟩ : ∃ V6, V6 = u6.alloc (.cells #[.slice T6 nt6 ct6, .int .i64 g9.size, .slice R6 nr6 cr6, .slice S6 ns6 cs6, .int .u64 (g9.on : Nat)] 33) := ⟨_, rfl⟩
    rw [← hV] at hbn hY
    have E6 := Lib.hid hV
    have hbj := hb.trans (hbn.mono hb.size)
    have YP6 := Lib.hid (YP5.out.step hbj)
    have MP6 := Lib.hid (MP5.out.below hbj)
    have YX6 := Lib.hid (YX5.out.step hbj)
    have MX6 := Lib.hid (MX5.out.below hbj)
    have BW6 := Lib.hid (held_trans BW5.out hbj)
    clear BW5 YP5 MP5 YX5 MX5 
    have Yc6 := Lib.hid hY
    have Mc6 := Lib.hid ((hm.bound.mono (G := fun b => b < u6.heap.size) (fun b hb => hb.2)).below hbn)
    clear hV hY hbn hm hb hbj C6 t0 t1 t2 t3 t4
    replace Mc6 := Lib.hid (show RM (fun b => b < u6.heap.size) V6 ⟨T6, nt6, ct6, R6, nr6, cr6, S6, ns6, cs6⟩ g9 from Mc6.out)
    have hcc := plugUnplug_any ⟨A1, nt1, ct1, R1, nr1, cr1, S1, ns1, cs1⟩ r (k : Int) 0 V6 MX6.out (fun b hb => Nat.lt_trans hb YX6.out.lt) HLW.out HP.out ⟨by decide, by decide⟩ (HTW.out.step BW6.out)
    rw [HUN.out] at hcc
    unfold jv at hcc
    simp only at hcc
    have C7 := Lib.hid hcc
    clear hcc
    have t0 := YX6.out.c0
    have t1 := YX6.out.c1
    have t2 := YX6.out.c2
    have t3 := YX6.out.c3
    have t4 := YX6.out.c4
    go_wp2_with (rw [← E6.out])
    clear E6
    refine C7.out.mono ?_
    rintro e u7 ⟨⟨T7, nt7, ct7, R7, nr7, cr7, S7, ns7, cs7⟩, rfl, hm, hb⟩
    unfold jv
    simp only
    have hbn := below_new u7 (.cells #[.slice T7 nt7 ct7, .int .i64 r.size, .slice R7 nr7 cr7, .slice S7 ns7 cs7, .int .u64 (r.on : Nat)] 33)
    have hY := B5.new u7 (.slice T7 nt7 ct7) (.int .i64 r.size) (.slice R7 nr7 cr7) (.slice S7 ns7 cs7) (.int .u64 (r.on : Nat)) 33
    obtain ⟨V7, hV⟩ : ∃ V7, V7 = u7.alloc (.cells #[.slice T7 nt7 ct7, .int .i64 r.size, .slice R7 nr7 cr7, .slice S7 ns7 cs7, .int .u64 (r.on : Nat)] 33) := ⟨_, rfl⟩
    rw [← hV] at hbn hY
    have E7 := Lib.hid hV
    have hbj := hb.trans (hbn.mono hb.size)
    have YP7 := Lib.hid (YP6.out.step hbj)
    have MP7 := Lib.hid (MP6.out.below hbj)
    have YX7 := Lib.hid (YX6.out.step hbj)
    have MX7 := Lib.hid (MX6.out.below hbj)
    have Yc7 := Lib.hid (Yc6.out.step hbj)
    have Mc7 := Lib.hid (Mc6.out.below hbj)
    have BW7 := Lib.hid (held_trans BW6.out hbj)
    clear BW6 YP6 MP6 YX6 MX6 Yc6 Mc6 
    have Ya7 := Lib.hid hY
    have Ma7 := Lib.hid ((hm.bound.mono (G := fun b => b < u7.heap.size) (fun b hb => hb.2)).below hbn)
    clear hV hY hbn hm hb hbj C7 t0 t1 t2 t3 t4
    replace Ma7 := Lib.hid (show RM (fun b => b < u7.heap.size) V7 ⟨T7, nt7, ct7, R7, nr7, cr7, S7, ns7, cs7⟩ r from Ma7.out)
    go_wp2_with (rw [← E7.out])
    clear E7
    go_ret
    exact ⟨rfl, BW7.out⟩
  by_cases hc2 : nc < 2
  · skip
    have h1 : nc = 1 := by have := HN1.out; omega
    have HPL := Lib.hid (Jp.plug_there HIN.out HOB.out.symm)
    have HUN := Lib.hid (Jp.unplug_last (r := r) (p := (k : Int)) (cur := 0) (by rintro (h | h | h | h) <;> first | exact HIN.out (.inl h) | exact HIN.out (.inr (.inl h)) | exact HIN.out (.inr (.inr h)) | omega) HOB.out.symm (by rw [← HNC.out]; omega))
    have CT := Lib.hid (fun W => count_any r.on W HON.out)
    rw [← HNC.out] at CT
    subst h1
    have hcc := plugPlug_any ⟨A1, nt1, ct1, R1, nr1, cr1, S1, ns1, cs1⟩ r (k : Int) V5 MX5.out (fun b hb => Nat.lt_trans hb YX5.out.lt) HLW.out HP.out (HTW.out.step BW5.out)
    rw [HPL.out] at hcc
    unfold jv at hcc
    simp only at hcc
    have C6 := Lib.hid hcc
    clear hcc
    have t0 := YX5.out.c0
    have t1 := YX5.out.c1
    have t2 := YX5.out.c2
    have t3 := YX5.out.c3
    have t4 := YX5.out.c4
    go_wp2_with fail
    refine C6.out.mono ?_
    rintro e u6 ⟨⟨T6, nt6, ct6, R6, nr6, cr6, S6, ns6, cs6⟩, rfl, hm, hb⟩
    unfold jv
    simp only
    have hbn := below_new u6 (.cells #[.slice T6 nt6 ct6, .int .i64 r.size, .slice R6 nr6 cr6, .slice S6 ns6 cs6, .int .u64 (r.on : Nat)] 33)
    have hY := B5.new u6 (.slice T6 nt6 ct6) (.int .i64 r.size) (.slice R6 nr6 cr6) (.slice S6 ns6 cs6) (.int .u64 (r.on : Nat)) 33
    obtain ⟨V6, hV⟩ : ∃ V6, V6 = u6.alloc (.cells #[.slice T6 nt6 ct6, .int .i64 r.size, .slice R6 nr6 cr6, .slice S6 ns6 cs6, .int .u64 (r.on : Nat)] 33) := ⟨_, rfl⟩
    rw [← hV] at hbn hY
    have E6 := Lib.hid hV
    have hbj := hb.trans (hbn.mono hb.size)
    have YP6 := Lib.hid (YP5.out.step hbj)
    have MP6 := Lib.hid (MP5.out.below hbj)
    have YX6 := Lib.hid (YX5.out.step hbj)
    have MX6 := Lib.hid (MX5.out.below hbj)
    have BW6 := Lib.hid (held_trans BW5.out hbj)
    clear BW5 YP5 MP5 YX5 MX5 
    have Yc6 := Lib.hid hY
    have Mc6 := Lib.hid ((hm.bound.mono (G := fun b => b < u6.heap.size) (fun b hb => hb.2)).below hbn)
    clear hV hY hbn hm hb hbj C6 t0 t1 t2 t3 t4
    replace Mc6 := Lib.hid (show RM (fun b => b < u6.heap.size) V6 ⟨T6, nt6, ct6, R6, nr6, cr6, S6, ns6, cs6⟩ r from Mc6.out)
    have hcc := plugUnplug_any ⟨A1, nt1, ct1, R1, nr1, cr1, S1, ns1, cs1⟩ r (k : Int) 0 V6 MX6.out (fun b hb => Nat.lt_trans hb YX6.out.lt) HLW.out HP.out ⟨by decide, by decide⟩ (HTW.out.step BW6.out)
    rw [HUN.out] at hcc
    unfold jv at hcc
    simp only at hcc
    have C7 := Lib.hid hcc
    clear hcc
    have t0 := YX6.out.c0
    have t1 := YX6.out.c1
    have t2 := YX6.out.c2
    have t3 := YX6.out.c3
    have t4 := YX6.out.c4
    go_wp2_with (rw [← E6.out])
    clear E6
    refine C7.out.mono ?_
    rintro e u7 ⟨⟨T7, nt7, ct7, R7, nr7, cr7, S7, ns7, cs7⟩, rfl, hm, hb⟩
    unfold jv
    simp only
    have hbn := below_new u7 (.cells #[.slice T7 nt7 ct7, .int .i64 r.size, .slice R7 nr7 cr7, .slice S7 ns7 cs7, .int .u64 (r.on : Nat)] 33)
    have hY := B5.new u7 (.slice T7 nt7 ct7) (.int .i64 r.size) (.slice R7 nr7 cr7) (.slice S7 ns7 cs7) (.int .u64 (r.on : Nat)) 33
    obtain ⟨V7, hV⟩ : ∃ V7, V7 = u7.alloc (.cells #[.slice T7 nt7 ct7, .int .i64 r.size, .slice R7 nr7 cr7, .slice S7 ns7 cs7, .int .u64 (r.on : Nat)] 33) := ⟨_, rfl⟩
    rw [← hV] at hbn hY
    have E7 := Lib.hid hV
    have hbj := hb.trans (hbn.mono hb.size)
    have YP7 := Lib.hid (YP6.out.step hbj)
    have MP7 := Lib.hid (MP6.out.below hbj)
    have YX7 := Lib.hid (YX6.out.step hbj)
    have MX7 := Lib.hid (MX6.out.below hbj)
    have Yc7 := Lib.hid (Yc6.out.step hbj)
    have Mc7 := Lib.hid (Mc6.out.below hbj)
    have BW7 := Lib.hid (held_trans BW6.out hbj)
    clear BW6 YP6 MP6 YX6 MX6 Yc6 Mc6 
    have Ya7 := Lib.hid hY
    have Ma7 := Lib.hid ((hm.bound.mono (G := fun b => b < u7.heap.size) (fun b hb => hb.2)).below hbn)
    clear hV hY hbn hm hb hbj C7 t0 t1 t2 t3 t4
    replace Ma7 := Lib.hid (show RM (fun b => b < u7.heap.size) V7 ⟨T7, nt7, ct7, R7, nr7, cr7, S7, ns7, cs7⟩ r from Ma7.out)
    have t4 := YX7.out.c4
    go_wp2_with (rw [← E7.out])
    clear E7
    refine (CT.out _).mono ?_
    rintro e w9 ⟨rfl, rfl⟩
    go_wp2_with fail
    go_ret
    exact ⟨rfl, BW7.out⟩
  · skip
    have HPL := Lib.hid (Jp.plug_there HIN.out HOB.out.symm)
    obtain ⟨g1, hg1⟩ : ∃ g, g = Jp.gone r k 0 := ⟨_, rfl⟩
    have HUN := Lib.hid (show Jp.unplug r k 0 = (g1, 0) from by rw [hg1]; exact Jp.unplug_done (by rintro (h | h | h | h) <;> first | exact HIN.out (.inl h) | exact HIN.out (.inr (.inl h)) | exact HIN.out (.inr (.inr h)) | omega) HOB.out.symm (by rw [← HNC.out]; omega) (fun h => h.1 rfl))
    obtain ⟨b1, hb1⟩ : ∃ g, g = { g1 with on := r.on } := ⟨_, rfl⟩
    have hbk := Jp.back HMAY.out HK.out HON.out HOB.out.symm (by rw [← HNC.out]; omega)
    rw [← hg1, ← hb1] at hbk
    have HPL2 := Lib.hid hbk.1
    have HUN2 := Lib.hid hbk.2
    have HLG := Lib.hid (show Low g1 from by rw [hg1]; exact low_gone HFEW.out HMAY.out HK.out ⟨by decide, by decide⟩)
    have HLB := Lib.hid (show Low b1 from by rw [hb1]; exact low_on HLG.out _)
    have HBR := Lib.hid (show b1.rings = r.rings.set k (0, []) from by rw [hb1, hg1]; rfl)
    have HBO := Lib.hid (show b1.on = r.on from by rw [hb1])
    have HPM := Lib.hid (show (Jp.all b1).Perm (Jp.all r) from by
      have h := Jp.perm_gone (r := r) (cur := 0) HK.out (Jp.node_lt HMAY.out HK.out)
      rw [if_pos rfl, List.append_nil, ← hg1] at h
      rw [hb1]; exact h)
    clear hg1 hb1 hbk
    have hcc := plugPlug_any ⟨A1, nt1, ct1, R1, nr1, cr1, S1, ns1, cs1⟩ r (k : Int) V5 MX5.out (fun b hb => Nat.lt_trans hb YX5.out.lt) HLW.out HP.out (HTW.out.step BW5.out)
    rw [HPL.out] at hcc
    unfold jv at hcc
    simp only at hcc
    have C6 := Lib.hid hcc
    clear hcc
    have t0 := YX5.out.c0
    have t1 := YX5.out.c1
    have t2 := YX5.out.c2
    have t3 := YX5.out.c3
    have t4 := YX5.out.c4
    go_wp2_with fail
    refine C6.out.mono ?_
    rintro e u6 ⟨⟨T6, nt6, ct6, R6, nr6, cr6, S6, ns6, cs6⟩, rfl, hm, hb⟩
    unfold jv
    simp only
    have hbn := below_new u6 (.cells #[.slice T6 nt6 ct6, .int .i64 r.size, .slice R6 nr6 cr6, .slice S6 ns6 cs6, .int .u64 (r.on : Nat)] 33)
    have hY := B5.new u6 (.slice T6 nt6 ct6) (.int .i64 r.size) (.slice R6 nr6 cr6) (.slice S6 ns6 cs6) (.int .u64 (r.on : Nat)) 33
    obtain ⟨V6, hV⟩ : ∃ V6, V6 = u6.alloc (.cells #[.slice T6 nt6 ct6, .int .i64 r.size, .slice R6 nr6 cr6, .slice S6 ns6 cs6, .int .u64 (r.on : Nat)] 33) := ⟨_, rfl⟩
    rw [← hV] at hbn hY
    have E6 := Lib.hid hV
    have hbj := hb.trans (hbn.mono hb.size)
    have YP6 := Lib.hid (YP5.out.step hbj)
    have MP6 := Lib.hid (MP5.out.below hbj)
    have YX6 := Lib.hid (YX5.out.step hbj)
    have MX6 := Lib.hid (MX5.out.below hbj)
    have BW6 := Lib.hid (held_trans BW5.out hbj)
    clear BW5 YP5 MP5 YX5 MX5 
    have Yc6 := Lib.hid hY
    have Mc6 := Lib.hid ((hm.bound.mono (G := fun b => b < u6.heap.size) (fun b hb => hb.2)).below hbn)
    clear hV hY hbn hm hb hbj C6 t0 t1 t2 t3 t4
    replace Mc6 := Lib.hid (show RM (fun b => b < u6.heap.size) V6 ⟨T6, nt6, ct6, R6, nr6, cr6, S6, ns6, cs6⟩ r from Mc6.out)
    have hcc := plugUnplug_any ⟨A1, nt1, ct1, R1, nr1, cr1, S1, ns1, cs1⟩ r (k : Int) 0 V6 MX6.out (fun b hb => Nat.lt_trans hb YX6.out.lt) HLW.out HP.out ⟨by decide, by decide⟩ (HTW.out.step BW6.out)
    rw [HUN.out] at hcc
    unfold jv at hcc
    simp only at hcc
    have C7 := Lib.hid hcc
    clear hcc
    have t0 := YX6.out.c0
    have t1 := YX6.out.c1
    have t2 := YX6.out.c2
    have t3 := YX6.out.c3
    have t4 := YX6.out.c4
    go_wp2_with (rw [← E6.out])
    clear E6
    refine C7.out.mono ?_
    rintro e u7 ⟨⟨T7, nt7, ct7, R7, nr7, cr7, S7, ns7, cs7⟩, rfl, hm, hb⟩
    unfold jv
    simp only
    have hbn := below_new u7 (.cells #[.slice T7 nt7 ct7, .int .i64 g1.size, .slice R7 nr7 cr7, .slice S7 ns7 cs7, .int .u64 (g1.on : Nat)] 33)
    have hY := B5.new u7 (.slice T7 nt7 ct7) (.int .i64 g1.size) (.slice R7 nr7 cr7) (.slice S7 ns7 cs7) (.int .u64 (g1.on : Nat)) 33
    obtain ⟨V7, hV⟩ : ∃ V7, V7 = u7.alloc (.cells #[.slice T7 nt7 ct7, .int .i64 g1.size, .slice R7 nr7 cr7, .slice S7 ns7 cs7, .int .u64 (g1.on : Nat)] 33) := ⟨_, rfl⟩
    rw [← hV] at hbn hY
    have E7 := Lib.hid hV
    have hbj := hb.trans (hbn.mono hb.size)
    have YP7 := Lib.hid (YP6.out.step hbj)
    have MP7 := Lib.hid (MP6.out.below hbj)
    have YX7 := Lib.hid (YX6.out.step hbj)
    have MX7 := Lib.hid (MX6.out.below hbj)
    have Yc7 := Lib.hid (Yc6.out.step hbj)
    have Mc7 := Lib.hid (Mc6.out.below hbj)
    have BW7 := Lib.hid (held_trans BW6.out hbj)
    clear BW6 YP6 MP6 YX6 MX6 Yc6 Mc6 
    have Ya7 := Lib.hid hY
    have Ma7 := Lib.hid ((hm.bound.mono (G := fun b => b < u7.heap.size) (fun b hb => hb.2)).below hbn)
    clear hV hY hbn hm hb hbj C7 t0 t1 t2 t3 t4
    replace Ma7 := Lib.hid (show RM (fun b => b < u7.heap.size) V7 ⟨T7, nt7, ct7, R7, nr7, cr7, S7, ns7, cs7⟩ g1 from Ma7.out)
    have hcc := plugUnplug_any ⟨T7, nt7, ct7, R7, nr7, cr7, S7, ns7, cs7⟩ g1 (k : Int) 0 V7 Ma7.out (fun b hb => Nat.lt_trans hb Ya7.out.lt) HLG.out HP.out ⟨by decide, by decide⟩ (HTW.out.step BW7.out)
    rw [HUN2.out] at hcc
    unfold jv at hcc
    simp only at hcc
    have C8 := Lib.hid hcc
    clear hcc
    have t0 := Ya7.out.c0
    have t1 := Ya7.out.c1
    have t2 := Ya7.out.c2
    have t3 := Ya7.out.c3
    have t4 := Ya7.out.c4
    go_wp2_with (rw [← E7.out])
    clear E7
    refine C8.out.mono ?_
    rintro e u8 ⟨⟨T8, nt8, ct8, R8, nr8, cr8, S8, ns8, cs8⟩, rfl, hm, hb⟩
    unfold jv
    simp only
    have hbn := below_new u8 (.cells #[.slice T8 nt8 ct8, .int .i64 g1.size, .slice R8 nr8 cr8, .slice S8 ns8 cs8, .int .u64 (g1.on : Nat)] 33)
    have hY := B5.new u8 (.slice T8 nt8 ct8) (.int .i64 g1.size) (.slice R8 nr8 cr8) (.slice S8 ns8 cs8) (.int .u64 (g1.on : Nat)) 33
    obtain ⟨V8, hV⟩ : ∃ V8, V8 = u8.alloc (.cells #[.slice T8 nt8 ct8, .int .i64 g1.size, .slice R8 nr8 cr8, .slice S8 ns8 cs8, .int .u64 (g1.on : Nat)] 33) := ⟨_, rfl⟩
    rw [← hV] at hbn hY
    have E8 := Lib.hid hV
    have hbj := hb.trans (hbn.mono hb.size)
    have YP8 := Lib.hid (YP7.out.step hbj)
    have MP8 := Lib.hid (MP7.out.below hbj)
    have YX8 := Lib.hid (YX7.out.step hbj)
    have MX8 := Lib.hid (MX7.out.below hbj)
    have Yc8 := Lib.hid (Yc7.out.step hbj)
    have Mc8 := Lib.hid (Mc7.out.below hbj)
    have Ya8 := Lib.hid (Ya7.out.step hbj)
    have Ma8 := Lib.hid (Ma7.out.below hbj)
    have BW8 := Lib.hid (held_trans BW7.out hbj)
    clear BW7 YP7 MP7 YX7 MX7 Yc7 Mc7 Ya7 Ma7 
    have Yz8 := Lib.hid hY
    have Mz8 := Lib.hid ((hm.bound.mono (G := fun b => b < u8.heap.size) (fun b hb => hb.2)).below hbn)
    clear hV hY hbn hm hb hbj C8 t0 t1 t2 t3 t4
    replace Mz8 := Lib.hid (show RM (fun b => b < u8.heap.size) V8 ⟨T8, nt8, ct8, R8, nr8, cr8, S8, ns8, cs8⟩ g1 from Mz8.out)
    have hcc := plugPlug_any ⟨T7, nt7, ct7, R7, nr7, cr7, S7, ns7, cs7⟩ g1 (k : Int) V8 Ma8.out (fun b hb => Nat.lt_trans hb Ya8.out.lt) HLG.out HP.out (HTW.out.step BW8.out)
    rw [HPL2.out] at hcc
    unfold jv at hcc
    simp only at hcc
    have C9 := Lib.hid hcc
    clear hcc
    have t0 := Ya8.out.c0
    have t1 := Ya8.out.c1
    have t2 := Ya8.out.c2
    have t3 := Ya8.out.c3
    have t4 := Ya8.out.c4
    go_wp2_with (rw [← E8.out])
    clear E8
    refine C9.out.mono ?_
    rintro e u9 ⟨⟨T9, nt9, ct9, R9, nr9, cr9, S9, ns9, cs9⟩, rfl, hm, hb⟩
    unfold jv
    simp only
    have hbn := below_new u9 (.cells #[.slice T9 nt9 ct9, .int .i64 b1.size, .slice R9 nr9 cr9, .slice S9 ns9 cs9, .int .u64 (b1.on : Nat)] 33)
    have hY := B5.new u9 (.slice T9 nt9 ct9) (.int .i64 b1.size) (.slice R9 nr9 cr9) (.slice S9 ns9 cs9) (.int .u64 (b1.on : Nat)) 33
    obtain ⟨V9, hV⟩ : ∃ V9, V9 = u9.alloc (.cells #[.slice T9 nt9 ct9, .int .i64 b1.size, .slice R9 nr9 cr9, .slice S9 ns9 cs9, .int .u64 (b1.on : Nat)] 33) := ⟨_, rfl⟩
    rw [← hV] at hbn hY
    have E9 := Lib.hid hV
    have hbj := hb.trans (hbn.mono hb.size)
    have YP9 := Lib.hid (YP8.out.step hbj)
    have MP9 := Lib.hid (MP8.out.below hbj)
    have YX9 := Lib.hid (YX8.out.step hbj)
    have MX9 := Lib.hid (MX8.out.below hbj)
    have Yc9 := Lib.hid (Yc8.out.step hbj)
    have Mc9 := Lib.hid (Mc8.out.below hbj)
    have Ya9 := Lib.hid (Ya8.out.step hbj)
    have Ma9 := Lib.hid (Ma8.out.below hbj)
    have Yz9 := Lib.hid (Yz8.out.step hbj)
    have Mz9 := Lib.hid (Mz8.out.below hbj)
    have BW9 := Lib.hid (held_trans BW8.out hbj)
    clear BW8 YP8 MP8 YX8 MX8 Yc8 Mc8 Ya8 Ma8 Yz8 Mz8 
    have Yb9 := Lib.hid hY
    have Mb9 := Lib.hid ((hm.bound.mono (G := fun b => b < u9.heap.size) (fun b hb => hb.2)).below hbn)
    clear hV hY hbn hm hb hbj C9 t0 t1 t2 t3 t4
    replace Mb9 := Lib.hid (show RM (fun b => b < u9.heap.size) V9 ⟨T9, nt9, ct9, R9, nr9, cr9, S9, ns9, cs9⟩ b1 from Mb9.out)
    have hnb := Mb9.out.nr
    have hnx := MX9.out.nr
    simp only at hnb hnx
    have hln : nr9 = nr1 := by
      rw [← hnb.1, ← hnx.1, HBR.out, List.length_set]
    have HNX := Lib.hid hnx.1
    have hn64 : nr1 ≤ 64 := by have := HLW.out.rings; omega
    have q1 : (((b1.on : Nat) : Int) != ((r.on : Nat) : Int)) = false := by rw [HBO.out]; simp
    have q2 : ((nr9 : Int) != (nr1 : Int)) = false := by rw [hln]; simp
    have t4 := YX9.out.c4
    have t2 := YX9.out.c2
    have s4 := Yb9.out.c4
    have s2 := Yb9.out.c2
    have HLN := Lib.hid hln
    clear hnb hnx hln
    go_wp2_with (rw [← E9.out])
    clear E9
    clear t4 t2 s4 s2 q1 q2
    go_loopw [16] (fun i wr => ∃ m : Nat, m ≤ nr1 ∧ i = .int .i64 m ∧ Hid (Below V9.heap.size V9 wr)) (fun i _ => nr1 - (intOf i).toNat)
    case atStart => exact ⟨0, Nat.zero_le _, rfl, Lib.hid (Below.refl _ _)⟩
    case round =>
      obtain ⟨m, hm, rfl, HA⟩ := hrel
      obtain ⟨wo, rfl⟩ : ∃ wo : World, wo = wr := ⟨_, rfl⟩
      have hx2 := (YX9.out.step HA.out).c2
      have hb2 := (Yb9.out.step HA.out).c2
      by_cases hlt : m < nr1
      · skip
        have l1 : (m : Int) < (nr1 : Int) := by omega
        have l0 : (0 : Int) ≤ (m : Int) := by omega
        have l2 : (m : Int) < (nr9 : Int) := by have := HLN.out; omega
        by_cases e1 : m = k
        · skip
          have z1 : ((m : Int) != (k : Int)) = false := by rw [e1]; simp
          clear e1
          go_wp2_with fail
          refine wp_region_held_drew (S := fun w' => True) (by kernel_rfl) trivial (fun hHeld => ?_)
          refine wpAnyH_takesJ (i := 0) (v := (.int .i64 (m : Nat))) (some 125) rfl rfl (by kernel_rfl) (by kernel_rfl) (by kernel_rfl) (fun _ _ _ h => h) (Or.inl ⟨by rfl, (by intro W9 hSw; (try dsimp only at hSw); go_simp; first | done | with_reducible rfl)⟩) (by assumption) ?_
          simp only [Act.put, List.setIfInBounds_toArray]; try simp only [List.set_cons_zero, List.set_cons_succ]
          refine wpAnyH_takesJ (i := 1) (v := (.int .i64 (k : Nat))) (some 126) rfl rfl (by kernel_rfl) (by kernel_rfl) (by kernel_rfl) (fun _ _ _ h => h) (Or.inl ⟨by rfl, (by intro W9 hSw; (try dsimp only at hSw); go_simp; first | done | with_reducible rfl)⟩) (by assumption) ?_
          simp only [Act.put, List.setIfInBounds_toArray]; try simp only [List.set_cons_zero, List.set_cons_succ]
          refine wpAnyH_takesJ (i := 2) (v := (.bool false)) (some 127) rfl rfl (by kernel_rfl) (by kernel_rfl) (by kernel_rfl) (fun _ _ _ h => h) (Or.inl ⟨by rfl, (by intro W9 hSw; (try dsimp only at hSw); go_simp; first | done | with_reducible rfl)⟩) (by assumption) ?_
          simp only [Act.put, List.setIfInBounds_toArray]; try simp only [List.set_cons_zero, List.set_cons_succ]
          refine wpAnyH_takesJ (i := 3) (v := (.bool false)) (some 128) rfl rfl (by kernel_rfl) (by kernel_rfl) (by kernel_rfl) (fun _ _ _ h => h) (Or.inl ⟨by rfl, (by intro W9 hSw; (try dsimp only at hSw); go_simp; first | done | with_reducible rfl)⟩) (by assumption) ?_
          simp only [Act.put, List.setIfInBounds_toArray]; try simp only [List.set_cons_zero, List.set_cons_succ]
          refine wpAnyH_takesJ (i := 4) (v := undef) (some 129) rfl rfl (by kernel_rfl) (by kernel_rfl) (by kernel_rfl) (fun _ _ _ h => h) (Or.inr ⟨by rfl, rfl⟩) (by assumption) ?_
          simp only [Act.put, List.setIfInBounds_toArray]; try simp only [List.set_cons_zero, List.set_cons_succ]
          refine wpAnyH_takesJ (i := 5) (v := undef) (some 130) rfl rfl (by kernel_rfl) (by kernel_rfl) (by kernel_rfl) (fun _ _ _ h => h) (Or.inr ⟨by rfl, rfl⟩) (by assumption) ?_
          simp only [Act.put, List.setIfInBounds_toArray]; try simp only [List.set_cons_zero, List.set_cons_succ]
          refine wpAnyH_takesJ (i := 6) (v := undef) (some 131) rfl rfl (by kernel_rfl) (by kernel_rfl) (by kernel_rfl) (fun _ _ _ h => h) (Or.inr ⟨by rfl, rfl⟩) (by assumption) ?_
          simp only [Act.put, List.setIfInBounds_toArray]; try simp only [List.set_cons_zero, List.set_cons_succ]
          refine wpAnyH_takesJ (i := 7) (v := undef) (some 132) rfl rfl (by kernel_rfl) (by kernel_rfl) (by kernel_rfl) (fun _ _ _ h => h) (Or.inr ⟨by rfl, rfl⟩) (by assumption) ?_
          simp only [Act.put, List.setIfInBounds_toArray]; try simp only [List.set_cons_zero, List.set_cons_succ]
          refine wpAnyH_takesJ (i := 8) (v := undef) (some 133) rfl rfl (by kernel_rfl) (by kernel_rfl) (by kernel_rfl) (fun _ _ _ h => h) (Or.inr ⟨by rfl, rfl⟩) (by assumption) ?_
          simp only [Act.put, List.setIfInBounds_toArray]; try simp only [List.set_cons_zero, List.set_cons_succ]
          refine wpAnyH_takesJ (i := 9) (v := undef) (some 134) rfl rfl (by kernel_rfl) (by kernel_rfl) (by kernel_rfl) (fun _ _ _ h => h) (Or.inr ⟨by rfl, rfl⟩) (by assumption) ?_
          simp only [Act.put, List.setIfInBounds_toArray]; try simp only [List.set_cons_zero, List.set_cons_succ]
          refine wpAnyH_takesJ (i := 10) (v := undef) (some 135) rfl rfl (by kernel_rfl) (by kernel_rfl) (by kernel_rfl) (fun _ _ _ h => h) (Or.inr ⟨by rfl, rfl⟩) (by assumption) ?_
          simp only [Act.put, List.setIfInBounds_toArray]; try simp only [List.set_cons_zero, List.set_cons_succ]
          refine wpAnyH_takesJ (i := 11) (v := undef) (some 136) rfl rfl (by kernel_rfl) (by kernel_rfl) (by kernel_rfl) (fun _ _ _ h => h) (Or.inr ⟨by rfl, rfl⟩) (by assumption) ?_
          simp only [Act.put, List.setIfInBounds_toArray]; try simp only [List.set_cons_zero, List.set_cons_succ]
          refine wpAnyH_takesJ (i := 12) (v := undef) (some 137) rfl rfl (by kernel_rfl) (by kernel_rfl) (by kernel_rfl) (fun _ _ _ h => h) (Or.inr ⟨by rfl, rfl⟩) (by assumption) ?_
          simp only [Act.put, List.setIfInBounds_toArray]; try simp only [List.set_cons_zero, List.set_cons_succ]
          refine wpAnyH_takesJ (i := 13) (v := undef) (some 138) rfl rfl (by kernel_rfl) (by kernel_rfl) (by kernel_rfl) (fun _ _ _ h => h) (Or.inr ⟨by rfl, rfl⟩) (by assumption) ?_
          simp only [Act.put, List.setIfInBounds_toArray]; try simp only [List.set_cons_zero, List.set_cons_succ]
          refine wpAnyH_takesJ (i := 14) (v := undef) (some 139) rfl rfl (by kernel_rfl) (by kernel_rfl) (by kernel_rfl) (fun _ _ _ h => h) (Or.inr ⟨by rfl, rfl⟩) (by assumption) ?_
          simp only [Act.put, List.setIfInBounds_toArray]; try simp only [List.set_cons_zero, List.set_cons_succ]
          refine wpAnyH_takesJ (i := 15) (v := undef) (some 140) rfl rfl (by kernel_rfl) (by kernel_rfl) (by kernel_rfl) (fun _ _ _ h => h) (Or.inr ⟨by rfl, rfl⟩) (by assumption) ?_
          simp only [Act.put, List.setIfInBounds_toArray]; try simp only [List.set_cons_zero, List.set_cons_succ]
          refine wpAnyH_takesJ (i := 16) (v := undef) (some 141) rfl rfl (by kernel_rfl) (by kernel_rfl) (by kernel_rfl) (fun _ _ _ h => h) (Or.inr ⟨by rfl, rfl⟩) (by assumption) ?_
          simp only [Act.put, List.setIfInBounds_toArray]; try simp only [List.set_cons_zero, List.set_cons_succ]
          refine wpAnyH_takesJ (i := 17) (v := undef) (some 142) rfl rfl (by kernel_rfl) (by kernel_rfl) (by kernel_rfl) (fun _ _ _ h => h) (Or.inr ⟨by rfl, rfl⟩) (by assumption) ?_
          simp only [Act.put, List.setIfInBounds_toArray]; try simp only [List.set_cons_zero, List.set_cons_succ]
          refine wpAnyH_takesJ (i := 18) (v := (.bool false)) (some 143) rfl rfl (by kernel_rfl) (by kernel_rfl) (by kernel_rfl) (fun _ _ _ h => h) (Or.inl ⟨by rfl, (by intro W9 hSw; (try dsimp only at hSw); go_simp; first | done | with_reducible rfl)⟩) (by assumption) ?_
          simp only [Act.put, List.setIfInBounds_toArray]; try simp only [List.set_cons_zero, List.set_cons_succ]
          refine wpAnyH_done (by kernel_rfl) ?_ _
          have HC2 := Lib.hid (HA.out.trans (((Below.refl wo.heap.size wo).drew).mono HA.out.size))
          clear hHeld hx2 hb2 l0 l2 z1
          go_wp2_with fail
          go_roundw
          case rel => exact ⟨m + 1, by omega, by go_num, HC2⟩
          case measure => simp [intOf]; omega
        · skip
          have z1 : ((m : Int) != (k : Int)) = true := by rw [bne_iff_ne]; omega
          obtain ⟨x, hx⟩ : ∃ x, r.rings[m]? = some x := ⟨_, List.getElem?_eq_getElem (by have := HNX.out; omega)⟩
          have hy : b1.rings[m]? = some x := by rw [HBR.out, List.getElem?_set_ne (by omega)]; exact hx
          obtain ⟨fb, fo, fA, fn, fc, hfS, _, hf0, hf1, hfR⟩ := (MX9.out.below HA.out).ringAt (i := m) hx
          simp only at hfS
          obtain ⟨gb, go', gA, gn, gc, hgS, _, hg0, hg1, hgR⟩ := (Mb9.out.below HA.out).ringAt (i := m) hy
          simp only at hgS
          rw [hfS] at hx2
          rw [hgS] at hb2
          have HX := Lib.hid hfR
          have HY := Lib.hid hgR
          have hx40 := HFEW.out.ring x (List.mem_of_getElem? hx)
          have hfn := hfR.len
          have hgn := hgR.len
          have HN := Lib.hid (show fn ≤ 100000 ∧ gn ≤ 100000 from by omega)
          have HFS := Lib.hid hfS
          have HGS := Lib.hid hgS
          clear hx hy e1 hfR hgR hx40 hfn hgn hfS hgS
          go_wp2_with fail
          refine wp_region_held_drew (S := fun w' => w'.cell? ⟨w3.heap.size, 2, none⟩ = some (.slice (some ⟨fb, fo, none⟩) nr1 cr1) ∧ w'.cell? ⟨u9.heap.size, 2, none⟩ = some (.slice (some ⟨gb, go', none⟩) nr9 cr9) ∧ w'.cell? ⟨fb, fo + m * 2, none⟩ = some (.int .i64 x.1) ∧ w'.cell? ⟨fb, fo + m * 2 + 1, none⟩ = some (.slice fA fn fc) ∧ w'.cell? ⟨gb, go' + m * 2, none⟩ = some (.int .i64 x.1) ∧ w'.cell? ⟨gb, go' + m * 2 + 1, none⟩ = some (.slice gA gn gc)) (by kernel_rfl) ⟨hx2, hb2, hf0, hf1, hg0, hg1⟩ (fun hHeld => ?_)
          have hb1 := (Below.refl wo.heap.size wo).drew
          refine wpAnyH_takesJ (i := 0) (v := (.int .i64 (m : Nat))) (some 125) rfl rfl (by kernel_rfl) (by kernel_rfl) (by kernel_rfl) (fun _ _ _ h => h) (Or.inl ⟨by rfl, (by intro W9 hSw; (try dsimp only at hSw); go_simp; first | done | with_reducible rfl)⟩) (by assumption) ?_
          simp only [Act.put, List.setIfInBounds_toArray]; try simp only [List.set_cons_zero, List.set_cons_succ]
          refine wpAnyH_takesJ (i := 1) (v := (.int .i64 (k : Nat))) (some 126) rfl rfl (by kernel_rfl) (by kernel_rfl) (by kernel_rfl) (fun _ _ _ h => h) (Or.inl ⟨by rfl, (by intro W9 hSw; (try dsimp only at hSw); go_simp; first | done | with_reducible rfl)⟩) (by assumption) ?_
          simp only [Act.put, List.setIfInBounds_toArray]; try simp only [List.set_cons_zero, List.set_cons_succ]
          refine wpAnyH_takesJ (i := 2) (v := (.bool true)) (some 127) rfl rfl (by kernel_rfl) (by kernel_rfl) (by kernel_rfl) (fun _ _ _ h => h) (Or.inl ⟨by rfl, (by intro W9 hSw; (try dsimp only at hSw); go_simp; first | done | with_reducible rfl)⟩) (by assumption) ?_
          simp only [Act.put, List.setIfInBounds_toArray]; try simp only [List.set_cons_zero, List.set_cons_succ]
          refine wpAnyH_takesJ (i := 3) (v := (.bool true)) (some 128) rfl rfl (by kernel_rfl) (by kernel_rfl) (by kernel_rfl) (fun _ _ _ h => h) (Or.inl ⟨by rfl, (by intro W9 hSw; (try dsimp only at hSw); go_simp; first | done | with_reducible rfl)⟩) (by assumption) ?_
          simp only [Act.put, List.setIfInBounds_toArray]; try simp only [List.set_cons_zero, List.set_cons_succ]
          refine wpAnyH_takesJ (i := 4) (v := (.pointer (some ⟨u9.heap.size, 2, none⟩))) (some 129) rfl rfl (by kernel_rfl) (by kernel_rfl) (by kernel_rfl) (fun _ _ _ h => h) (Or.inl ⟨by rfl, (by intro W9 hSw; (try dsimp only at hSw); go_simp; first | done | with_reducible rfl)⟩) (by assumption) ?_
          simp only [Act.put, List.setIfInBounds_toArray]; try simp only [List.set_cons_zero, List.set_cons_succ]
          refine wpAnyH_takesJ (i := 5) (v := (.slice (some ⟨gb, go', none⟩) nr9 cr9)) (some 130) rfl rfl (by kernel_rfl) (by kernel_rfl) (by kernel_rfl) (fun _ _ _ h => h) (Or.inl ⟨by rfl, (by intro W9 hSw; (try dsimp only at hSw); go_simp; first | done | with_reducible rfl)⟩) (by assumption) ?_
          simp only [Act.put, List.setIfInBounds_toArray]; try simp only [List.set_cons_zero, List.set_cons_succ]
          refine wpAnyH_takesJ (i := 6) (v := (.int .i64 (m : Nat))) (some 131) rfl rfl (by kernel_rfl) (by kernel_rfl) (by kernel_rfl) (fun _ _ _ h => h) (Or.inl ⟨by rfl, (by intro W9 hSw; (try dsimp only at hSw); go_simp; first | done | with_reducible rfl)⟩) (by assumption) ?_
          simp only [Act.put, List.setIfInBounds_toArray]; try simp only [List.set_cons_zero, List.set_cons_succ]
          refine wpAnyH_takesJ (i := 7) (v := (.pointer (some ⟨gb, go' + m * 2, none⟩))) (some 132) rfl rfl (by kernel_rfl) (by kernel_rfl) (by kernel_rfl) (fun _ _ _ h => h) (Or.inl ⟨by rfl, (by intro W9 hSw; (try dsimp only at hSw); go_simp; first | done | with_reducible rfl)⟩) (by assumption) ?_
          simp only [Act.put, List.setIfInBounds_toArray]; try simp only [List.set_cons_zero, List.set_cons_succ]
          refine wpAnyH_takesJ (i := 8) (v := (.agg #[.int .i64 x.1, .slice gA gn gc])) (some 133) rfl rfl (by kernel_rfl) (by kernel_rfl) (by kernel_rfl) (fun _ _ _ h => h) (Or.inl ⟨by rfl, (by intro W9 hSw; (try dsimp only at hSw); go_simp; first | done | with_reducible rfl)⟩) (by assumption) ?_
          simp only [Act.put, List.setIfInBounds_toArray]; try simp only [List.set_cons_zero, List.set_cons_succ]
          refine wpAnyH_takesJ (i := 10) (v := (.pointer (some ⟨w3.heap.size, 2, none⟩))) (some 135) rfl rfl (by kernel_rfl) (by kernel_rfl) (by kernel_rfl) (fun _ _ _ h => h) (Or.inl ⟨by rfl, (by intro W9 hSw; (try dsimp only at hSw); go_simp; first | done | with_reducible rfl)⟩) (by assumption) ?_
          simp only [Act.put, List.setIfInBounds_toArray]; try simp only [List.set_cons_zero, List.set_cons_succ]
          refine wpAnyH_takesJ (i := 11) (v := (.slice (some ⟨fb, fo, none⟩) nr1 cr1)) (some 136) rfl rfl (by kernel_rfl) (by kernel_rfl) (by kernel_rfl) (fun _ _ _ h => h) (Or.inl ⟨by rfl, (by intro W9 hSw; (try dsimp only at hSw); go_simp; first | done | with_reducible rfl)⟩) (by assumption) ?_
          simp only [Act.put, List.setIfInBounds_toArray]; try simp only [List.set_cons_zero, List.set_cons_succ]
          refine wpAnyH_takesJ (i := 12) (v := (.int .i64 (m : Nat))) (some 137) rfl rfl (by kernel_rfl) (by kernel_rfl) (by kernel_rfl) (fun _ _ _ h => h) (Or.inl ⟨by rfl, (by intro W9 hSw; (try dsimp only at hSw); go_simp; first | done | with_reducible rfl)⟩) (by assumption) ?_
          simp only [Act.put, List.setIfInBounds_toArray]; try simp only [List.set_cons_zero, List.set_cons_succ]
          refine wpAnyH_takesJ (i := 13) (v := (.pointer (some ⟨fb, fo + m * 2, none⟩))) (some 138) rfl rfl (by kernel_rfl) (by kernel_rfl) (by kernel_rfl) (fun _ _ _ h => h) (Or.inl ⟨by rfl, (by intro W9 hSw; (try dsimp only at hSw); go_simp; first | done | with_reducible rfl)⟩) (by assumption) ?_
          simp only [Act.put, List.setIfInBounds_toArray]; try simp only [List.set_cons_zero, List.set_cons_succ]
          refine wpAnyH_takesJ (i := 14) (v := (.agg #[.int .i64 x.1, .slice fA fn fc])) (some 139) rfl rfl (by kernel_rfl) (by kernel_rfl) (by kernel_rfl) (fun _ _ _ h => h) (Or.inl ⟨by rfl, (by intro W9 hSw; (try dsimp only at hSw); go_simp; first | done | with_reducible rfl)⟩) (by assumption) ?_
          simp only [Act.put, List.setIfInBounds_toArray]; try simp only [List.set_cons_zero, List.set_cons_succ]
          refine wpAnyH_ready (rs := [9]) (by kernel_rfl) (by simp) ?_
          refine AllReadyH.cons rfl (fun K hK => ?_) AllReadyH.nil
          go_simp
          go_at_call 14
          refine (all_any x.1 gA gn gc x.2 wo.drew HY.out.drew HN.out.2).mono ?_
          rintro e x1 ⟨Aq, nq, cq, rfl, hrq, _, hbx⟩
          have hb2' := hb1.trans (hbx.mono (by simp))
          have RQ := Lib.hid hrq
          refine hK.out _ _ (by exact ⟨keepcell hb2' hx2, keepcell hb2' hb2, keepcell hb2' hf0, keepcell hb2' hf1, keepcell hb2' hg0, keepcell hb2' hg1⟩) (fun hHeld => ?_)
          clear hK K hrq hbx
          try dsimp only
          refine wpAnyH_ready (rs := [15]) (by kernel_rfl) (by simp) ?_
          refine AllReadyH.cons rfl (fun K hK => ?_) AllReadyH.nil
          go_simp
          go_at_call 14
          refine (all_any x.1 fA fn fc x.2 x1 (HX.out.below hb2') HN.out.1).mono ?_
          rintro e x2 ⟨At, nt', ct', rfl, hrt, _, hbx⟩
          have hb3 := hb2'.trans (hbx.mono hb2'.size)
          have IN := Lib.hid (ints_rowN Aq At nq nt' cq ct' _ _ x2 rfl (RQ.out.below hbx) hrt)
          refine hK.out _ _ (by exact ⟨keepcell hb3 hx2, keepcell hb3 hb2, keepcell hb3 hf0, keepcell hb3 hf1, keepcell hb3 hg0, keepcell hb3 hg1⟩) (fun hHeld => ?_)
          clear hK K hrt hbx RQ
          try dsimp only
          refine wpAnyH_ready (rs := [16]) (by kernel_rfl) (by simp) ?_
          refine AllReadyH.cons rfl (fun K hK => ?_) AllReadyH.nil
          go_simp
          go_at_call 13
          refine IN.out.mono ?_
          rintro e x3 ⟨rfl, hbx⟩
          have hb4 := hb3.trans (hbx.mono hb3.size)
          refine hK.out _ _ (by exact ⟨keepcell hb4 hx2, keepcell hb4 hb2, keepcell hb4 hf0, keepcell hb4 hf1, keepcell hb4 hg0, keepcell hb4 hg1⟩) (fun hHeld => ?_)
          clear hK K hbx IN
          try dsimp only
          refine wpAnyH_takesJ (i := 17) (v := (.bool false)) (some 142) rfl rfl (by kernel_rfl) (by kernel_rfl) (by kernel_rfl) (fun _ _ _ h => h) (Or.inl ⟨by rfl, (by intro W9 hSw; (try dsimp only at hSw); go_simp; first | done | with_reducible rfl)⟩) (by assumption) ?_
          simp only [Act.put, List.setIfInBounds_toArray]; try simp only [List.set_cons_zero, List.set_cons_succ]
          refine wpAnyH_takesJ (i := 18) (v := (.bool false)) (some 143) rfl rfl (by kernel_rfl) (by kernel_rfl) (by kernel_rfl) (fun _ _ _ h => h) (Or.inl ⟨by rfl, (by intro W9 hSw; (try dsimp only at hSw); go_simp; first | done | with_reducible rfl)⟩) (by assumption) ?_
          simp only [Act.put, List.setIfInBounds_toArray]; try simp only [List.set_cons_zero, List.set_cons_succ]
          refine wpAnyH_done (by kernel_rfl) ?_ _
          have HC2 := Lib.hid (HA.out.trans (hb4.mono HA.out.size))
          clear hHeld hx2 hb2 hf0 hf1 hg0 hg1 l0 l2 z1 hb1 hb2' hb3 hb4
          go_wp2_with fail
          go_roundw
          case rel => exact ⟨m + 1, by omega, by go_num, HC2⟩
          case measure => simp [intOf]; omega
      · skip
        obtain rfl : m = nr1 := by omega
        clear hm
        have hy : b1.rings[k]? = some (0, []) := by rw [HBR.out, List.getElem?_set_self HK.out]
        obtain ⟨gb, go', gA, gn, gc, hgS, _, hg0, hg1, hgR⟩ := (Mb9.out.below HA.out).ringAt (i := k) hy
        simp only at hgS
        obtain rfl : 0 = gn := hgR.len
        rw [hgS] at hb2
        have HY := Lib.hid hgR
        have HGS := Lib.hid hgS
        have BA := Lib.hid (held_trans BW9.out HA.out)
        have Y1 := Lib.hid (YX9.out.step HA.out)
        have Y2 := Lib.hid (Yb9.out.step HA.out)
        have hcc := fun W (hb : Below wo.heap.size wo W) => runsAll_any ⟨T9, nt9, ct9, R9, nr9, cr9, S9, ns9, cs9⟩ b1 W ((Mb9.out.below HA.out).below hb) HLB.out
        unfold jv at hcc
        simp only at hcc
        have AB := Lib.hid hcc
        clear hcc
        have hcc := fun W (hb : Below wo.heap.size wo W) => runsAll_any ⟨A1, nt1, ct1, R1, m, cr1, S1, ns1, cs1⟩ r W ((MX9.out.below HA.out).below hb) HLW.out
        unfold jv at hcc
        simp only at hcc
        have AX := Lib.hid hcc
        clear hcc
        have l3 : (k : Int) < (nr9 : Int) := by have := HK.out; have := HNX.out; have := HLN.out; omega
        have l4 : (0 : Int) ≤ (k : Int) := by omega
        clear hgS hgR hy HA
        go_wp2_with fail
        refine wp_region_held_drew (S := fun w' => B5 w' w3.heap.size (.slice A1 nt1 ct1) (.int .i64 r.size) (.slice R1 m cr1) (.slice S1 ns1 cs1) (.int .u64 (r.on : Nat)) ∧ B5 w' u9.heap.size (.slice T9 nt9 ct9) (.int .i64 b1.size) (.slice R9 nr9 cr9) (.slice S9 ns9 cs9) (.int .u64 (b1.on : Nat)) ∧ w'.cell? ⟨u9.heap.size, 2, none⟩ = some (.slice (some ⟨gb, go', none⟩) nr9 cr9) ∧ w'.cell? ⟨gb, go' + k * 2, none⟩ = some (.int .i64 0) ∧ w'.cell? ⟨gb, go' + k * 2 + 1, none⟩ = some (.slice gA 0 gc)) (by kernel_rfl) ⟨Y1.out.drew, Y2.out.drew, hb2, hg0, hg1⟩ (fun hHeld => ?_)
        have hb1 := (Below.refl wo.heap.size wo).drew
        refine wpAnyH_takesJ (i := 0) (v := (.bool true)) (some 144) rfl rfl (by kernel_rfl) (by kernel_rfl) (by kernel_rfl) (fun _ _ _ h => h) (Or.inl ⟨by rfl, (by intro W9 hSw; (try dsimp only at hSw); go_simp; first | done | with_reducible rfl)⟩) (by assumption) ?_
        simp only [Act.put, List.setIfInBounds_toArray]; try simp only [List.set_cons_zero, List.set_cons_succ]
        refine wpAnyH_takesJ (i := 1) (v := (.bool true)) (some 145) rfl rfl (by kernel_rfl) (by kernel_rfl) (by kernel_rfl) (fun _ _ _ h => h) (Or.inl ⟨by rfl, (by intro W9 hSw; (try dsimp only at hSw); go_simp; first | done | with_reducible rfl)⟩) (by assumption) ?_
        simp only [Act.put, List.setIfInBounds_toArray]; try simp only [List.set_cons_zero, List.set_cons_succ]
        refine wpAnyH_takesJ (i := 2) (v := (.pointer (some ⟨u9.heap.size, 2, none⟩))) (some 146) rfl rfl (by kernel_rfl) (by kernel_rfl) (by kernel_rfl) (fun _ _ _ h => h) (Or.inl ⟨by rfl, (by intro W9 hSw; (try dsimp only at hSw); go_simp; first | done | with_reducible rfl)⟩) (by assumption) ?_
        simp only [Act.put, List.setIfInBounds_toArray]; try simp only [List.set_cons_zero, List.set_cons_succ]
        refine wpAnyH_takesJ (i := 3) (v := (.slice (some ⟨gb, go', none⟩) nr9 cr9)) (some 147) rfl rfl (by kernel_rfl) (by kernel_rfl) (by kernel_rfl) (fun _ _ _ h => h) (Or.inl ⟨by rfl, (by intro W9 hSw; (try dsimp only at hSw); go_simp; first | done | with_reducible rfl)⟩) (by assumption) ?_
        simp only [Act.put, List.setIfInBounds_toArray]; try simp only [List.set_cons_zero, List.set_cons_succ]
        refine wpAnyH_takesJ (i := 4) (v := (.int .i64 (k : Nat))) (some 148) rfl rfl (by kernel_rfl) (by kernel_rfl) (by kernel_rfl) (fun _ _ _ h => h) (Or.inl ⟨by rfl, (by intro W9 hSw; (try dsimp only at hSw); go_simp; first | done | with_reducible rfl)⟩) (by assumption) ?_
        simp only [Act.put, List.setIfInBounds_toArray]; try simp only [List.set_cons_zero, List.set_cons_succ]
        refine wpAnyH_takesJ (i := 5) (v := (.pointer (some ⟨gb, go' + k * 2, none⟩))) (some 149) rfl rfl (by kernel_rfl) (by kernel_rfl) (by kernel_rfl) (fun _ _ _ h => h) (Or.inl ⟨by rfl, (by intro W9 hSw; (try dsimp only at hSw); go_simp; first | done | with_reducible rfl)⟩) (by assumption) ?_
        simp only [Act.put, List.setIfInBounds_toArray]; try simp only [List.set_cons_zero, List.set_cons_succ]
        refine wpAnyH_takesJ (i := 6) (v := (.agg #[.int .i64 0, .slice gA 0 gc])) (some 150) rfl rfl (by kernel_rfl) (by kernel_rfl) (by kernel_rfl) (fun _ _ _ h => h) (Or.inl ⟨by rfl, (by intro W9 hSw; (try dsimp only at hSw); go_simp; first | done | with_reducible rfl)⟩) (by assumption) ?_
        simp only [Act.put, List.setIfInBounds_toArray]; try simp only [List.set_cons_zero, List.set_cons_succ]
        refine wpAnyH_ready (rs := [7]) (by kernel_rfl) (by simp) ?_
        refine AllReadyH.cons rfl (fun K hK => ?_) AllReadyH.nil
        go_simp
        go_at_call 14
        refine (all_any 0 gA 0 gc [] wo.drew HY.out.drew (by omega)).mono ?_
        rintro e x1 ⟨Aq, nq, cq, rfl, hrq, _, hbx⟩
        obtain rfl : 0 = nq := hrq.len
        have hb2' := hb1.trans (hbx.mono (by simp))
        refine hK.out _ _ (by exact ⟨Y1.out.step hb2', Y2.out.step hb2', keepcell hb2' hb2, keepcell hb2' hg0, keepcell hb2' hg1⟩) (fun hHeld => ?_)
        clear hK K hrq hbx
        try dsimp only
        refine wpAnyH_takesJ (i := 8) (v := (.int .i64 0)) (some 152) rfl rfl (by kernel_rfl) (by kernel_rfl) (by kernel_rfl) (fun _ _ _ h => h) (Or.inl ⟨by rfl, (by intro W9 hSw; (try dsimp only at hSw); go_simp; first | done | with_reducible rfl)⟩) (by assumption) ?_
        simp only [Act.put, List.setIfInBounds_toArray]; try simp only [List.set_cons_zero, List.set_cons_succ]
        refine wpAnyH_takesJ (i := 9) (v := (.bool true)) (some 153) rfl rfl (by kernel_rfl) (by kernel_rfl) (by kernel_rfl) (fun _ _ _ h => h) (Or.inl ⟨by rfl, (by intro W9 hSw; (try dsimp only at hSw); go_simp; first | done | with_reducible rfl)⟩) (by assumption) ?_
        simp only [Act.put, List.setIfInBounds_toArray]; try simp only [List.set_cons_zero, List.set_cons_succ]
        refine wpAnyH_takesJ (i := 10) (v := (.bool true)) (some 154) rfl rfl (by kernel_rfl) (by kernel_rfl) (by kernel_rfl) (fun _ _ _ h => h) (Or.inl ⟨by rfl, (by intro W9 hSw; (try dsimp only at hSw); go_simp; first | done | with_reducible rfl)⟩) (by assumption) ?_
        simp only [Act.put, List.setIfInBounds_toArray]; try simp only [List.set_cons_zero, List.set_cons_succ]
        refine wpAnyH_takesJ (i := 11) (v := (.bool true)) (some 155) rfl rfl (by kernel_rfl) (by kernel_rfl) (by kernel_rfl) (fun _ _ _ h => h) (Or.inl ⟨by rfl, (by intro W9 hSw; (try dsimp only at hSw); go_simp; first | done | with_reducible rfl)⟩) (by assumption) ?_
        simp only [Act.put, List.setIfInBounds_toArray]; try simp only [List.set_cons_zero, List.set_cons_succ]
        refine wpAnyH_takesJ (i := 12) (v := (.agg #[.slice T9 nt9 ct9, .int .i64 b1.size, .slice R9 nr9 cr9, .slice S9 ns9 cs9, .int .u64 (b1.on : Nat)])) (some 156) rfl rfl (by kernel_rfl) (by kernel_rfl) (by kernel_rfl) (fun _ _ _ h => h) (Or.inl ⟨by rfl, (by intro W9 hSw; have s0 := (hSw.2.1).c0; have s1 := (hSw.2.1).c1; have s2 := (hSw.2.1).c2; have s3 := (hSw.2.1).c3; have s4 := (hSw.2.1).c4; clear hSw; go_simp; first | done | with_reducible rfl)⟩) (by assumption) ?_
        simp only [Act.put, List.setIfInBounds_toArray]; try simp only [List.set_cons_zero, List.set_cons_succ]
        refine wpAnyH_takesJ (i := 14) (v := (.agg #[.slice A1 nt1 ct1, .int .i64 r.size, .slice R1 m cr1, .slice S1 ns1 cs1, .int .u64 (r.on : Nat)])) (some 158) rfl rfl (by kernel_rfl) (by kernel_rfl) (by kernel_rfl) (fun _ _ _ h => h) (Or.inl ⟨by rfl, (by intro W9 hSw; have s0 := (hSw.1).c0; have s1 := (hSw.1).c1; have s2 := (hSw.1).c2; have s3 := (hSw.1).c3; have s4 := (hSw.1).c4; clear hSw; go_simp; first | done | with_reducible rfl)⟩) (by assumption) ?_
        simp only [Act.put, List.setIfInBounds_toArray]; try simp only [List.set_cons_zero, List.set_cons_succ]
        refine wpAnyH_ready (rs := [13]) (by kernel_rfl) (by simp) ?_
        refine AllReadyH.cons rfl (fun K hK => ?_) AllReadyH.nil
        go_simp
        go_at_call 16
        refine (AB.out _ (by exact hb2')).mono ?_
        rintro e x2 ⟨Au, nu, cu, rfl, hru, _, hbx⟩
        have hb3 := hb2'.trans (hbx.mono hb2'.size)
        have RU := Lib.hid hru
        refine hK.out _ _ (by exact ⟨Y1.out.step hb3, Y2.out.step hb3, keepcell hb3 hb2, keepcell hb3 hg0, keepcell hb3 hg1⟩) (fun hHeld => ?_)
        clear hK K hru hbx
        try dsimp only
        refine wpAnyH_ready (rs := [15]) (by kernel_rfl) (by simp) ?_
        refine AllReadyH.cons rfl (fun K hK => ?_) AllReadyH.nil
        go_simp
        go_at_call 16
        refine (AX.out _ (by exact hb3)).mono ?_
        rintro e x3 ⟨Av, nv, cv', rfl, hrv, _, hbx⟩
        have hb4 := hb3.trans (hbx.mono hb3.size)
        have BG := Lib.hid (bag_row Au Av _ nv cu cv' _ _ x3 HPM.out (RU.out.below hbx) hrv (by have h7 := hrv.len; have h8 := all_le HLW.out; omega))
        refine hK.out _ _ (by exact ⟨Y1.out.step hb4, Y2.out.step hb4, keepcell hb4 hb2, keepcell hb4 hg0, keepcell hb4 hg1⟩) (fun hHeld => ?_)
        clear hK K hrv hbx RU
        try dsimp only
        refine wpAnyH_ready (rs := [16]) (by kernel_rfl) (by simp) ?_
        refine AllReadyH.cons rfl (fun K hK => ?_) AllReadyH.nil
        go_simp
        go_at_call 15
        refine BG.out.mono ?_
        rintro e x4 ⟨rfl, hbx⟩
        have hb5 := hb4.trans (hbx.mono hb4.size)
        refine hK.out _ _ (by exact ⟨Y1.out.step hb5, Y2.out.step hb5, keepcell hb5 hb2, keepcell hb5 hg0, keepcell hb5 hg1⟩) (fun hHeld => ?_)
        clear hK K hbx BG
        try dsimp only
        refine wpAnyH_takesJ (i := 17) (v := (.bool true)) (some 161) rfl rfl (by kernel_rfl) (by kernel_rfl) (by kernel_rfl) (fun _ _ _ h => h) (Or.inl ⟨by rfl, (by intro W9 hSw; (try dsimp only at hSw); go_simp; first | done | with_reducible rfl)⟩) (by assumption) ?_
        simp only [Act.put, List.setIfInBounds_toArray]; try simp only [List.set_cons_zero, List.set_cons_succ]
        refine wpAnyH_takesJ (i := 18) (v := (.bool true)) (some 4) rfl rfl (by kernel_rfl) (by kernel_rfl) (by kernel_rfl) (fun _ _ _ h => h) (Or.inl ⟨by rfl, (by intro W9 hSw; (try dsimp only at hSw); go_simp; first | done | with_reducible rfl)⟩) (by assumption) ?_
        simp only [Act.put, List.setIfInBounds_toArray]; try simp only [List.set_cons_zero, List.set_cons_succ]
        refine wpAnyH_done (by kernel_rfl) ?_ _
        have BE := Lib.hid (held_trans BA.out hb5)
        clear hHeld hb1 hb2' hb3 hb4 hb5 hg0 hg1
        go_wp2_with fail
        go_ret
        exact ⟨rfl, BE.out⟩
set_option maxRecDepth 100000 in
theorem lifted (os : Os) (started : os.Started) (H : Type) (enc : TypeId × Value → H) :
    ReturnsInHanded {} Tryd.checked os 3 .any (fun w args => (Rows.plugBackSpec.pre enc Tryd.prog Tryd.f3 [] false w args ∧ laidMetH Tryd.prog laidList w) ∧ sizedMet enc Tryd.prog Tryd.f3 (OpenSpec.ofChange Rows.plugBackSpec) false w args)
      (Rows.plugBackSpec.post enc Tryd.prog Tryd.f3 false true false false) := by
  refine returnsInHanded_of_change_and (C := Tryd.checked) (X := fun w _ => laidMetH Tryd.prog laidList w) (fun _ _ _ hh h => h.of_heap hh) own started (by kernel_rfl) Tryd.func3
    (ChangeSpec.witness_shaped (enc := enc) (C := Tryd.checked) (os := os) (X := fun w _ => laidMetH Tryd.prog laidList w) false (World.doorLaid Tryd.prog 14 os) #[.agg #[.slice none 0 0, .int .i64 0, .slice none 0 0, .slice none 0 0, .int .u64 0], .int .i64 0] 8 rfl (World.shaped_of_RefB (by kernel_rfl) (by kernel_rfl)) (by kernel_rfl) (by kernel_rfl) (by kernel_rfl) (door_met os _)) ?_
  intro W base args ds gs before hval0 hW _ _ hL _
  have hval : ∀ (j : Nat) t v, Tryd.f3.params[j]? = some t → args[j]? = some v → Value.okWide Tryd.prog W .any base t v := hval0
  have hW' := hW
  obtain ⟨p, q, hA0, hV, rfl, hfz, hnd⟩ := hW
  have hA : DataW.TrodAll enc Tryd.prog W 0 (fun _ => true) true Tryd.f3.params.toList args.toList ds p := hA0
  rw [Tryd.params3] at hA hval
  obtain ⟨v0, vs0, d0, ds0, p0, q0, hargs, rfl, rfl, h0, r0⟩ := trodAll_cons hA
  obtain ⟨v1, vs1, d1, ds1, p1, q1, rfl, rfl, rfl, h1, r1⟩ := trodAll_cons r0
  obtain ⟨rfl, rfl, rfl⟩ := trodAll_nil r1
  obtain rfl : args = #[v0, v1] := by cases args; simp_all
  obtain ⟨rfl, rfl⟩ := trodVars_none hV
  have k0 := h0
  have lt0 : ∀ x ∈ p0, x.block < W.heap.size := by obtain ⟨m, hm⟩ := k0; exact DataW.trod_lt m _ _ _ hm
  obtain ⟨x0, y0, rfl, hr0⟩ := open_runs (hval 0 27 v0 rfl rfl) h0
  obtain ⟨a1, rfl, rfl, rfl, w1⟩ := open_int Tryd.underlying3 (hval 1 3 v1 rfl rfl) h1
  clear hA0 hval0
  refine (walk x0 y0 a1 W hr0 (in64_of_wf w1) (tab_of_laid hL)).mono fun e W' ⟨he, bel⟩ => ?_
  subst he
  exact ⟨_, rfl, _, _, _, [], _, [], hW', trodAll_mk1 (shut_bool Tryd.underlying4 _), (trodAll_cons_mk (Below.trod laidOut (by kernel_rfl) (of_decide_eq_true (by kernel_rfl)) k0 bel lt0) (trodAll_cons_mk (shut_int Tryd.underlying3 w1) trodAll_mk0)), rfl, bel.frame _, fun h => by cases h⟩
theorem over : Rows.PlugBackSaid :=
  OpenClaim.holds_of_wide 3 Tryd.f3 rfl rfl rfl rfl rfl rfl rfl ⟨rfl, rfl, rfl, rfl, rfl⟩ rfl rfl rfl rfl rfl (by kernel_rfl) Tryd.func3 (by kernel_rfl)
    (of_decide_eq_true (by kernel_rfl)) (by unfold Func.isWrapper; first | (rw [if_pos (by decide +kernel)]; kernel_rfl) | (rw [if_neg (by decide +kernel)]; exact ⟨rfl, rfl⟩))
    (fun os started H enc _ => lifted os started H enc)
theorem proved : Rows.PlugBackCardSaid :=
  Claim7.holds_tied_plain_at .later [] [.data] true Rows.plugBackCard.stood.harness false
    over (fun _ h => by cases h) (by kernel_rfl) (fun _ h => by cases h) plugBack_row_tie rfl ⟨rfl, rfl⟩ (by kernel_rfl) rfl
    (fun f fn hf hfn => by
      obtain rfl : f = 3 := Option.some.inj ((show Tryd.prog.funcNamed "catafalque/catafalquelaw20.PlugBack" = some 3 by kernel_rfl).symm.trans hf) |>.symm
      obtain rfl : fn = Tryd.f3 := (Option.some.inj (Tryd.func3.symm.trans hfn)).symm
      exact ⟨by kernel_rfl, fun j t ht => by
        rw [Tryd.params3] at ht
        have hm : t ∈ [27, 3] := by simpa using Array.mem_of_getElem? ht
        have hall : ([27, 3].all fun u => !Tryd.prog.wantsStandIn u) = true := by kernel_rfl
        exact (show Tryd.prog.wantsStandIn t = false by simpa using List.all_eq_true.1 hall t hm)⟩)
    (by kernel_rfl)
end Go.Proofs.YtcoccegmkcdeiaaDoor.plugBack

