/- PlugRow: who ran, who was next, and who stood in the ring, stand last in the row, in that turn, behind all who stood there: the call answers true and changes nothing that was there; for every input. (Written by wip/gen/gen_nlaws.py: change that.) -/
import Derived.Test.YtcoccegmkcdeiaaDoorNShown
import Derived.Test.YtcoccegmkcdeiaaDoorJMade
import Derived.Test.YtcoccegmkcdeiaaDoorJFew
import Derived.Test.YtcoccegmkcdeiaaDoorM10
import Derived.Test.YtcoccegmkcdeiaaDoorJWhr
import Derived.Test.YtcoccegmkcdeiaaDoorM7
namespace Go.Proofs.YtcoccegmkcdeiaaDoor.plugRow
open Go.ChangeShapes Go.WideShapes Go.ChangeAt Go.RowKit
set_option linter.unusedVariables false

set_option maxRecDepth 100000 in
set_option maxHeartbeats 4000000 in
theorem walk (d : Ad) (r : Jp.Rn) (p : Int) (w : World) (h : RMI (fun b => b < w.heap.size) w d r) (hp : In64 p) (hT : Tab w) :
    Calls Tryd.prog 4 #[jv d r, .int .i64 p] w fun e w' => e = .returned (.bool true) ∧ Below w.heap.size w w' := by
  have HIN := Lib.hid h.2
  have HR := Lib.hid h.1
  have HTW := Lib.hid hT
  obtain ⟨A0, nt, ct, R, nr, cr, S, ns, cs⟩ := d
  obtain ⟨V, hV, hX, hB⟩ := B5.start w (.slice A0 nt ct) (.int .i64 r.size) (.slice R nr cr) (.slice S ns cs) (.int .u64 (r.on : Nat)) 27
  have E := Lib.hid hV
  have X0 := Lib.hid hX
  have B0 := Lib.hid hB
  have SH := Lib.hid (nshown_any V (hT.step hB))
  clear h hT hV hX hB
  unfold jv
  go_enter Tryd.func4, Tryd.ntmps4
  go_wp2_with (rw [← E.out])
  clear E
  refine SH.out.mono ?_
  rintro e w1 ⟨rfl, hb1⟩
  have X1 := Lib.hid (X0.out.step hb1)
  have B1 := Lib.hid (held_trans B0.out hb1)
  have p0 := X1.out.c0
  have p1 := X1.out.c1
  have p2 := X1.out.c2
  have p3 := X1.out.c3
  have p4 := X1.out.c4
  have hFW := fun T HT => few_any ⟨A0, nt, ct, R, nr, cr, S, ns, cs⟩ r T w1 HT (HR.out.below B1.out) HIN.out
  unfold jv at hFW
  simp only at hFW
  have FW := Lib.hid hFW
  clear hb1 SH X0 B0 hFW
  go_wp2_with fail
  by_cases hfew : ¬ FewP r
  · refine (FW.out false (Lib.hid (by simp [hfew]))).mono ?_
    rintro e w2 ⟨rfl, hb2⟩
    have BE := Lib.hid (held_trans B1.out hb2)
    go_wp2_with fail
    go_ret
    exact ⟨rfl, BE.out⟩
  have hfew := Classical.not_not.1 hfew
  have HFEW := Lib.hid hfew
  refine (FW.out true (Lib.hid (by simp [hfew]))).mono ?_
  rintro e w2a ⟨rfl, hb2⟩
  have X2a := Lib.hid (X1.out.step hb2)
  have B2a := Lib.hid (held_trans B1.out hb2)
  have p0 := X2a.out.c0
  have p1 := X2a.out.c1
  have p2 := X2a.out.c2
  have p3 := X2a.out.c3
  have p4 := X2a.out.c4
  obtain ⟨Tb, hTb⟩ : ∃ Tb : Bool, (Tb = true ↔ Jp.May r) := by
    by_cases h : Jp.May r
    · exact ⟨true, by simp [h]⟩
    · exact ⟨false, by simp [h]⟩
  have HTB := Lib.hid hTb
  have hMY := jrefMay_any ⟨A0, nt, ct, R, nr, cr, S, ns, cs⟩ r Tb w2a HTB (HR.out.below B2a.out) HFEW.out.low
  unfold jv at hMY
  simp only at hMY
  have MY := Lib.hid hMY
  clear hb2 FW X1 B1 hfew hMY hTb
  go_wp2_with fail
  refine MY.out.mono ?_
  rintro e w2 ⟨rfl, hb2⟩
  have X2 := Lib.hid (X2a.out.step hb2)
  have B2 := Lib.hid (held_trans B2a.out hb2)
  have p0 := X2.out.c0
  have p1 := X2.out.c1
  have p2 := X2.out.c2
  have p3 := X2.out.c3
  have p4 := X2.out.c4
  clear hb2 MY X2a B2a
  cases Tb
  · have BE := B2
    go_wp2_with fail
    go_ret
    exact ⟨rfl, BE.out⟩
  have HMAY := Lib.hid (HTB.out.1 rfl)
  clear HTB
  have hnr0 := HR.out.nr
  simp only at hnr0
  by_cases hpo : p < 0 ∨ (r.rings.length : Int) ≤ p
  · have BE := B2
    by_cases hp0 : p < 0
    · have hq0 : decide (p < 0) = true := decide_eq_true hp0
      go_wp2_with fail
      go_ret
      exact ⟨rfl, BE.out⟩
    · have hp1 : (nr : Int) ≤ p := by omega
      have hq0 : decide (p < 0) = false := decide_eq_false hp0
      have hq1 : decide ((nr : Int) ≤ p) = true := decide_eq_true hp1
      go_wp2_with fail
      go_ret
      exact ⟨rfl, BE.out⟩
  have hp0 : ¬ p < 0 := by omega
  have hp1 : ¬ (nr : Int) ≤ p := by omega
  have hq0 : decide (p < 0) = false := decide_eq_false hp0
  have hq1 : decide ((nr : Int) ≤ p) = false := decide_eq_false hp1
  have hMD := jmade_any ⟨A0, nt, ct, R, nr, cr, S, ns, cs⟩ r w2 (HR.out.below B2.out) (fun b hb => Nat.lt_of_lt_of_le hb B2.out.size) HFEW.out.low
  unfold jv at hMD
  simp only at hMD
  have MD := Lib.hid hMD
  clear hMD
  go_wp2_with fail
  refine MD.out.mono ?_
  rintro e w3 ⟨⟨A1, nt1, ct1, R1, nr1, cr1, S1, ns1, cs1⟩, rfl, hm3, hb3⟩
  unfold jv
  simp only
  have hbn := below_new w3 (.cells #[.slice A1 nt1 ct1, .int .i64 r.size, .slice R1 nr1 cr1, .slice S1 ns1 cs1, .int .u64 (r.on : Nat)] 33)
  have hY := B5.new w3 (.slice A1 nt1 ct1) (.int .i64 r.size) (.slice R1 nr1 cr1) (.slice S1 ns1 cs1) (.int .u64 (r.on : Nat)) 33
  obtain ⟨V4, hV4⟩ : ∃ V4, V4 = w3.alloc (.cells #[.slice A1 nt1 ct1, .int .i64 r.size, .slice R1 nr1 cr1, .slice S1 ns1 cs1, .int .u64 (r.on : Nat)] 33) := ⟨_, rfl⟩
  rw [← hV4] at hbn hY
  have E4 := Lib.hid hV4
  have B4 := Lib.hid (held_trans (held_trans B2.out hb3) hbn)
  have P4 := Lib.hid ((X2.out.step hb3).step hbn)
  have Y4 := Lib.hid hY
  have M4 := Lib.hid (show RM (fun b => b < w3.heap.size) V4 ⟨A1, nt1, ct1, R1, nr1, cr1, S1, ns1, cs1⟩ r from (hm3.bound.mono (fun b hb => hb.2)).below hbn)
  have HX4 := Lib.hid (show w3.heap.size < V4.heap.size from hY.lt)
  have HWX := Lib.hid (show w.heap.size ≤ w3.heap.size from (held_trans B2.out hb3).size)
  clear hm3 hb3 hbn hY hV4 MD X2 B2 p0 p1 p2 p3 p4
  have YP4 := P4
  have YX4 := Y4
  have MX4 := M4
  have MP4 := Lib.hid (HR.out.below B4.out)
  have BW4 := B4
  have HLW := Lib.hid HFEW.out.low
  clear P4 Y4 M4 B4
  obtain ⟨k, hpk, hk⟩ : ∃ k : Nat, p = k ∧ k < r.rings.length := ⟨p.toNat, by omega, by omega⟩
  subst hpk
  have HK := Lib.hid hk
  have HP := Lib.hid hp
  clear hpo hp0 hp1 hq0 hq1 hnr0 hk hp
  have HON := Lib.hid HR.out.on
  have HIN := Lib.hid (show ¬ (¬ Jp.May r ∨ (k : Int) < 0 ∨ (r.rings.length : Int) ≤ k) from by
    rintro (h | h | h)
    · exact h HMAY.out
    · omega
    · have := HK.out; omega)
  obtain ⟨nc, hnc⟩ : ∃ n, n = (Zp.mem r.on).length := ⟨_, rfl⟩
  have HNC := Lib.hid hnc
  have HN1 := Lib.hid (show 1 ≤ nc from by rw [hnc]; exact List.length_pos_iff.2 HMAY.out.some)
  have HN64 := Lib.hid (show nc ≤ 64 from by rw [hnc]; exact Zp.mem_len _)
  clear hnc
  obtain ⟨ob, hob⟩ : ∃ ob, ob = Jp.onP r k := ⟨_, rfl⟩
  have HOB := Lib.hid hob
  clear hob
  cases ob
  · skip
    have HUN := Lib.hid (show Jp.unplug r k 1000 = (r, 4) from Jp.unplug_none (by rintro (h | h | h | h) <;> first | exact HIN.out (.inl h) | exact HIN.out (.inr (.inl h)) | exact HIN.out (.inr (.inr h)) | omega) HOB.out.symm)
    have hcc := plugUnplug_any ⟨A1, nt1, ct1, R1, nr1, cr1, S1, ns1, cs1⟩ r (k : Int) 1000 V4 MX4.out (fun b hb => Nat.lt_trans hb YX4.out.lt) HLW.out HP.out ⟨by decide, by decide⟩ (HTW.out.step BW4.out)
    rw [HUN.out] at hcc
    unfold jv at hcc
    simp only at hcc
    have C5 := Lib.hid hcc
    clear hcc
    have t0 := YX4.out.c0
    have t1 := YX4.out.c1
    have t2 := YX4.out.c2
    have t3 := YX4.out.c3
    have t4 := YX4.out.c4
    go_wp2_with (rw [← E4.out])
    clear E4
    refine C5.out.mono ?_
    rintro e u5 ⟨⟨T5, nt5, ct5, R5, nr5, cr5, S5, ns5, cs5⟩, rfl, hm, hb⟩
    unfold jv
    simp only
    have hbn := below_new u5 (.cells #[.slice T5 nt5 ct5, .int .i64 r.size, .slice R5 nr5 cr5, .slice S5 ns5 cs5, .int .u64 (r.on : Nat)] 33)
    have hY := B5.new u5 (.slice T5 nt5 ct5) (.int .i64 r.size) (.slice R5 nr5 cr5) (.slice S5 ns5 cs5) (.int .u64 (r.on : Nat)) 33
    obtain ⟨V5, hV⟩ : ∃ V5, V5 = u5.alloc (.cells #[.slice T5 nt5 ct5, .int .i64 r.size, .slice R5 nr5 cr5, .slice S5 ns5 cs5, .int .u64 (r.on : Nat)] 33) := ⟨_, rfl⟩
    rw [← hV] at hbn hY
    have E5 := Lib.hid hV
    have hbj := hb.trans (hbn.mono hb.size)
    have YP5 := Lib.hid (YP4.out.step hbj)
    have MP5 := Lib.hid (MP4.out.below hbj)
    have YX5 := Lib.hid (YX4.out.step hbj)
    have MX5 := Lib.hid (MX4.out.below hbj)
    have BW5 := Lib.hid (held_trans BW4.out hbj)
    clear BW4 YP4 MP4 YX4 MX4 
    have Ya5 := Lib.hid hY
    have Ma5 := Lib.hid ((hm.bound.mono (G := fun b => b < u5.heap.size) (fun b hb => hb.2)).below hbn)
    clear hV hY hbn hm hb hbj C5 t0 t1 t2 t3 t4
    replace Ma5 := Lib.hid (show RM (fun b => b < u5.heap.size) V5 ⟨T5, nt5, ct5, R5, nr5, cr5, S5, ns5, cs5⟩ r from Ma5.out)
    go_wp2_with (rw [← E5.out])
    clear E5
    go_ret
    exact ⟨rfl, BW5.out⟩
  by_cases hc2 : nc < 2
  · skip
    have HUN := Lib.hid (show Jp.unplug r k 1000 = (r, 6) from Jp.unplug_last (by rintro (h | h | h | h) <;> first | exact HIN.out (.inl h) | exact HIN.out (.inr (.inl h)) | exact HIN.out (.inr (.inr h)) | omega) HOB.out.symm (by rw [← HNC.out]; omega))
    have hcc := plugUnplug_any ⟨A1, nt1, ct1, R1, nr1, cr1, S1, ns1, cs1⟩ r (k : Int) 1000 V4 MX4.out (fun b hb => Nat.lt_trans hb YX4.out.lt) HLW.out HP.out ⟨by decide, by decide⟩ (HTW.out.step BW4.out)
    rw [HUN.out] at hcc
    unfold jv at hcc
    simp only at hcc
    have C5 := Lib.hid hcc
    clear hcc
    have t0 := YX4.out.c0
    have t1 := YX4.out.c1
    have t2 := YX4.out.c2
    have t3 := YX4.out.c3
    have t4 := YX4.out.c4
    go_wp2_with (rw [← E4.out])
    clear E4
    refine C5.out.mono ?_
    rintro e u5 ⟨⟨T5, nt5, ct5, R5, nr5, cr5, S5, ns5, cs5⟩, rfl, hm, hb⟩
    unfold jv
    simp only
    have hbn := below_new u5 (.cells #[.slice T5 nt5 ct5, .int .i64 r.size, .slice R5 nr5 cr5, .slice S5 ns5 cs5, .int .u64 (r.on : Nat)] 33)
    have hY := B5.new u5 (.slice T5 nt5 ct5) (.int .i64 r.size) (.slice R5 nr5 cr5) (.slice S5 ns5 cs5) (.int .u64 (r.on : Nat)) 33
    obtain ⟨V5, hV⟩ : ∃ V5, V5 = u5.alloc (.cells #[.slice T5 nt5 ct5, .int .i64 r.size, .slice R5 nr5 cr5, .slice S5 ns5 cs5, .int .u64 (r.on : Nat)] 33) := ⟨_, rfl⟩
    rw [← hV] at hbn hY
    have E5 := Lib.hid hV
    have hbj := hb.trans (hbn.mono hb.size)
    have YP5 := Lib.hid (YP4.out.step hbj)
    have MP5 := Lib.hid (MP4.out.below hbj)
    have YX5 := Lib.hid (YX4.out.step hbj)
    have MX5 := Lib.hid (MX4.out.below hbj)
    have BW5 := Lib.hid (held_trans BW4.out hbj)
    clear BW4 YP4 MP4 YX4 MX4 
    have Ya5 := Lib.hid hY
    have Ma5 := Lib.hid ((hm.bound.mono (G := fun b => b < u5.heap.size) (fun b hb => hb.2)).below hbn)
    clear hV hY hbn hm hb hbj C5 t0 t1 t2 t3 t4
    replace Ma5 := Lib.hid (show RM (fun b => b < u5.heap.size) V5 ⟨T5, nt5, ct5, R5, nr5, cr5, S5, ns5, cs5⟩ r from Ma5.out)
    go_wp2_with (rw [← E5.out])
    clear E5
    go_ret
    exact ⟨rfl, BW5.out⟩
  by_cases hth : Tp.has (Jp.all r) 1000 = true
  · skip
    have HUN := Lib.hid (show Jp.unplug r k 1000 = (r, 5) from Jp.unplug_there (by rintro (h | h | h | h) <;> first | exact HIN.out (.inl h) | exact HIN.out (.inr (.inl h)) | exact HIN.out (.inr (.inr h)) | omega) HOB.out.symm (by rw [← HNC.out]; omega) ⟨by decide, hth⟩)
    have hcc := plugUnplug_any ⟨A1, nt1, ct1, R1, nr1, cr1, S1, ns1, cs1⟩ r (k : Int) 1000 V4 MX4.out (fun b hb => Nat.lt_trans hb YX4.out.lt) HLW.out HP.out ⟨by decide, by decide⟩ (HTW.out.step BW4.out)
    rw [HUN.out] at hcc
    unfold jv at hcc
    simp only at hcc
    have C5 := Lib.hid hcc
    clear hcc
    have t0 := YX4.out.c0
    have t1 := YX4.out.c1
    have t2 := YX4.out.c2
    have t3 := YX4.out.c3
    have t4 := YX4.out.c4
    go_wp2_with (rw [← E4.out])
    clear E4
    refine C5.out.mono ?_
    rintro e u5 ⟨⟨T5, nt5, ct5, R5, nr5, cr5, S5, ns5, cs5⟩, rfl, hm, hb⟩
    unfold jv
    simp only
    have hbn := below_new u5 (.cells #[.slice T5 nt5 ct5, .int .i64 r.size, .slice R5 nr5 cr5, .slice S5 ns5 cs5, .int .u64 (r.on : Nat)] 33)
    have hY := B5.new u5 (.slice T5 nt5 ct5) (.int .i64 r.size) (.slice R5 nr5 cr5) (.slice S5 ns5 cs5) (.int .u64 (r.on : Nat)) 33
    obtain ⟨V5, hV⟩ : ∃ V5, V5 = u5.alloc (.cells #[.slice T5 nt5 ct5, .int .i64 r.size, .slice R5 nr5 cr5, .slice S5 ns5 cs5, .int .u64 (r.on : Nat)] 33) := ⟨_, rfl⟩
    rw [← hV] at hbn hY
    have E5 := Lib.hid hV
    have hbj := hb.trans (hbn.mono hb.size)
    have YP5 := Lib.hid (YP4.out.step hbj)
    have MP5 := Lib.hid (MP4.out.below hbj)
    have YX5 := Lib.hid (YX4.out.step hbj)
    have MX5 := Lib.hid (MX4.out.below hbj)
    have BW5 := Lib.hid (held_trans BW4.out hbj)
    clear BW4 YP4 MP4 YX4 MX4 
    have Ya5 := Lib.hid hY
    have Ma5 := Lib.hid ((hm.bound.mono (G := fun b => b < u5.heap.size) (fun b hb => hb.2)).below hbn)
    clear hV hY hbn hm hb hbj C5 t0 t1 t2 t3 t4
    replace Ma5 := Lib.hid (show RM (fun b => b < u5.heap.size) V5 ⟨T5, nt5, ct5, R5, nr5, cr5, S5, ns5, cs5⟩ r from Ma5.out)
    go_wp2_with (rw [← E5.out])
    clear E5
    go_ret
    exact ⟨rfl, BW5.out⟩
  have hno : (1000 : Int) ∉ Jp.all r := Jp.has_no.1 (by cases e : Tp.has (Jp.all r) 1000 with | false => rfl | true => exact absurd e hth)
  obtain ⟨g1, hg1⟩ : ∃ g, g = Jp.gone r k 1000 := ⟨_, rfl⟩
  have HUN := Lib.hid (show Jp.unplug r k 1000 = (g1, 0) from by rw [hg1]; exact Jp.unplug_done (by rintro (h | h | h | h) <;> first | exact HIN.out (.inl h) | exact HIN.out (.inr (.inl h)) | exact HIN.out (.inr (.inr h)) | omega) HOB.out.symm (by rw [← HNC.out]; omega) (fun h => hth h.2))
  obtain ⟨nn, hnn⟩ : ∃ n, n = Jp.nodeOf r k := ⟨_, rfl⟩
  have HNN := Lib.hid (show nn < r.rows.length from by rw [hnn]; exact Jp.node_lt HMAY.out HK.out)
  have HWH := Lib.hid (show Jp.whr g1 1000 = (-1, (nn : Int)) from by rw [hg1, hnn]; exact Jp.gone_where HMAY.out HK.out (by decide) hno)
  have HLG := Lib.hid (show Low g1 from by rw [hg1]; exact low_gone HFEW.out HMAY.out HK.out ⟨by decide, by decide⟩)
  obtain ⟨l, hl⟩ : ∃ l, r.rows[nn]? = some l := ⟨_, List.getElem?_eq_getElem HNN.out⟩
  obtain ⟨x, hx⟩ : ∃ x, r.rings[k]? = some x := ⟨_, List.getElem?_eq_getElem HK.out⟩
  have HGR := Lib.hid (show g1.rows[nn]? = some ([] ++ l ++ [1000] ++ Rp.all x) from by
    rw [hg1, Jp.gone_rows, ← hnn, List.getElem?_set_self HNN.out, Jp.rowAt_some hl]
    unfold Jp.left
    rw [Jp.ringAt_some hx]
    simp)
  have HGX := Lib.hid (show g1.rings[k]? = some (0, []) from by rw [hg1, Jp.gone_rings, List.getElem?_set_self HK.out])
  have HGL := Lib.hid (show g1.rows.length = r.rows.length ∧ g1.rings.length = r.rings.length from by rw [hg1, Jp.gone_rows, Jp.gone_rings, List.length_set, List.length_set]; exact ⟨rfl, rfl⟩)
  have HFN0 := Lib.hid (HFEW.out.row l (List.mem_of_getElem? hl))
  have HX0 := Lib.hid (HFEW.out.ring x (List.mem_of_getElem? hx))
  have HXN := Lib.hid (show (Rp.all x).length ≤ 41 from by have := HX0.out; unfold Rp.all; split <;> simp <;> omega)
  have HLL := Lib.hid hl
  have HXX := Lib.hid hx
  clear hg1 hnn hl hx hno
  have hcc := plugUnplug_any ⟨A1, nt1, ct1, R1, nr1, cr1, S1, ns1, cs1⟩ r (k : Int) 1000 V4 MX4.out (fun b hb => Nat.lt_trans hb YX4.out.lt) HLW.out HP.out ⟨by decide, by decide⟩ (HTW.out.step BW4.out)
  rw [HUN.out] at hcc
  unfold jv at hcc
  simp only at hcc
  have C5 := Lib.hid hcc
  clear hcc
  have t0 := YX4.out.c0
  have t1 := YX4.out.c1
  have t2 := YX4.out.c2
  have t3 := YX4.out.c3
  have t4 := YX4.out.c4
  go_wp2_with (rw [← E4.out])
  clear E4
  refine C5.out.mono ?_
  rintro e u5 ⟨⟨T5, nt5, ct5, R5, nr5, cr5, S5, ns5, cs5⟩, rfl, hm, hb⟩
  unfold jv
  simp only
  have hbn := below_new u5 (.cells #[.slice T5 nt5 ct5, .int .i64 g1.size, .slice R5 nr5 cr5, .slice S5 ns5 cs5, .int .u64 (g1.on : Nat)] 33)
  have hY := B5.new u5 (.slice T5 nt5 ct5) (.int .i64 g1.size) (.slice R5 nr5 cr5) (.slice S5 ns5 cs5) (.int .u64 (g1.on : Nat)) 33
  obtain ⟨V5, hV⟩ : ∃ V5, V5 = u5.alloc (.cells #[.slice T5 nt5 ct5, .int .i64 g1.size, .slice R5 nr5 cr5, .slice S5 ns5 cs5, .int .u64 (g1.on : Nat)] 33) := ⟨_, rfl⟩
  rw [← hV] at hbn hY
  have E5 := Lib.hid hV
  have hbj := hb.trans (hbn.mono hb.size)
  have YP5 := Lib.hid (YP4.out.step hbj)
  have MP5 := Lib.hid (MP4.out.below hbj)
  have YX5 := Lib.hid (YX4.out.step hbj)
  have MX5 := Lib.hid (MX4.out.below hbj)
  have BW5 := Lib.hid (held_trans BW4.out hbj)
  clear BW4 YP4 MP4 YX4 MX4 
  have Ya5 := Lib.hid hY
  have Ma5 := Lib.hid ((hm.bound.mono (G := fun b => b < u5.heap.size) (fun b hb => hb.2)).below hbn)
  clear hV hY hbn hm hb hbj C5 t0 t1 t2 t3 t4
  replace Ma5 := Lib.hid (show RM (fun b => b < u5.heap.size) V5 ⟨T5, nt5, ct5, R5, nr5, cr5, S5, ns5, cs5⟩ g1 from Ma5.out)
  have hcc := runsWhere_any ⟨T5, nt5, ct5, R5, nr5, cr5, S5, ns5, cs5⟩ g1 1000 V5 Ma5.out HLG.out
  rw [HWH.out] at hcc
  unfold jv at hcc
  simp only at hcc
  have C6 := Lib.hid hcc
  clear hcc
  have t0 := Ya5.out.c0
  have t1 := Ya5.out.c1
  have t2 := Ya5.out.c2
  have t3 := Ya5.out.c3
  have t4 := Ya5.out.c4
  go_wp2_with (rw [← E5.out])
  clear E5
  refine C6.out.mono ?_
  rintro e V6 ⟨rfl, hb⟩
  have YP6 := Lib.hid (YP5.out.step hb)
  have MP6 := Lib.hid (MP5.out.below hb)
  have YX6 := Lib.hid (YX5.out.step hb)
  have MX6 := Lib.hid (MX5.out.below hb)
  have Ya6 := Lib.hid (Ya5.out.step hb)
  have Ma6 := Lib.hid (Ma5.out.below hb)
  have BW6 := Lib.hid (held_trans BW5.out hb)
  clear BW5 YP5 MP5 YX5 MX5 Ya5 Ma5 
  clear hb C6 t0 t1 t2 t3 t4
  have hna := Ma6.out.ns
  have hnx := MX6.out.ns
  have hra := Ma6.out.nr
  have hrx := MX6.out.nr
  simp only at hna hnx hra hrx
  have hln : ns5 = ns1 := by rw [← hna.1, ← hnx.1]; exact HGL.out.1
  have hln2 : nr5 = nr1 := by rw [← hra.1, ← hrx.1]; exact HGL.out.2
  have hnl : nn < ns1 := by have := HNN.out; omega
  have hkl : k < nr1 := by have := HK.out; omega
  have m1 : ¬ (nn : Int) < 0 := by omega
  have m2 : decide ((nn : Int) < 0) = false := decide_eq_false m1
  have m3 : ¬ (ns5 : Int) ≤ (nn : Int) := by omega
  have m4 : decide (ns5 ≤ nn) = false := decide_eq_false (by omega)
  have m5 : ((ns5 : Int) != (ns1 : Int)) = false := by rw [hln]; simp
  have m6 : (0 : Int) ≤ (nn : Int) := by omega
  have m7 : (nn : Int) < (ns1 : Int) := by omega
  have m8 : (nn : Int) < (ns5 : Int) := by omega
  have m9 : (0 : Int) ≤ (k : Int) := by omega
  have m10 : (k : Int) < (nr1 : Int) := by omega
  have m11 : (k : Int) < (nr5 : Int) := by omega
  have t3 := YX6.out.c3
  have s3 := Ya6.out.c3
  clear hna hnx hra hrx hln hln2 hnl hkl
  go_wp2_with fail
  clear t3 s3 m1 m2 m3 m4 m5
  obtain ⟨fb, fo, fA, fn, fc, hfS, _, hf0, hfR⟩ := MX6.out.rowAt HLL.out
  obtain ⟨gb, go', gA, gn, gc, hgS, _, hg0, hg1, hgR⟩ := MX6.out.ringAt HXX.out
  simp only at hfS hgS
  have hx3 := YX6.out.c3
  have hx2 := YX6.out.c2
  rw [hfS] at hx3
  rw [hgS] at hx2
  have HX := Lib.hid hfR
  have HY := Lib.hid hgR
  have HFN := Lib.hid (show fn ≤ 40 from by have := HFN0.out; have := hfR.len; omega)
  have HGN := Lib.hid (show gn ≤ 100000 from by have := HX0.out; have := hgR.len; omega)
  have HFS := Lib.hid hfS
  have HGS := Lib.hid hgS
  clear hfR hgR hfS hgS
  refine wp_region_held_drew (S := fun w' => w'.cell? ⟨w3.heap.size, 3, none⟩ = some (.slice (some ⟨fb, fo, none⟩) ns1 cs1) ∧ w'.cell? ⟨w3.heap.size, 2, none⟩ = some (.slice (some ⟨gb, go', none⟩) nr1 cr1) ∧ w'.cell? ⟨fb, fo + nn, none⟩ = some (.slice fA fn fc) ∧ w'.cell? ⟨gb, go' + k * 2, none⟩ = some (.int .i64 x.1) ∧ w'.cell? ⟨gb, go' + k * 2 + 1, none⟩ = some (.slice gA gn gc)) (by kernel_rfl) ⟨hx3, hx2, hf0, hg0, hg1⟩ (fun hHeld => ?_)
  have hb1 := (Below.refl V6.heap.size V6).drew
  obtain ⟨x1, hx1⟩ : ∃ x1, x1 = V6.drew := ⟨_, rfl⟩
  rw [← hx1] at hb1 hHeld ⊢
  clear hx1
  refine wpAnyH_takesJ (i := 1) (v := (.pointer (some ⟨w3.heap.size, 3, none⟩))) (some 80) rfl rfl (by kernel_rfl) (by kernel_rfl) (by kernel_rfl) (fun _ _ _ h => h) (Or.inl ⟨by rfl, (by intro W9 hSw; (try dsimp only at hSw); go_simp; first | done | with_reducible rfl)⟩) (by assumption) ?_
  simp only [Act.put, List.setIfInBounds_toArray]; try simp only [List.set_cons_zero, List.set_cons_succ]
  refine wpAnyH_takesJ (i := 2) (v := (.slice (some ⟨fb, fo, none⟩) ns1 cs1)) (some 81) rfl rfl (by kernel_rfl) (by kernel_rfl) (by kernel_rfl) (fun _ _ _ h => h) (Or.inl ⟨by rfl, (by intro W9 hSw; (try dsimp only at hSw); go_simp; first | done | with_reducible rfl)⟩) (by assumption) ?_
  simp only [Act.put, List.setIfInBounds_toArray]; try simp only [List.set_cons_zero, List.set_cons_succ]
  refine wpAnyH_takesJ (i := 3) (v := (.int .i64 (nn : Nat))) (some 82) rfl rfl (by kernel_rfl) (by kernel_rfl) (by kernel_rfl) (fun _ _ _ h => h) (Or.inl ⟨by rfl, (by intro W9 hSw; (try dsimp only at hSw); go_simp; first | done | with_reducible rfl)⟩) (by assumption) ?_
  simp only [Act.put, List.setIfInBounds_toArray]; try simp only [List.set_cons_zero, List.set_cons_succ]
  refine wpAnyH_takesJ (i := 4) (v := (.pointer (some ⟨fb, fo + nn, none⟩))) (some 83) rfl rfl (by kernel_rfl) (by kernel_rfl) (by kernel_rfl) (fun _ _ _ h => h) (Or.inl ⟨by rfl, (by intro W9 hSw; (try dsimp only at hSw); go_simp; first | done | with_reducible rfl)⟩) (by assumption) ?_
  simp only [Act.put, List.setIfInBounds_toArray]; try simp only [List.set_cons_zero, List.set_cons_succ]
  refine wpAnyH_takesJ (i := 5) (v := (.slice fA fn fc)) (some 84) rfl rfl (by kernel_rfl) (by kernel_rfl) (by kernel_rfl) (fun _ _ _ h => h) (Or.inl ⟨by rfl, (by intro W9 hSw; (try dsimp only at hSw); go_simp; first | done | with_reducible rfl)⟩) (by assumption) ?_
  simp only [Act.put, List.setIfInBounds_toArray]; try simp only [List.set_cons_zero, List.set_cons_succ]
  refine wpAnyH_takesJ (i := 9) (v := (.pointer (some ⟨w3.heap.size, 2, none⟩))) (some 88) rfl rfl (by kernel_rfl) (by kernel_rfl) (by kernel_rfl) (fun _ _ _ h => h) (Or.inl ⟨by rfl, (by intro W9 hSw; (try dsimp only at hSw); go_simp; first | done | with_reducible rfl)⟩) (by assumption) ?_
  simp only [Act.put, List.setIfInBounds_toArray]; try simp only [List.set_cons_zero, List.set_cons_succ]
  refine wpAnyH_takesJ (i := 10) (v := (.slice (some ⟨gb, go', none⟩) nr1 cr1)) (some 89) rfl rfl (by kernel_rfl) (by kernel_rfl) (by kernel_rfl) (fun _ _ _ h => h) (Or.inl ⟨by rfl, (by intro W9 hSw; (try dsimp only at hSw); go_simp; first | done | with_reducible rfl)⟩) (by assumption) ?_
  simp only [Act.put, List.setIfInBounds_toArray]; try simp only [List.set_cons_zero, List.set_cons_succ]
  refine wpAnyH_takesJ (i := 11) (v := (.int .i64 (k : Nat))) (some 90) rfl rfl (by kernel_rfl) (by kernel_rfl) (by kernel_rfl) (fun _ _ _ h => h) (Or.inl ⟨by rfl, (by intro W9 hSw; (try dsimp only at hSw); go_simp; first | done | with_reducible rfl)⟩) (by assumption) ?_
  simp only [Act.put, List.setIfInBounds_toArray]; try simp only [List.set_cons_zero, List.set_cons_succ]
  refine wpAnyH_takesJ (i := 12) (v := (.pointer (some ⟨gb, go' + k * 2, none⟩))) (some 91) rfl rfl (by kernel_rfl) (by kernel_rfl) (by kernel_rfl) (fun _ _ _ h => h) (Or.inl ⟨by rfl, (by intro W9 hSw; (try dsimp only at hSw); go_simp; first | done | with_reducible rfl)⟩) (by assumption) ?_
  simp only [Act.put, List.setIfInBounds_toArray]; try simp only [List.set_cons_zero, List.set_cons_succ]
  refine wpAnyH_takesJ (i := 13) (v := (.agg #[.int .i64 x.1, .slice gA gn gc])) (some 92) rfl rfl (by kernel_rfl) (by kernel_rfl) (by kernel_rfl) (fun _ _ _ h => h) (Or.inl ⟨by rfl, (by intro W9 hSw; (try dsimp only at hSw); go_simp; first | done | with_reducible rfl)⟩) (by assumption) ?_
  simp only [Act.put, List.setIfInBounds_toArray]; try simp only [List.set_cons_zero, List.set_cons_succ]
  refine wpAnyH_ready (rs := [0, 7]) (by kernel_rfl) (by simp) ?_
  refine AllReadyH.cons rfl (fun K hK => ?_) (AllReadyH.cons rfl (fun K hK => ?_) AllReadyH.nil)
  · skip
    go_simp
    have hbl2 := below_new x1 (.cells #[] 3)
    have hoe := own_no x1 x1.heap.size 3 1 (Nat.le_refl _)
    have hb2 := hb1.trans (hbl2.mono hb1.size)
    obtain ⟨x2, hx⟩ : ∃ y, y = x1.alloc (.cells #[] 3) := ⟨_, rfl⟩
    have hsz : x2.heap.size = x1.heap.size + 1 := by rw [hx]; simp
    rw [← hx] at hoe hbl2 hb2 ⊢
    obtain ⟨L, hL⟩ : ∃ L, L = x1.heap.size := ⟨_, rfl⟩
    have hVL : V6.heap.size ≤ L := by rw [hL]; exact hb1.size
    have hLx : L < x2.heap.size := by omega
    rw [← hL] at hoe ⊢
    have OE := Lib.hid hoe
    skip
    refine hK.out _ _ (by exact ⟨keepcell hb2 hx3, keepcell hb2 hx2, keepcell hb2 hf0, keepcell hb2 hg0, keepcell hb2 hg1⟩) (fun hHeld => ?_)
    clear hK K hx hoe hsz hL
    try dsimp only
    refine wpAnyH_ready (rs := [6, 7]) (by kernel_rfl) (by simp) ?_
    refine AllReadyH.cons rfl (fun K hK => ?_) (AllReadyH.cons rfl (fun K hK => ?_) AllReadyH.nil)
    · skip
      refine step_append_row (by rfl) (.tmp 79) (.tmp 84) (by rfl) L (.slice (some ⟨L, 0, none⟩) 0 0) 0 [] (by rfl) OE.out fA fn fc l (by rfl) (HX.out.below hb2) (by have := HFN.out; omega) (by have := hb2.size; omega) ?_
      intro v1 x3 ho1 hgA1
      have hb3 := hb2.grown hgA1 hb2.size (fun k hk => by simp [Value.ownBlock] at hk; omega)
      have hLx3 : L < x3.heap.size := by have := hgA1.size; omega
      have O1 := Lib.hid (show x3.ownsRow L 3 1 v1 (0 + fn) (([] ++ l).map (Value.int .i64)) from ho1)
      skip
      refine hK.out _ _ (by exact ⟨keepcell hb3 hx3, keepcell hb3 hx2, keepcell hb3 hf0, keepcell hb3 hg0, keepcell hb3 hg1⟩) (fun hHeld => ?_)
      clear hK K ho1 hgA1
      try dsimp only
      refine wpAnyH_ready (rs := [7]) (by kernel_rfl) (by simp) ?_
      refine AllReadyH.cons rfl (fun K hK => ?_) AllReadyH.nil
      go_simp
      have hbs4 := below_new x3 (.cells #[.int .i64 1000] 3)
      have hra := row_at x3 1000 _ rfl
      have hb4 := hb3.trans (hbs4.mono hb3.size)
      obtain ⟨x4, hx⟩ : ∃ y, y = x3.alloc (.cells #[.int .i64 1000] 3) := ⟨_, rfl⟩
      have hsz : x4.heap.size = x3.heap.size + 1 := by rw [hx]; simp
      rw [← hx] at hra hbs4 hb4 ⊢
      obtain ⟨Yb, hYb⟩ : ∃ Yb, Yb = x3.heap.size := ⟨_, rfl⟩
      have hYx : Yb < x4.heap.size := by omega
      have hsz4 : x3.heap.size ≤ x4.heap.size := hbs4.size
      rw [← hYb] at hra ⊢
      have RA := Lib.hid hra
      skip
      refine hK.out _ _ (by exact ⟨keepcell hb4 hx3, keepcell hb4 hx2, keepcell hb4 hf0, keepcell hb4 hg0, keepcell hb4 hg1⟩) (fun hHeld => ?_)
      clear hK K hx hra hsz hYb
      try dsimp only
      refine wpAnyH_ready (rs := [8]) (by kernel_rfl) (by simp) ?_
      refine AllReadyH.cons rfl (fun K hK => ?_) AllReadyH.nil
      refine step_append_row (by rfl) (.tmp 85) (.tmp 86) (by rfl) L v1 (0 + fn) ([] ++ l) (by rfl) ((own_below O1.out hbs4)) (some ⟨Yb, 0, none⟩) 1 1 [1000] (by rfl) RA.out (by have := HFN.out; omega) (by have := hb4.size; omega) ?_
      intro v2 x5 ho2 hgA2
      have hb5 := hb4.grown hgA2 hb4.size (fun k hk => by have := ((((own_below O1.out hbs4))).lt k hk).1; omega)
      have hLx5 : L < x5.heap.size := by have := hgA2.size; omega
      have O2 := Lib.hid (show x5.ownsRow L 3 1 v2 (0 + fn + 1) (([] ++ l ++ [1000]).map (Value.int .i64)) from ho2)
      refine hK.out _ _ (by exact ⟨keepcell hb5 hx3, keepcell hb5 hx2, keepcell hb5 hf0, keepcell hb5 hg0, keepcell hb5 hg1⟩) (fun hHeld => ?_)
      clear hK K ho2 hgA2
      try dsimp only
      refine wpAnyH_ready (rs := [14]) (by kernel_rfl) (by simp) ?_
      refine AllReadyH.cons rfl (fun K hK => ?_) AllReadyH.nil
      go_simp
      go_at_call 14
      refine (all_any x.1 gA gn gc x.2 x5 (HY.out.below hb5) HGN.out).mono ?_
      rintro e x9 ⟨Aq, nq, cq, rfl, hrq, _, hbx⟩
      have hb9 := hb5.trans (hbx.mono hb5.size)
      have hlq : (Rp.all x).length = nq := hrq.len
      have hLx9 : L ≤ x9.heap.size := by have := hbx.size; omega
      have O3 := Lib.hid (own_below O2.out hbx)
      refine hK.out _ _ (by exact ⟨keepcell hb9 hx3, keepcell hb9 hx2, keepcell hb9 hf0, keepcell hb9 hg0, keepcell hb9 hg1⟩) (fun hHeld => ?_)
      clear hK K hbx
      try dsimp only
      refine wpAnyH_ready (rs := [15]) (by kernel_rfl) (by simp) ?_
      refine AllReadyH.cons rfl (fun K hK => ?_) AllReadyH.nil
      refine step_append_row (by rfl) (.tmp 87) (.tmp 93) (by rfl) L v2 (0 + fn + 1) ([] ++ l ++ [1000]) (by rfl) O3.out Aq nq cq (Rp.all x) (by rfl) hrq (by have := HFN.out; have := HXN.out; omega) hLx9 ?_
      intro v3 x10 ho3 hgA3
      have hbE := hb9.grown hgA3 hb9.size (fun k hk => by have := (O3.out.lt k hk).1; omega)
      have ho4 : x10.ownsRow L 3 1 v3 (0 + fn + 1 + nq) (([] ++ l ++ [1000] ++ Rp.all x).map (Value.int .i64)) := ho3
      obtain ⟨Aw, cw, rfl, hrw⟩ := Row.of_own ho4
      have RW := Lib.hid hrw
      refine hK.out _ _ (by exact ⟨keepcell hbE hx3, keepcell hbE hx2, keepcell hbE hf0, keepcell hbE hg0, keepcell hbE hg1⟩) (fun hHeld => ?_)
      clear hK K ho3 ho4 hgA3 hrq hrw O3 O2
      try dsimp only
      obtain ⟨nw, hnw⟩ : ∃ n, n = 0 + fn + 1 + nq := ⟨_, rfl⟩
      rw [← hnw] at RW ⊢
      clear hnw
      refine wpAnyH_takesJ (i := 16) (v := (.slice Aw nw cw)) (some 11) rfl rfl (by kernel_rfl) (by kernel_rfl) (by kernel_rfl) (fun _ _ _ h => h) (Or.inl ⟨by rfl, (by intro W9 hSw; (try dsimp only at hSw); go_simp; first | done | with_reducible rfl)⟩) (by assumption) ?_
      simp only [Act.put, List.setIfInBounds_toArray]; try simp only [List.set_cons_zero, List.set_cons_succ]
      refine wpAnyH_done (by kernel_rfl) ?_ _
      clear hHeld
      obtain ⟨V7, rfl⟩ : ∃ V, V = x10 := ⟨_, rfl⟩
      have YP7 := Lib.hid (YP6.out.step hbE)
      have MP7 := Lib.hid (MP6.out.below hbE)
      have YX7 := Lib.hid (YX6.out.step hbE)
      have MX7 := Lib.hid (MX6.out.below hbE)
      have Ya7 := Lib.hid (Ya6.out.step hbE)
      have Ma7 := Lib.hid (Ma6.out.below hbE)
      have BW7 := Lib.hid (held_trans BW6.out hbE)
      clear BW6 YP6 MP6 YX6 MX6 Ya6 Ma6 
      obtain ⟨ab, ao, aA, an, ac, haS, _, ha0, haR⟩ := Ma7.out.rowAt HGR.out
      obtain ⟨eb, eo, eA, en, ec, heS, _, he0, he1, heR⟩ := Ma7.out.ringAt HGX.out
      simp only at haS heS
      obtain rfl : 0 = en := heR.len
      have s3 := Ya7.out.c3
      have s2 := Ya7.out.c2
      rw [haS] at s3
      rw [heS] at s2
      have IN := Lib.hid (ints_rowN aA Aw an nw ac cw _ _ V7 rfl haR RW.out)
      have HE := Lib.hid heR
      have HKP := Lib.hid (show ∀ W, Below V7.heap.size V7 W → W.cell? ⟨u5.heap.size, 2, none⟩ = some (.slice (some ⟨eb, eo, none⟩) nr5 cr5) ∧ W.cell? ⟨eb, eo + k * 2, none⟩ = some (.int .i64 0) ∧ W.cell? ⟨eb, eo + k * 2 + 1, none⟩ = some (.slice eA 0 ec) from fun W hW => ⟨keepcell hW s2, keepcell hW he0, keepcell hW he1⟩)
      have HAS := Lib.hid haS
      have HES := Lib.hid heS
      clear haS heS haR heR hx3 hx2 hf0 hg0 hg1 s2 he0 he1 hbE hlq
      go_wp2_with fail
      refine IN.out.mono ?_
      rintro e w8 ⟨rfl, hb8⟩
      have H8 := Lib.hid hb8
      have B8 := Lib.hid (held_trans BW7.out hb8)
      obtain ⟨m2, m4, m5⟩ := HKP.out _ H8.out
      have AL := Lib.hid (all_any 0 eA 0 ec [] w8 (HE.out.below H8.out) (by omega))
      clear IN hb8 s3 ha0
      go_wp2_with fail
      refine AL.out.mono ?_
      rintro e w10 ⟨Ae, ne, ce, rfl, hre, _, hb10⟩
      obtain rfl : 0 = ne := hre.len
      have BF := Lib.hid (held_trans B8.out hb10)
      clear hre hb10 AL m2 m4 m5
      go_wp2_with fail
      go_ret
      exact ⟨rfl, BF.out⟩
    · skip
      go_simp
      have hbs3 := below_new x2 (.cells #[.int .i64 1000] 3)
      have hra := row_at x2 1000 _ rfl
      have hb3 := hb2.trans (hbs3.mono hb2.size)
      obtain ⟨x3, hx⟩ : ∃ y, y = x2.alloc (.cells #[.int .i64 1000] 3) := ⟨_, rfl⟩
      have hsz : x3.heap.size = x2.heap.size + 1 := by rw [hx]; simp
      rw [← hx] at hra hbs3 hb3 ⊢
      obtain ⟨Yb, hYb⟩ : ∃ Yb, Yb = x2.heap.size := ⟨_, rfl⟩
      have hYx : Yb < x3.heap.size := by omega
      have hsz3 : x2.heap.size ≤ x3.heap.size := hbs3.size
      rw [← hYb] at hra ⊢
      have RA := Lib.hid hra
      (have hLY : L < Yb := by omega)
      refine hK.out _ _ (by exact ⟨keepcell hb3 hx3, keepcell hb3 hx2, keepcell hb3 hf0, keepcell hb3 hg0, keepcell hb3 hg1⟩) (fun hHeld => ?_)
      clear hK K hx hra hsz hYb
      try dsimp only
      refine wpAnyH_ready (rs := [6]) (by kernel_rfl) (by simp) ?_
      refine AllReadyH.cons rfl (fun K hK => ?_) AllReadyH.nil
      refine step_append_row (by rfl) (.tmp 79) (.tmp 84) (by rfl) L (.slice (some ⟨L, 0, none⟩) 0 0) 0 [] (by rfl) ((own_below OE.out hbs3)) fA fn fc l (by rfl) (HX.out.below hb3) (by have := HFN.out; omega) (by have := hb3.size; omega) ?_
      intro v1 x4 ho1 hgA1
      have hb4 := hb3.grown hgA1 hb3.size (fun k hk => by simp [Value.ownBlock] at hk; omega)
      have hLx4 : L < x4.heap.size := by have := hgA1.size; omega
      have O1 := Lib.hid (show x4.ownsRow L 3 1 v1 (0 + fn) (([] ++ l).map (Value.int .i64)) from ho1)
      (have RB := Lib.hid (RA.out.grown hgA1 (by intro ad e; injection e with e; subst e; simp [Value.ownBlock]; omega)))
      refine hK.out _ _ (by exact ⟨keepcell hb4 hx3, keepcell hb4 hx2, keepcell hb4 hf0, keepcell hb4 hg0, keepcell hb4 hg1⟩) (fun hHeld => ?_)
      clear hK K ho1 hgA1
      try dsimp only
      refine wpAnyH_ready (rs := [8]) (by kernel_rfl) (by simp) ?_
      refine AllReadyH.cons rfl (fun K hK => ?_) AllReadyH.nil
      refine step_append_row (by rfl) (.tmp 85) (.tmp 86) (by rfl) L v1 (0 + fn) ([] ++ l) (by rfl) O1.out (some ⟨Yb, 0, none⟩) 1 1 [1000] (by rfl) RB.out (by have := HFN.out; omega) (by have := hb4.size; omega) ?_
      intro v2 x5 ho2 hgA2
      have hb5 := hb4.grown hgA2 hb4.size (fun k hk => by have := ((O1.out).lt k hk).1; omega)
      have hLx5 : L < x5.heap.size := by have := hgA2.size; omega
      have O2 := Lib.hid (show x5.ownsRow L 3 1 v2 (0 + fn + 1) (([] ++ l ++ [1000]).map (Value.int .i64)) from ho2)
      refine hK.out _ _ (by exact ⟨keepcell hb5 hx3, keepcell hb5 hx2, keepcell hb5 hf0, keepcell hb5 hg0, keepcell hb5 hg1⟩) (fun hHeld => ?_)
      clear hK K ho2 hgA2
      try dsimp only
      refine wpAnyH_ready (rs := [14]) (by kernel_rfl) (by simp) ?_
      refine AllReadyH.cons rfl (fun K hK => ?_) AllReadyH.nil
      go_simp
      go_at_call 14
      refine (all_any x.1 gA gn gc x.2 x5 (HY.out.below hb5) HGN.out).mono ?_
      rintro e x9 ⟨Aq, nq, cq, rfl, hrq, _, hbx⟩
      have hb9 := hb5.trans (hbx.mono hb5.size)
      have hlq : (Rp.all x).length = nq := hrq.len
      have hLx9 : L ≤ x9.heap.size := by have := hbx.size; omega
      have O3 := Lib.hid (own_below O2.out hbx)
      refine hK.out _ _ (by exact ⟨keepcell hb9 hx3, keepcell hb9 hx2, keepcell hb9 hf0, keepcell hb9 hg0, keepcell hb9 hg1⟩) (fun hHeld => ?_)
      clear hK K hbx
      try dsimp only
      refine wpAnyH_ready (rs := [15]) (by kernel_rfl) (by simp) ?_
      refine AllReadyH.cons rfl (fun K hK => ?_) AllReadyH.nil
      refine step_append_row (by rfl) (.tmp 87) (.tmp 93) (by rfl) L v2 (0 + fn + 1) ([] ++ l ++ [1000]) (by rfl) O3.out Aq nq cq (Rp.all x) (by rfl) hrq (by have := HFN.out; have := HXN.out; omega) hLx9 ?_
      intro v3 x10 ho3 hgA3
      have hbE := hb9.grown hgA3 hb9.size (fun k hk => by have := (O3.out.lt k hk).1; omega)
      have ho4 : x10.ownsRow L 3 1 v3 (0 + fn + 1 + nq) (([] ++ l ++ [1000] ++ Rp.all x).map (Value.int .i64)) := ho3
      obtain ⟨Aw, cw, rfl, hrw⟩ := Row.of_own ho4
      have RW := Lib.hid hrw
      refine hK.out _ _ (by exact ⟨keepcell hbE hx3, keepcell hbE hx2, keepcell hbE hf0, keepcell hbE hg0, keepcell hbE hg1⟩) (fun hHeld => ?_)
      clear hK K ho3 ho4 hgA3 hrq hrw O3 O2
      try dsimp only
      obtain ⟨nw, hnw⟩ : ∃ n, n = 0 + fn + 1 + nq := ⟨_, rfl⟩
      rw [← hnw] at RW ⊢
      clear hnw
      refine wpAnyH_takesJ (i := 16) (v := (.slice Aw nw cw)) (some 11) rfl rfl (by kernel_rfl) (by kernel_rfl) (by kernel_rfl) (fun _ _ _ h => h) (Or.inl ⟨by rfl, (by intro W9 hSw; (try dsimp only at hSw); go_simp; first | done | with_reducible rfl)⟩) (by assumption) ?_
      simp only [Act.put, List.setIfInBounds_toArray]; try simp only [List.set_cons_zero, List.set_cons_succ]
      refine wpAnyH_done (by kernel_rfl) ?_ _
      clear hHeld
      obtain ⟨V7, rfl⟩ : ∃ V, V = x10 := ⟨_, rfl⟩
      have YP7 := Lib.hid (YP6.out.step hbE)
      have MP7 := Lib.hid (MP6.out.below hbE)
      have YX7 := Lib.hid (YX6.out.step hbE)
      have MX7 := Lib.hid (MX6.out.below hbE)
      have Ya7 := Lib.hid (Ya6.out.step hbE)
      have Ma7 := Lib.hid (Ma6.out.below hbE)
      have BW7 := Lib.hid (held_trans BW6.out hbE)
      clear BW6 YP6 MP6 YX6 MX6 Ya6 Ma6 
      obtain ⟨ab, ao, aA, an, ac, haS, _, ha0, haR⟩ := Ma7.out.rowAt HGR.out
      obtain ⟨eb, eo, eA, en, ec, heS, _, he0, he1, heR⟩ := Ma7.out.ringAt HGX.out
      simp only at haS heS
      obtain rfl : 0 = en := heR.len
      have s3 := Ya7.out.c3
      have s2 := Ya7.out.c2
      rw [haS] at s3
      rw [heS] at s2
      have IN := Lib.hid (ints_rowN aA Aw an nw ac cw _ _ V7 rfl haR RW.out)
      have HE := Lib.hid heR
      have HKP := Lib.hid (show ∀ W, Below V7.heap.size V7 W → W.cell? ⟨u5.heap.size, 2, none⟩ = some (.slice (some ⟨eb, eo, none⟩) nr5 cr5) ∧ W.cell? ⟨eb, eo + k * 2, none⟩ = some (.int .i64 0) ∧ W.cell? ⟨eb, eo + k * 2 + 1, none⟩ = some (.slice eA 0 ec) from fun W hW => ⟨keepcell hW s2, keepcell hW he0, keepcell hW he1⟩)
      have HAS := Lib.hid haS
      have HES := Lib.hid heS
      clear haS heS haR heR hx3 hx2 hf0 hg0 hg1 s2 he0 he1 hbE hlq
      go_wp2_with fail
      refine IN.out.mono ?_
      rintro e w8 ⟨rfl, hb8⟩
      have H8 := Lib.hid hb8
      have B8 := Lib.hid (held_trans BW7.out hb8)
      obtain ⟨m2, m4, m5⟩ := HKP.out _ H8.out
      have AL := Lib.hid (all_any 0 eA 0 ec [] w8 (HE.out.below H8.out) (by omega))
      clear IN hb8 s3 ha0
      go_wp2_with fail
      refine AL.out.mono ?_
      rintro e w10 ⟨Ae, ne, ce, rfl, hre, _, hb10⟩
      obtain rfl : 0 = ne := hre.len
      have BF := Lib.hid (held_trans B8.out hb10)
      clear hre hb10 AL m2 m4 m5
      go_wp2_with fail
      go_ret
      exact ⟨rfl, BF.out⟩
  · skip
    go_simp
    have hbs2 := below_new x1 (.cells #[.int .i64 1000] 3)
    have hra := row_at x1 1000 _ rfl
    have hb2 := hb1.trans (hbs2.mono hb1.size)
    obtain ⟨x2, hx⟩ : ∃ y, y = x1.alloc (.cells #[.int .i64 1000] 3) := ⟨_, rfl⟩
    have hsz : x2.heap.size = x1.heap.size + 1 := by rw [hx]; simp
    rw [← hx] at hra hbs2 hb2 ⊢
    obtain ⟨Yb, hYb⟩ : ∃ Yb, Yb = x1.heap.size := ⟨_, rfl⟩
    have hYx : Yb < x2.heap.size := by omega
    have hsz2 : x1.heap.size ≤ x2.heap.size := hbs2.size
    rw [← hYb] at hra ⊢
    have RA := Lib.hid hra
    skip
    refine hK.out _ _ (by exact ⟨keepcell hb2 hx3, keepcell hb2 hx2, keepcell hb2 hf0, keepcell hb2 hg0, keepcell hb2 hg1⟩) (fun hHeld => ?_)
    clear hK K hx hra hsz hYb
    try dsimp only
    refine wpAnyH_ready (rs := [0]) (by kernel_rfl) (by simp) ?_
    refine AllReadyH.cons rfl (fun K hK => ?_) AllReadyH.nil
    go_simp
    have hbl3 := below_new x2 (.cells #[] 3)
    have hoe := own_no x2 x2.heap.size 3 1 (Nat.le_refl _)
    have hb3 := hb2.trans (hbl3.mono hb2.size)
    obtain ⟨x3, hx⟩ : ∃ y, y = x2.alloc (.cells #[] 3) := ⟨_, rfl⟩
    have hsz : x3.heap.size = x2.heap.size + 1 := by rw [hx]; simp
    rw [← hx] at hoe hbl3 hb3 ⊢
    obtain ⟨L, hL⟩ : ∃ L, L = x2.heap.size := ⟨_, rfl⟩
    have hVL : V6.heap.size ≤ L := by rw [hL]; exact hb2.size
    have hLx : L < x3.heap.size := by omega
    rw [← hL] at hoe ⊢
    have OE := Lib.hid hoe
    (have hLY : Yb < L := by omega)
    refine hK.out _ _ (by exact ⟨keepcell hb3 hx3, keepcell hb3 hx2, keepcell hb3 hf0, keepcell hb3 hg0, keepcell hb3 hg1⟩) (fun hHeld => ?_)
    clear hK K hx hoe hsz hL
    try dsimp only
    refine wpAnyH_ready (rs := [6]) (by kernel_rfl) (by simp) ?_
    refine AllReadyH.cons rfl (fun K hK => ?_) AllReadyH.nil
    refine step_append_row (by rfl) (.tmp 79) (.tmp 84) (by rfl) L (.slice (some ⟨L, 0, none⟩) 0 0) 0 [] (by rfl) OE.out fA fn fc l (by rfl) (HX.out.below hb3) (by have := HFN.out; omega) (by have := hb3.size; omega) ?_
    intro v1 x4 ho1 hgA1
    have hb4 := hb3.grown hgA1 hb3.size (fun k hk => by simp [Value.ownBlock] at hk; omega)
    have hLx4 : L < x4.heap.size := by have := hgA1.size; omega
    have O1 := Lib.hid (show x4.ownsRow L 3 1 v1 (0 + fn) (([] ++ l).map (Value.int .i64)) from ho1)
    (have RB := Lib.hid ((RA.out.below hbl3).grown hgA1 (by intro ad e; injection e with e; subst e; simp [Value.ownBlock]; omega)))
    refine hK.out _ _ (by exact ⟨keepcell hb4 hx3, keepcell hb4 hx2, keepcell hb4 hf0, keepcell hb4 hg0, keepcell hb4 hg1⟩) (fun hHeld => ?_)
    clear hK K ho1 hgA1
    try dsimp only
    refine wpAnyH_ready (rs := [8]) (by kernel_rfl) (by simp) ?_
    refine AllReadyH.cons rfl (fun K hK => ?_) AllReadyH.nil
    refine step_append_row (by rfl) (.tmp 85) (.tmp 86) (by rfl) L v1 (0 + fn) ([] ++ l) (by rfl) O1.out (some ⟨Yb, 0, none⟩) 1 1 [1000] (by rfl) RB.out (by have := HFN.out; omega) (by have := hb4.size; omega) ?_
    intro v2 x5 ho2 hgA2
    have hb5 := hb4.grown hgA2 hb4.size (fun k hk => by have := ((O1.out).lt k hk).1; omega)
    have hLx5 : L < x5.heap.size := by have := hgA2.size; omega
    have O2 := Lib.hid (show x5.ownsRow L 3 1 v2 (0 + fn + 1) (([] ++ l ++ [1000]).map (Value.int .i64)) from ho2)
    refine hK.out _ _ (by exact ⟨keepcell hb5 hx3, keepcell hb5 hx2, keepcell hb5 hf0, keepcell hb5 hg0, keepcell hb5 hg1⟩) (fun hHeld => ?_)
    clear hK K ho2 hgA2
    try dsimp only
    refine wpAnyH_ready (rs := [14]) (by kernel_rfl) (by simp) ?_
    refine AllReadyH.cons rfl (fun K hK => ?_) AllReadyH.nil
    go_simp
    go_at_call 14
    refine (all_any x.1 gA gn gc x.2 x5 (HY.out.below hb5) HGN.out).mono ?_
    rintro e x9 ⟨Aq, nq, cq, rfl, hrq, _, hbx⟩
    have hb9 := hb5.trans (hbx.mono hb5.size)
    have hlq : (Rp.all x).length = nq := hrq.len
    have hLx9 : L ≤ x9.heap.size := by have := hbx.size; omega
    have O3 := Lib.hid (own_below O2.out hbx)
    refine hK.out _ _ (by exact ⟨keepcell hb9 hx3, keepcell hb9 hx2, keepcell hb9 hf0, keepcell hb9 hg0, keepcell hb9 hg1⟩) (fun hHeld => ?_)
    clear hK K hbx
    try dsimp only
    refine wpAnyH_ready (rs := [15]) (by kernel_rfl) (by simp) ?_
    refine AllReadyH.cons rfl (fun K hK => ?_) AllReadyH.nil
    refine step_append_row (by rfl) (.tmp 87) (.tmp 93) (by rfl) L v2 (0 + fn + 1) ([] ++ l ++ [1000]) (by rfl) O3.out Aq nq cq (Rp.all x) (by rfl) hrq (by have := HFN.out; have := HXN.out; omega) hLx9 ?_
    intro v3 x10 ho3 hgA3
    have hbE := hb9.grown hgA3 hb9.size (fun k hk => by have := (O3.out.lt k hk).1; omega)
    have ho4 : x10.ownsRow L 3 1 v3 (0 + fn + 1 + nq) (([] ++ l ++ [1000] ++ Rp.all x).map (Value.int .i64)) := ho3
    obtain ⟨Aw, cw, rfl, hrw⟩ := Row.of_own ho4
    have RW := Lib.hid hrw
    refine hK.out _ _ (by exact ⟨keepcell hbE hx3, keepcell hbE hx2, keepcell hbE hf0, keepcell hbE hg0, keepcell hbE hg1⟩) (fun hHeld => ?_)
    clear hK K ho3 ho4 hgA3 hrq hrw O3 O2
    try dsimp only
    obtain ⟨nw, hnw⟩ : ∃ n, n = 0 + fn + 1 + nq := ⟨_, rfl⟩
    rw [← hnw] at RW ⊢
    clear hnw
    refine wpAnyH_takesJ (i := 16) (v := (.slice Aw nw cw)) (some 11) rfl rfl (by kernel_rfl) (by kernel_rfl) (by kernel_rfl) (fun _ _ _ h => h) (Or.inl ⟨by rfl, (by intro W9 hSw; (try dsimp only at hSw); go_simp; first | done | with_reducible rfl)⟩) (by assumption) ?_
    simp only [Act.put, List.setIfInBounds_toArray]; try simp only [List.set_cons_zero, List.set_cons_succ]
    refine wpAnyH_done (by kernel_rfl) ?_ _
    clear hHeld
    obtain ⟨V7, rfl⟩ : ∃ V, V = x10 := ⟨_, rfl⟩
    have YP7 := Lib.hid (YP6.out.step hbE)
    have MP7 := Lib.hid (MP6.out.below hbE)
    have YX7 := Lib.hid (YX6.out.step hbE)
    have MX7 := Lib.hid (MX6.out.below hbE)
    have Ya7 := Lib.hid (Ya6.out.step hbE)
    have Ma7 := Lib.hid (Ma6.out.below hbE)
    have BW7 := Lib.hid (held_trans BW6.out hbE)
    clear BW6 YP6 MP6 YX6 MX6 Ya6 Ma6 
    obtain ⟨ab, ao, aA, an, ac, haS, _, ha0, haR⟩ := Ma7.out.rowAt HGR.out
    obtain ⟨eb, eo, eA, en, ec, heS, _, he0, he1, heR⟩ := Ma7.out.ringAt HGX.out
    simp only at haS heS
    obtain rfl : 0 = en := heR.len
    have s3 := Ya7.out.c3
    have s2 := Ya7.out.c2
    rw [haS] at s3
    rw [heS] at s2
    have IN := Lib.hid (ints_rowN aA Aw an nw ac cw _ _ V7 rfl haR RW.out)
    have HE := Lib.hid heR
    have HKP := Lib.hid (show ∀ W, Below V7.heap.size V7 W → W.cell? ⟨u5.heap.size, 2, none⟩ = some (.slice (some ⟨eb, eo, none⟩) nr5 cr5) ∧ W.cell? ⟨eb, eo + k * 2, none⟩ = some (.int .i64 0) ∧ W.cell? ⟨eb, eo + k * 2 + 1, none⟩ = some (.slice eA 0 ec) from fun W hW => ⟨keepcell hW s2, keepcell hW he0, keepcell hW he1⟩)
    have HAS := Lib.hid haS
    have HES := Lib.hid heS
    clear haS heS haR heR hx3 hx2 hf0 hg0 hg1 s2 he0 he1 hbE hlq
    go_wp2_with fail
    refine IN.out.mono ?_
    rintro e w8 ⟨rfl, hb8⟩
    have H8 := Lib.hid hb8
    have B8 := Lib.hid (held_trans BW7.out hb8)
    obtain ⟨m2, m4, m5⟩ := HKP.out _ H8.out
    have AL := Lib.hid (all_any 0 eA 0 ec [] w8 (HE.out.below H8.out) (by omega))
    clear IN hb8 s3 ha0
    go_wp2_with fail
    refine AL.out.mono ?_
    rintro e w10 ⟨Ae, ne, ce, rfl, hre, _, hb10⟩
    obtain rfl : 0 = ne := hre.len
    have BF := Lib.hid (held_trans B8.out hb10)
    clear hre hb10 AL m2 m4 m5
    go_wp2_with fail
    go_ret
    exact ⟨rfl, BF.out⟩
set_option maxRecDepth 100000 in
theorem lifted (os : Os) (started : os.Started) (H : Type) (enc : TypeId × Value → H) :
    ReturnsInHanded {} Tryd.checked os 4 .any (fun w args => (Rows.plugRowSpec.pre enc Tryd.prog Tryd.f4 [] false w args ∧ laidMetH Tryd.prog laidList w) ∧ sizedMet enc Tryd.prog Tryd.f4 (OpenSpec.ofChange Rows.plugRowSpec) false w args)
      (Rows.plugRowSpec.post enc Tryd.prog Tryd.f4 false true false false) := by
  refine returnsInHanded_of_change_and (C := Tryd.checked) (X := fun w _ => laidMetH Tryd.prog laidList w) (fun _ _ _ hh h => h.of_heap hh) own started (by kernel_rfl) Tryd.func4
    (ChangeSpec.witness_shaped (enc := enc) (C := Tryd.checked) (os := os) (X := fun w _ => laidMetH Tryd.prog laidList w) false (World.doorLaid Tryd.prog 14 os) #[.agg #[.slice none 0 0, .int .i64 0, .slice none 0 0, .slice none 0 0, .int .u64 0], .int .i64 0] 8 rfl (World.shaped_of_RefB (by kernel_rfl) (by kernel_rfl)) (by kernel_rfl) (by kernel_rfl) (by kernel_rfl) (door_met os _)) ?_
  intro W base args ds gs before hval0 hW _ _ hL _
  have hval : ∀ (j : Nat) t v, Tryd.f4.params[j]? = some t → args[j]? = some v → Value.okWide Tryd.prog W .any base t v := hval0
  have hW' := hW
  obtain ⟨p, q, hA0, hV, rfl, hfz, hnd⟩ := hW
  have hA : DataW.TrodAll enc Tryd.prog W 0 (fun _ => true) true Tryd.f4.params.toList args.toList ds p := hA0
  rw [Tryd.params4] at hA hval
  obtain ⟨v0, vs0, d0, ds0, p0, q0, hargs, rfl, rfl, h0, r0⟩ := trodAll_cons hA
  obtain ⟨v1, vs1, d1, ds1, p1, q1, rfl, rfl, rfl, h1, r1⟩ := trodAll_cons r0
  obtain ⟨rfl, rfl, rfl⟩ := trodAll_nil r1
  obtain rfl : args = #[v0, v1] := by cases args; simp_all
  obtain ⟨rfl, rfl⟩ := trodVars_none hV
  have k0 := h0
  have lt0 : ∀ x ∈ p0, x.block < W.heap.size := by obtain ⟨m, hm⟩ := k0; exact DataW.trod_lt m _ _ _ hm
  obtain ⟨x0, y0, rfl, hr0⟩ := open_runs (hval 0 27 v0 rfl rfl) h0
  obtain ⟨a1, rfl, rfl, rfl, w1⟩ := open_int Tryd.underlying3 (hval 1 3 v1 rfl rfl) h1
  clear hA0 hval0
  refine (walk x0 y0 a1 W hr0 (in64_of_wf w1) (tab_of_laid hL)).mono fun e W' ⟨he, bel⟩ => ?_
  subst he
  exact ⟨_, rfl, _, _, _, [], _, [], hW', trodAll_mk1 (shut_bool Tryd.underlying4 _), (trodAll_cons_mk (Below.trod laidOut (by kernel_rfl) (of_decide_eq_true (by kernel_rfl)) k0 bel lt0) (trodAll_cons_mk (shut_int Tryd.underlying3 w1) trodAll_mk0)), rfl, bel.frame _, fun h => by cases h⟩
theorem over : Rows.PlugRowSaid :=
  OpenClaim.holds_of_wide 4 Tryd.f4 rfl rfl rfl rfl rfl rfl rfl ⟨rfl, rfl, rfl, rfl, rfl⟩ rfl rfl rfl rfl rfl (by kernel_rfl) Tryd.func4 (by kernel_rfl)
    (of_decide_eq_true (by kernel_rfl)) (by unfold Func.isWrapper; first | (rw [if_pos (by decide +kernel)]; kernel_rfl) | (rw [if_neg (by decide +kernel)]; exact ⟨rfl, rfl⟩))
    (fun os started H enc _ => lifted os started H enc)
theorem proved : Rows.PlugRowCardSaid :=
  Claim7.holds_tied_plain_at .later [] [.data] true Rows.plugRowCard.stood.harness false
    over (fun _ h => by cases h) (by kernel_rfl) (fun _ h => by cases h) plugRow_row_tie rfl ⟨rfl, rfl⟩ (by kernel_rfl) rfl
    (fun f fn hf hfn => by
      obtain rfl : f = 4 := Option.some.inj ((show Tryd.prog.funcNamed "catafalque/catafalquelaw20.PlugRow" = some 4 by kernel_rfl).symm.trans hf) |>.symm
      obtain rfl : fn = Tryd.f4 := (Option.some.inj (Tryd.func4.symm.trans hfn)).symm
      exact ⟨by kernel_rfl, fun j t ht => by
        rw [Tryd.params4] at ht
        have hm : t ∈ [27, 3] := by simpa using Array.mem_of_getElem? ht
        have hall : ([27, 3].all fun u => !Tryd.prog.wantsStandIn u) = true := by kernel_rfl
        exact (show Tryd.prog.wantsStandIn t = false by simpa using List.all_eq_true.1 hall t hm)⟩)
    (by kernel_rfl)
end Go.Proofs.YtcoccegmkcdeiaaDoor.plugRow

