/- FindTurns: at the row's turn, if somebody stands there, the row's first is told; at no other tick, as long as somebody stands in the ring: the call answers true and changes nothing that was there; for every input. (Written by wip/gen/gen_ylaws.py: change that.) -/
import Derived.Test.YtinmmcikhjacoaaDoorYShown
import Derived.Test.YtinmmcikhjacoaaDoorM6
import Derived.Test.YtinmmcikhjacoaaDoorJReal
import Derived.Test.YtinmmcikhjacoaaDoorJMade
import Derived.Test.YtinmmcikhjacoaaDoorJFew
import Derived.Test.YtinmmcikhjacoaaDoorM7
import Derived.Test.YtinmmcikhjacoaaDoorM3
import Derived.Test.YtinmmcikhjacoaaDoorM1
namespace Go.Proofs.YtinmmcikhjacoaaDoor.findTurns
open Go.ChangeShapes Go.WideShapes Go.ChangeAt Go.RowKit
set_option linter.unusedVariables false

set_option maxRecDepth 100000 in
set_option maxHeartbeats 4000000 in
theorem walk (d : Ad) (r : Jp.Rn) (p n : Int) (w : World) (h : RMI (fun b => b < w.heap.size) w d r) (hp : In64 p) (hn : (Lit.int .i16 n).wf = true) (hT : Tab w) :
    Calls Tryd.prog 7 #[jv d r, .int .i64 p, .int .i16 n] w fun e w' => e = .returned (.bool true) ∧ Below w.heap.size w w' := by
  have hn' : -32768 ≤ n ∧ n ≤ 32767 := by simpa [Lit.wf, IntKind.min, IntKind.max, IntKind.signed, IntKind.bits] using hn
  obtain ⟨hn1, hn2⟩ := hn'
  clear hn
  have wn : IntKind.i64.wrap n = n := IntWalk.i64_in _ (by omega)
  have wm : IntKind.i64.wrap (61 * n) = 61 * n := IntWalk.i64_in _ (by omega)
  have wq : IntKind.i64.wrap (61 * n + 1) = 61 * n + 1 := IntWalk.i64_in _ (by omega)
  have HIN := Lib.hid h.2
  have HR := Lib.hid h.1
  have HTW := Lib.hid hT
  obtain ⟨A0, nt, ct, R, nr, cr, S, ns, cs⟩ := d
  obtain ⟨V, hV, hX, hB⟩ := B5.start w (.slice A0 nt ct) (.int .i64 r.size) (.slice R nr cr) (.slice S ns cs) (.int .u64 (r.on : Nat)) 27
  have E := Lib.hid hV
  have X0 := Lib.hid hX
  have B0 := Lib.hid hB
  have SH := Lib.hid (yshown_any V (hT.step hB))
  clear h hT hV hX hB
  unfold jv
  go_enter Tryd.func7, Tryd.ntmps7
  go_wp2_with (rw [← E.out])
  clear E
  refine SH.out.mono ?_
  rintro e w1 ⟨rfl, hb1⟩
  have X1 := Lib.hid (X0.out.step hb1)
  have B1 := Lib.hid (held_trans B0.out hb1)
  have p0 := X1.out.c0
  have p1 := X1.out.c1
  have p2 := X1.out.c2
  have p3 := X1.out.c3
  have p4 := X1.out.c4
  have hFW := fun T HT => few_any ⟨A0, nt, ct, R, nr, cr, S, ns, cs⟩ r T w1 HT (HR.out.below B1.out) HIN.out
  unfold jv at hFW
  simp only at hFW
  have FW := Lib.hid hFW
  clear hb1 SH X0 B0 hFW
  go_wp2_with fail
  by_cases hfew : ¬ FewP r
  · refine (FW.out false (Lib.hid (by simp [hfew]))).mono ?_
    rintro e w2 ⟨rfl, hb2⟩
    have BE := Lib.hid (held_trans B1.out hb2)
    go_wp2_with fail
    go_ret
    exact ⟨rfl, BE.out⟩
  have hfew := Classical.not_not.1 hfew
  have HFEW := Lib.hid hfew
  refine (FW.out true (Lib.hid (by simp [hfew]))).mono ?_
  rintro e w2a ⟨rfl, hb2⟩
  have X2a := Lib.hid (X1.out.step hb2)
  have B2a := Lib.hid (held_trans B1.out hb2)
  have p0 := X2a.out.c0
  have p1 := X2a.out.c1
  have p2 := X2a.out.c2
  have p3 := X2a.out.c3
  have p4 := X2a.out.c4
  obtain ⟨Tb, hTb⟩ : ∃ Tb : Bool, (Tb = true ↔ Jp.May r) := by
    by_cases h : Jp.May r
    · exact ⟨true, by simp [h]⟩
    · exact ⟨false, by simp [h]⟩
  have HTB := Lib.hid hTb
  have hMY := jrefMay_any ⟨A0, nt, ct, R, nr, cr, S, ns, cs⟩ r Tb w2a HTB (HR.out.below B2a.out) HFEW.out.low
  unfold jv at hMY
  simp only at hMY
  have MY := Lib.hid hMY
  clear hb2 FW X1 B1 hfew hMY hTb
  go_wp2_with fail
  refine MY.out.mono ?_
  rintro e w2b ⟨rfl, hb2⟩
  have X2b := Lib.hid (X2a.out.step hb2)
  have B2b := Lib.hid (held_trans B2a.out hb2)
  have p0 := X2b.out.c0
  have p1 := X2b.out.c1
  have p2 := X2b.out.c2
  have p3 := X2b.out.c3
  have p4 := X2b.out.c4
  clear hb2 MY X2a B2a
  cases Tb
  · have BE := B2b
    go_wp2_with fail
    go_ret
    exact ⟨rfl, BE.out⟩
  have HMAY := Lib.hid (HTB.out.1 rfl)
  have hMY := jrefOn_any ⟨A0, nt, ct, R, nr, cr, S, ns, cs⟩ r p w2b HR.out.on
  unfold jv at hMY
  simp only at hMY
  have MY := Lib.hid hMY
  clear hMY HTB
  go_wp2_with fail
  refine MY.out.mono ?_
  rintro e w2 ⟨rfl, hb2⟩
  have X2 := Lib.hid (X2b.out.step hb2)
  have B2 := Lib.hid (held_trans B2b.out hb2)
  have p0 := X2.out.c0
  have p1 := X2.out.c1
  have p2 := X2.out.c2
  have p3 := X2.out.c3
  have p4 := X2.out.c4
  clear hb2 MY X2b B2b
  obtain ⟨Ob, hOb⟩ : ∃ Ob, Ob = Jp.onP r p := ⟨_, rfl⟩
  rw [← hOb]
  have HON := Lib.hid hOb
  clear hOb
  cases Ob
  · have BE := B2
    go_wp2_with fail
    go_ret
    exact ⟨rfl, BE.out⟩
  have hMD := jmade_any ⟨A0, nt, ct, R, nr, cr, S, ns, cs⟩ r w2 (HR.out.below B2.out) (fun b hb => Nat.lt_of_lt_of_le hb B2.out.size) HFEW.out.low
  unfold jv at hMD
  simp only at hMD
  have MD := Lib.hid hMD
  clear hMD
  go_wp2_with fail
  refine MD.out.mono ?_
  rintro e w3 ⟨⟨A1, nt1, ct1, R1, nr1, cr1, S1, ns1, cs1⟩, rfl, hm3, hb3⟩
  unfold jv
  simp only
  have hbn := below_new w3 (.cells #[.slice A1 nt1 ct1, .int .i64 r.size, .slice R1 nr1 cr1, .slice S1 ns1 cs1, .int .u64 (r.on : Nat)] 33)
  have hY := B5.new w3 (.slice A1 nt1 ct1) (.int .i64 r.size) (.slice R1 nr1 cr1) (.slice S1 ns1 cs1) (.int .u64 (r.on : Nat)) 33
  obtain ⟨V4, hV4⟩ : ∃ V4, V4 = w3.alloc (.cells #[.slice A1 nt1 ct1, .int .i64 r.size, .slice R1 nr1 cr1, .slice S1 ns1 cs1, .int .u64 (r.on : Nat)] 33) := ⟨_, rfl⟩
  rw [← hV4] at hbn hY
  have E4 := Lib.hid hV4
  have B4 := Lib.hid (held_trans (held_trans B2.out hb3) hbn)
  have P4 := Lib.hid ((X2.out.step hb3).step hbn)
  have Y4 := Lib.hid hY
  have M4 := Lib.hid (show RM (fun b => b < w3.heap.size) V4 ⟨A1, nt1, ct1, R1, nr1, cr1, S1, ns1, cs1⟩ r from (hm3.bound.mono (fun b hb => hb.2)).below hbn)
  have HX4 := Lib.hid (show w3.heap.size < V4.heap.size from hY.lt)
  have HWX := Lib.hid (show w.heap.size ≤ w3.heap.size from (held_trans B2.out hb3).size)
  clear hm3 hb3 hbn hY hV4 MD X2 B2 p0 p1 p2 p3 p4
  have YX4 := Y4
  have MX4 := M4
  have BW4 := B4
  have HLW := Lib.hid HFEW.out.low
  clear P4 Y4 M4 B4
  obtain ⟨k, hpk, hk⟩ := Jp.onP_lt HMAY.out HON.out.symm
  subst hpk
  have HK := Lib.hid hk
  obtain ⟨m, hnd, hmn⟩ := Jp.node_at HMAY.out.tree (show k < (Dp.procs r.tree).length from by rw [← HMAY.out.rings]; exact hk)
  rw [← HMAY.out.rows] at hmn
  have HMN := Lib.hid hmn
  have HND := Lib.hid hnd
  have HNO := Lib.hid (show Jp.nodeOf r k = m by unfold Jp.nodeOf; rw [hnd]; rfl)
  clear hk hmn hnd
  have HTU := Lib.hid (Jp.turns HMAY.out HON.out.symm n)
  obtain ⟨lo, hlo⟩ : ∃ lo, lo = Jp.loc r k (61 * n) := ⟨_, rfl⟩
  obtain ⟨lh, hlh⟩ : ∃ lh, lh = Jp.loc r k (61 * n + 1) := ⟨_, rfl⟩
  rw [← hlo, ← hlh] at HTU
  have HLO := Lib.hid hlo
  have HLH := Lib.hid hlh
  clear hlo hlh HON
  have hcc := node_any A1 nt1 ct1 r.tree k V4 (Lib.hid MX4.out.tlen) MX4.out.tmax (Lib.hid MX4.out.fit) MX4.out.tree
  rw [HND.out] at hcc
  have C5 := Lib.hid hcc
  clear hcc
  have t0 := YX4.out.c0
  have t1 := YX4.out.c1
  have t2 := YX4.out.c2
  have t3 := YX4.out.c3
  have t4 := YX4.out.c4
  go_wp2_with (rw [← E4.out])
  clear E4
  refine C5.out.mono ?_
  rintro e V5 ⟨rfl, hb⟩
  have YX5 := Lib.hid (YX4.out.step hb)
  have MX5 := Lib.hid (MX4.out.below hb)
  have BW5 := Lib.hid (held_trans BW4.out hb)
  clear BW4 YX4 MX4 
  clear hb C5 t0 t1 t2 t3 t4
  have hns := MX5.out.ns
  simp only at hns
  have hm1 : ¬ (m : Int) < 0 := by omega
  have hm2 : ¬ (ns1 : Int) ≤ (m : Int) := by have := HMN.out; omega
  clear hns
  have hcc := findLocal_any ⟨A1, nt1, ct1, R1, nr1, cr1, S1, ns1, cs1⟩ r k (61 * n) V5 MX5.out (fun b hb => Nat.lt_trans hb YX5.out.lt) HLW.out hp (by unfold In64; omega) (HTW.out.step BW5.out)
  rw [← HLO.out] at hcc
  unfold jv at hcc
  simp only at hcc
  have C6 := Lib.hid hcc
  clear hcc
  have t0 := YX5.out.c0
  have t1 := YX5.out.c1
  have t2 := YX5.out.c2
  have t3 := YX5.out.c3
  have t4 := YX5.out.c4
  go_wp2_with fail
  refine C6.out.mono ?_
  rintro e u6 ⟨⟨T6, nt6, ct6, R6, nr6, cr6, S6, ns6, cs6⟩, rfl, hm, hb⟩
  unfold jv
  simp only
  have hbn := below_new u6 (.cells #[.slice T6 nt6 ct6, .int .i64 lo.1.size, .slice R6 nr6 cr6, .slice S6 ns6 cs6, .int .u64 (lo.1.on : Nat)] 33)
  have hY := B5.new u6 (.slice T6 nt6 ct6) (.int .i64 lo.1.size) (.slice R6 nr6 cr6) (.slice S6 ns6 cs6) (.int .u64 (lo.1.on : Nat)) 33
  obtain ⟨V6, hV⟩ : ∃ V6, V6 = u6.alloc (.cells #[.slice T6 nt6 ct6, .int .i64 lo.1.size, .slice R6 nr6 cr6, .slice S6 ns6 cs6, .int .u64 (lo.1.on : Nat)] 33) := ⟨_, rfl⟩
  rw [← hV] at hbn hY
  have E6 := Lib.hid hV
  have hbj := hb.trans (hbn.mono hb.size)
  have YX6 := Lib.hid (YX5.out.step hbj)
  have MX6 := Lib.hid (MX5.out.below hbj)
  have BW6 := Lib.hid (held_trans BW5.out hbj)
  clear BW5 YX5 MX5 
  have Ya6 := Lib.hid hY
  have Ma6 := Lib.hid ((hm.bound.mono (G := fun b => b < u6.heap.size) (fun b hb => hb.2)).below hbn)
  clear hV hY hbn hm hb hbj C6 t0 t1 t2 t3 t4
  have hcc := findLocal_any ⟨A1, nt1, ct1, R1, nr1, cr1, S1, ns1, cs1⟩ r k (61 * n + 1) V6 MX6.out (fun b hb => Nat.lt_trans hb YX6.out.lt) HLW.out hp (by unfold In64; omega) (HTW.out.step BW6.out)
  rw [← HLH.out] at hcc
  unfold jv at hcc
  simp only at hcc
  have C7 := Lib.hid hcc
  clear hcc
  have t0 := YX6.out.c0
  have t1 := YX6.out.c1
  have t2 := YX6.out.c2
  have t3 := YX6.out.c3
  have t4 := YX6.out.c4
  go_wp2_with (rw [← E6.out])
  clear E6
  refine C7.out.mono ?_
  rintro e u7 ⟨⟨T7, nt7, ct7, R7, nr7, cr7, S7, ns7, cs7⟩, rfl, hm, hb⟩
  unfold jv
  simp only
  have hbn := below_new u7 (.cells #[.slice T7 nt7 ct7, .int .i64 lh.1.size, .slice R7 nr7 cr7, .slice S7 ns7 cs7, .int .u64 (lh.1.on : Nat)] 33)
  have hY := B5.new u7 (.slice T7 nt7 ct7) (.int .i64 lh.1.size) (.slice R7 nr7 cr7) (.slice S7 ns7 cs7) (.int .u64 (lh.1.on : Nat)) 33
  obtain ⟨V7, hV⟩ : ∃ V7, V7 = u7.alloc (.cells #[.slice T7 nt7 ct7, .int .i64 lh.1.size, .slice R7 nr7 cr7, .slice S7 ns7 cs7, .int .u64 (lh.1.on : Nat)] 33) := ⟨_, rfl⟩
  rw [← hV] at hbn hY
  have E7 := Lib.hid hV
  have hbj := hb.trans (hbn.mono hb.size)
  have YX7 := Lib.hid (YX6.out.step hbj)
  have MX7 := Lib.hid (MX6.out.below hbj)
  have Ya7 := Lib.hid (Ya6.out.step hbj)
  have Ma7 := Lib.hid (Ma6.out.below hbj)
  have BW7 := Lib.hid (held_trans BW6.out hbj)
  clear BW6 YX6 MX6 Ya6 Ma6 
  have Yb7 := Lib.hid hY
  have Mb7 := Lib.hid ((hm.bound.mono (G := fun b => b < u7.heap.size) (fun b hb => hb.2)).below hbn)
  clear hV hY hbn hm hb hbj C7 t0 t1 t2 t3 t4
  obtain ⟨row, hrow⟩ : ∃ l, r.rows[m]? = some l := ⟨_, List.getElem?_eq_getElem HMN.out⟩
  obtain ⟨⟨x, t⟩, hrg⟩ : ∃ y, r.rings[k]? = some y := ⟨_, List.getElem?_eq_getElem HK.out⟩
  obtain ⟨sb, so, As, na, ca, eS, hsb, hsc, hsr⟩ := MX7.out.rowAt hrow
  obtain ⟨rb, ro, Aw, nw, cw, eR, hrb, hr0, hr1, hrr⟩ := MX7.out.ringAt hrg
  have hns := MX7.out.ns
  have hnr := MX7.out.nr
  simp only at eS eR hns hnr hrr
  have hl3 : (m : Int) < (ns1 : Int) := by have := HMN.out; omega
  have hl4 : (k : Int) < (nr1 : Int) := by have := HK.out; omega
  have hl5 : (0 : Int) ≤ (m : Int) := by omega
  have hl6 : (0 : Int) ≤ (k : Int) := by omega
  have HRW := Lib.hid (show Jp.rowAt r (Jp.nodeOf r k) = row by rw [HNO.out]; exact Jp.rowAt_some hrow)
  have HRG := Lib.hid (show Jp.ringAt r k = (x, t) from Jp.ringAt_some hrg)
  have hnw : nw ≤ 400 := by rw [← hrr.len]; exact HLW.out.ring (x, t) (List.mem_of_getElem? hrg)
  have HSR := Lib.hid hsr
  have AL := Lib.hid (all_any x Aw nw cw t V7 hrr (by omega))
  subst eS eR
  clear hrow hrg hsb hrb hns hnr hsr hrr
  have t0 := YX7.out.c0
  have t1 := YX7.out.c1
  have t2 := YX7.out.c2
  have t3 := YX7.out.c3
  have t4 := YX7.out.c4
  go_wp2_with (rw [← E7.out])
  clear E7
  refine AL.out.mono ?_
  rintro e V8 ⟨Ao, no, co, rfl, hro, _, hb⟩
  have HSR2 := Lib.hid (HSR.out.below hb)
  have HRO := Lib.hid hro
  have YX8 := Lib.hid (YX7.out.step hb)
  have MX8 := Lib.hid (MX7.out.below hb)
  have Ya8 := Lib.hid (Ya7.out.step hb)
  have Ma8 := Lib.hid (Ma7.out.below hb)
  have Yb8 := Lib.hid (Yb7.out.step hb)
  have Mb8 := Lib.hid (Mb7.out.below hb)
  have BW8 := Lib.hid (held_trans BW7.out hb)
  clear BW7 YX7 MX7 Ya7 Ma7 Yb7 Mb7 
  have hlo := hro.len
  have hlr := HSR.out.len
  clear hb AL hro HSR t0 t1 t2 t3 t4 hsc hr0 hr1
  cases row with
  | nil =>
    skip
    obtain rfl : na = 0 := by rw [← hlr]; rfl
    obtain ⟨e1, e2⟩ := HTU.out.norow HRW.out
    have q3 : (lo.2.1 != lh.2.1) = false := by rw [e1]; simp
    cases hown : Rp.all (x, t) with
    | nil =>
      skip
      obtain rfl : no = 0 := by rw [← hlo, hown]; rfl
      obtain ⟨e3, e4⟩ := HTU.out.noown (by rw [HRG.out, hown])
      have q6 : (lo.2.1 == lh.2.1) = true := by rw [e3]; simp
      have q7 : (lo.2.2 == lh.2.2) = true := by rw [e4]; simp
      clear e1 e2 e3 e4 hlr hlo
      go_wp2_with fail
      go_ret
      exact ⟨rfl, BW8.out⟩
    | cons y0 v0 =>
      skip
      rw [hown] at hlo
      obtain ⟨ob, oo, eO, _, hoc⟩ := HRO.out.cells (by rw [← hlo]; simp)
      have oc := hoc 0 y0 (by rw [hown]; rfl)
      rw [Nat.add_zero] at oc
      subst eO
      obtain ⟨e3, e4⟩ := HTU.out.own y0 v0 (by rw [HRG.out, hown])
      have q4 : (lh.2.1 == y0) = true := by rw [e3]; simp
      have q5 : (lh.2.2 != 3) = true := by rw [bne_iff_ne]; exact e4
      have no1 : (0 : Int) < (no : Int) := by have h9 := hlo; rw [List.length_cons] at h9; omega
      have no2 : ((no : Int) == 0) = false := by rw [beq_eq_false_iff_ne]; omega
      have no3 : 0 < no := by omega
      clear hoc
      clear e1 e2 e3 e4 hlr hlo
      go_wp2_with fail
      go_ret
      exact ⟨rfl, BW8.out⟩
  | cons x0 s0 =>
    skip
    obtain ⟨ab, ao, eA, _, hac⟩ := HSR2.out.cells (by rw [← hlr]; simp)
    have ac := hac 0 x0 rfl
    rw [Nat.add_zero] at ac
    subst eA
    obtain ⟨e1, e2⟩ := HTU.out.row x0 s0 HRW.out
    have q1 : (lo.2.1 != x0) = false := by rw [e1]; simp
    have q2 : (lo.2.2 != 3) = false := by rw [e2]; rfl
    have na1 : (0 : Int) < (na : Int) := by have h9 := hlr; rw [List.length_cons] at h9; omega
    have na2 : ((na : Int) == 0) = false := by rw [beq_eq_false_iff_ne]; omega
    have na3 : 0 < na := by omega
    clear hac
    cases hown : Rp.all (x, t) with
    | nil =>
      skip
      obtain rfl : no = 0 := by rw [← hlo, hown]; rfl
      obtain ⟨e3, e4⟩ := HTU.out.noown (by rw [HRG.out, hown])
      have q6 : (lo.2.1 == lh.2.1) = true := by rw [e3]; simp
      have q7 : (lo.2.2 == lh.2.2) = true := by rw [e4]; simp
      clear e1 e2 e3 e4 hlr hlo
      go_wp2_with fail
      go_ret
      exact ⟨rfl, BW8.out⟩
    | cons y0 v0 =>
      skip
      rw [hown] at hlo
      obtain ⟨ob, oo, eO, _, hoc⟩ := HRO.out.cells (by rw [← hlo]; simp)
      have oc := hoc 0 y0 (by rw [hown]; rfl)
      rw [Nat.add_zero] at oc
      subst eO
      obtain ⟨e3, e4⟩ := HTU.out.own y0 v0 (by rw [HRG.out, hown])
      have q4 : (lh.2.1 == y0) = true := by rw [e3]; simp
      have q5 : (lh.2.2 != 3) = true := by rw [bne_iff_ne]; exact e4
      have no1 : (0 : Int) < (no : Int) := by have h9 := hlo; rw [List.length_cons] at h9; omega
      have no2 : ((no : Int) == 0) = false := by rw [beq_eq_false_iff_ne]; omega
      have no3 : 0 < no := by omega
      clear hoc
      clear e1 e2 e3 e4 hlr hlo
      go_wp2_with fail
      go_ret
      exact ⟨rfl, BW8.out⟩
set_option maxRecDepth 100000 in
theorem lifted (os : Os) (started : os.Started) (H : Type) (enc : TypeId × Value → H) :
    ReturnsInHanded {} Tryd.checked os 7 .any (fun w args => (Rows.findTurnsSpec.pre enc Tryd.prog Tryd.f7 [] false w args ∧ laidMetH Tryd.prog laidList w) ∧ sizedMet enc Tryd.prog Tryd.f7 (OpenSpec.ofChange Rows.findTurnsSpec) false w args)
      (Rows.findTurnsSpec.post enc Tryd.prog Tryd.f7 false true false false) := by
  refine returnsInHanded_of_change_and (C := Tryd.checked) (X := fun w _ => laidMetH Tryd.prog laidList w) (fun _ _ _ hh h => h.of_heap hh) own started (by kernel_rfl) Tryd.func7
    (ChangeSpec.witness_shaped (enc := enc) (C := Tryd.checked) (os := os) (X := fun w _ => laidMetH Tryd.prog laidList w) false (World.doorLaid Tryd.prog 14 os) #[.agg #[.slice none 0 0, .int .i64 0, .slice none 0 0, .slice none 0 0, .int .u64 0], .int .i64 0, .int .i16 0] 8 rfl (World.shaped_of_RefB (by kernel_rfl) (by kernel_rfl)) (by kernel_rfl) (by kernel_rfl) (by kernel_rfl) (door_met os _)) ?_
  intro W base args ds gs before hval0 hW _ _ hL _
  have hval : ∀ (j : Nat) t v, Tryd.f7.params[j]? = some t → args[j]? = some v → Value.okWide Tryd.prog W .any base t v := hval0
  have hW' := hW
  obtain ⟨p, q, hA0, hV, rfl, hfz, hnd⟩ := hW
  have hA : DataW.TrodAll enc Tryd.prog W 0 (fun _ => true) true Tryd.f7.params.toList args.toList ds p := hA0
  rw [Tryd.params7] at hA hval
  obtain ⟨v0, vs0, d0, ds0, p0, q0, hargs, rfl, rfl, h0, r0⟩ := trodAll_cons hA
  obtain ⟨v1, vs1, d1, ds1, p1, q1, rfl, rfl, rfl, h1, r1⟩ := trodAll_cons r0
  obtain ⟨v2, vs2, d2, ds2, p2, q2, rfl, rfl, rfl, h2, r2⟩ := trodAll_cons r1
  obtain ⟨rfl, rfl, rfl⟩ := trodAll_nil r2
  obtain rfl : args = #[v0, v1, v2] := by cases args; simp_all
  obtain ⟨rfl, rfl⟩ := trodVars_none hV
  have k0 := h0
  have lt0 : ∀ x ∈ p0, x.block < W.heap.size := by obtain ⟨m, hm⟩ := k0; exact DataW.trod_lt m _ _ _ hm
  obtain ⟨x0, y0, rfl, hr0⟩ := open_runs (hval 0 27 v0 rfl rfl) h0
  obtain ⟨a1, rfl, rfl, rfl, w1⟩ := open_int Tryd.underlying3 (hval 1 3 v1 rfl rfl) h1
  obtain ⟨a2, rfl, rfl, rfl, w2⟩ := open_int Tryd.underlying54 (hval 2 54 v2 rfl rfl) h2
  clear hA0 hval0
  refine (walk x0 y0 a1 a2 W hr0 (in64_of_wf w1) w2 (tab_of_laid hL)).mono fun e W' ⟨he, bel⟩ => ?_
  subst he
  exact ⟨_, rfl, _, _, _, [], _, [], hW', trodAll_mk1 (shut_bool Tryd.underlying4 _), (trodAll_cons_mk (Below.trod laidOut (by kernel_rfl) (of_decide_eq_true (by kernel_rfl)) k0 bel lt0) (trodAll_cons_mk (shut_int Tryd.underlying3 w1) (trodAll_cons_mk (shut_int Tryd.underlying54 w2) trodAll_mk0))), rfl, bel.frame _, fun h => by cases h⟩
theorem over : Rows.FindTurnsSaid :=
  OpenClaim.holds_of_wide 7 Tryd.f7 rfl rfl rfl rfl rfl rfl rfl ⟨rfl, rfl, rfl, rfl, rfl⟩ rfl rfl rfl rfl rfl (by kernel_rfl) Tryd.func7 (by kernel_rfl)
    (of_decide_eq_true (by kernel_rfl)) (by unfold Func.isWrapper; first | (rw [if_pos (by decide +kernel)]; kernel_rfl) | (rw [if_neg (by decide +kernel)]; exact ⟨rfl, rfl⟩))
    (fun os started H enc _ => lifted os started H enc)
theorem proved : Rows.FindTurnsCardSaid :=
  Claim7.holds_tied_plain_at .later [] [.data] true Rows.findTurnsCard.stood.harness false
    over (fun _ h => by cases h) (by kernel_rfl) (fun _ h => by cases h) findTurns_row_tie rfl ⟨rfl, rfl⟩ (by kernel_rfl) rfl
    (fun f fn hf hfn => by
      obtain rfl : f = 7 := Option.some.inj ((show Tryd.prog.funcNamed "catafalque/catafalquelaw16.FindTurns" = some 7 by kernel_rfl).symm.trans hf) |>.symm
      obtain rfl : fn = Tryd.f7 := (Option.some.inj (Tryd.func7.symm.trans hfn)).symm
      exact ⟨by kernel_rfl, fun j t ht => by
        rw [Tryd.params7] at ht
        have hm : t ∈ [27, 3, 54] := by simpa using Array.mem_of_getElem? ht
        have hall : ([27, 3, 54].all fun u => !Tryd.prog.wantsStandIn u) = true := by kernel_rfl
        exact (show Tryd.prog.wantsStandIn t = false by simpa using List.all_eq_true.1 hall t hm)⟩)
    (by kernel_rfl)
end Go.Proofs.YtinmmcikhjacoaaDoor.findTurns

