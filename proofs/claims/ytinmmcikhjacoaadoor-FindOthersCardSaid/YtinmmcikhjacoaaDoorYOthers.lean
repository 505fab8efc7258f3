/- FindOthers: what is found on one processor leaves all other rings, and the rows of other nodes, as they were: the call answers true and changes nothing that was there; for every input. (Written by wip/gen/gen_ylaws.py: change that.) -/
import Derived.Test.YtinmmcikhjacoaaDoorYShown
import Derived.Test.YtinmmcikhjacoaaDoorM6
import Derived.Test.YtinmmcikhjacoaaDoorJReal
import Derived.Test.YtinmmcikhjacoaaDoorJMade
import Derived.Test.YtinmmcikhjacoaaDoorJFew
import Derived.Test.YtinmmcikhjacoaaDoorM7
import Derived.Test.YtinmmcikhjacoaaDoorM3
import Derived.Test.YtinmmcikhjacoaaDoorM1
namespace Go.Proofs.YtinmmcikhjacoaaDoor.findOthers
open Go.ChangeShapes Go.WideShapes Go.ChangeAt Go.RowKit
set_option linter.unusedVariables false

theorem ints_row (A B : Option Addr) (n m c d : Nat) (zs ys : List Int) (w : World) (he : zs = ys) (h : Row w A n c zs) (hb : Row w B m d ys) :
    Calls Tryd.prog 24 #[.slice A n c, .slice B m d] w fun e w' => e = .returned (.bool true) ∧ Below w.heap.size w w' := by
  subst he
  obtain rfl : n = m := h.len.symm.trans hb.len
  exact ints_same A B n c d zs w (Lib.hid h.len) (by have := h.cap; have := h.most; omega) h.row hb.row
set_option maxRecDepth 100000 in
set_option maxHeartbeats 4000000 in
theorem walk (d : Ad) (r : Jp.Rn) (p tick : Int) (w : World) (h : RMI (fun b => b < w.heap.size) w d r) (hp : In64 p) (ht : In64 tick) (hT : Tab w) :
    Calls Tryd.prog 6 #[jv d r, .int .i64 p, .int .i64 tick] w fun e w' => e = .returned (.bool true) ∧ Below w.heap.size w w' := by
  have HIN := Lib.hid h.2
  have HR := Lib.hid h.1
  have HTW := Lib.hid hT
  obtain ⟨A0, nt, ct, R, nr, cr, S, ns, cs⟩ := d
  obtain ⟨V, hV, hX, hB⟩ := B5.start w (.slice A0 nt ct) (.int .i64 r.size) (.slice R nr cr) (.slice S ns cs) (.int .u64 (r.on : Nat)) 27
  have E := Lib.hid hV
  have X0 := Lib.hid hX
  have B0 := Lib.hid hB
  have SH := Lib.hid (yshown_any V (hT.step hB))
  clear h hT hV hX hB
  unfold jv
  go_enter Tryd.func6, Tryd.ntmps6
  go_wp2_with (rw [← E.out])
  clear E
  refine SH.out.mono ?_
  rintro e w1 ⟨rfl, hb1⟩
  have X1 := Lib.hid (X0.out.step hb1)
  have B1 := Lib.hid (held_trans B0.out hb1)
  have p0 := X1.out.c0
  have p1 := X1.out.c1
  have p2 := X1.out.c2
  have p3 := X1.out.c3
  have p4 := X1.out.c4
  have hFW := fun T HT => few_any ⟨A0, nt, ct, R, nr, cr, S, ns, cs⟩ r T w1 HT (HR.out.below B1.out) HIN.out
  unfold jv at hFW
  simp only at hFW
  have FW := Lib.hid hFW
  clear hb1 SH X0 B0 hFW
  go_wp2_with fail
  by_cases hfew : ¬ FewP r
  · refine (FW.out false (Lib.hid (by simp [hfew]))).mono ?_
    rintro e w2 ⟨rfl, hb2⟩
    have BE := Lib.hid (held_trans B1.out hb2)
    go_wp2_with fail
    go_ret
    exact ⟨rfl, BE.out⟩
  have hfew := Classical.not_not.1 hfew
  have HFEW := Lib.hid hfew
  refine (FW.out true (Lib.hid (by simp [hfew]))).mono ?_
  rintro e w2a ⟨rfl, hb2⟩
  have X2a := Lib.hid (X1.out.step hb2)
  have B2a := Lib.hid (held_trans B1.out hb2)
  have p0 := X2a.out.c0
  have p1 := X2a.out.c1
  have p2 := X2a.out.c2
  have p3 := X2a.out.c3
  have p4 := X2a.out.c4
  obtain ⟨Tb, hTb⟩ : ∃ Tb : Bool, (Tb = true ↔ Jp.May r) := by
    by_cases h : Jp.May r
    · exact ⟨true, by simp [h]⟩
    · exact ⟨false, by simp [h]⟩
  have HTB := Lib.hid hTb
  have hMY := jrefMay_any ⟨A0, nt, ct, R, nr, cr, S, ns, cs⟩ r Tb w2a HTB (HR.out.below B2a.out) HFEW.out.low
  unfold jv at hMY
  simp only at hMY
  have MY := Lib.hid hMY
  clear hb2 FW X1 B1 hfew hMY hTb
  go_wp2_with fail
  refine MY.out.mono ?_
  rintro e w2b ⟨rfl, hb2⟩
  have X2b := Lib.hid (X2a.out.step hb2)
  have B2b := Lib.hid (held_trans B2a.out hb2)
  have p0 := X2b.out.c0
  have p1 := X2b.out.c1
  have p2 := X2b.out.c2
  have p3 := X2b.out.c3
  have p4 := X2b.out.c4
  clear hb2 MY X2a B2a
  cases Tb
  · have BE := B2b
    go_wp2_with fail
    go_ret
    exact ⟨rfl, BE.out⟩
  have HMAY := Lib.hid (HTB.out.1 rfl)
  have hMY := jrefOn_any ⟨A0, nt, ct, R, nr, cr, S, ns, cs⟩ r p w2b HR.out.on
  unfold jv at hMY
  simp only at hMY
  have MY := Lib.hid hMY
  clear hMY HTB
  go_wp2_with fail
  refine MY.out.mono ?_
  rintro e w2 ⟨rfl, hb2⟩
  have X2 := Lib.hid (X2b.out.step hb2)
  have B2 := Lib.hid (held_trans B2b.out hb2)
  have p0 := X2.out.c0
  have p1 := X2.out.c1
  have p2 := X2.out.c2
  have p3 := X2.out.c3
  have p4 := X2.out.c4
  clear hb2 MY X2b B2b
  obtain ⟨Ob, hOb⟩ : ∃ Ob, Ob = Jp.onP r p := ⟨_, rfl⟩
  rw [← hOb]
  have HON := Lib.hid hOb
  clear hOb
  cases Ob
  · have BE := B2
    go_wp2_with fail
    go_ret
    exact ⟨rfl, BE.out⟩
  have hMD := jmade_any ⟨A0, nt, ct, R, nr, cr, S, ns, cs⟩ r w2 (HR.out.below B2.out) (fun b hb => Nat.lt_of_lt_of_le hb B2.out.size) HFEW.out.low
  unfold jv at hMD
  simp only at hMD
  have MD := Lib.hid hMD
  clear hMD
  go_wp2_with fail
  refine MD.out.mono ?_
  rintro e w3 ⟨⟨A1, nt1, ct1, R1, nr1, cr1, S1, ns1, cs1⟩, rfl, hm3, hb3⟩
  unfold jv
  simp only
  have hbn := below_new w3 (.cells #[.slice A1 nt1 ct1, .int .i64 r.size, .slice R1 nr1 cr1, .slice S1 ns1 cs1, .int .u64 (r.on : Nat)] 33)
  have hY := B5.new w3 (.slice A1 nt1 ct1) (.int .i64 r.size) (.slice R1 nr1 cr1) (.slice S1 ns1 cs1) (.int .u64 (r.on : Nat)) 33
  obtain ⟨V4, hV4⟩ : ∃ V4, V4 = w3.alloc (.cells #[.slice A1 nt1 ct1, .int .i64 r.size, .slice R1 nr1 cr1, .slice S1 ns1 cs1, .int .u64 (r.on : Nat)] 33) := ⟨_, rfl⟩
  rw [← hV4] at hbn hY
  have E4 := Lib.hid hV4
  have B4 := Lib.hid (held_trans (held_trans B2.out hb3) hbn)
  have P4 := Lib.hid ((X2.out.step hb3).step hbn)
  have Y4 := Lib.hid hY
  have M4 := Lib.hid (show RM (fun b => b < w3.heap.size) V4 ⟨A1, nt1, ct1, R1, nr1, cr1, S1, ns1, cs1⟩ r from (hm3.bound.mono (fun b hb => hb.2)).below hbn)
  have HX4 := Lib.hid (show w3.heap.size < V4.heap.size from hY.lt)
  have HWX := Lib.hid (show w.heap.size ≤ w3.heap.size from (held_trans B2.out hb3).size)
  clear hm3 hb3 hbn hY hV4 MD X2 B2 p0 p1 p2 p3 p4
  have YX4 := Y4
  have MX4 := M4
  have BW4 := B4
  have HLW := Lib.hid HFEW.out.low
  clear P4 Y4 M4 B4
  obtain ⟨k, hpk, hk⟩ := Jp.onP_lt HMAY.out HON.out.symm
  subst hpk
  have HK := Lib.hid hk
  obtain ⟨m, hnd, hmn⟩ := Jp.node_at HMAY.out.tree (show k < (Dp.procs r.tree).length from by rw [← HMAY.out.rings]; exact hk)
  rw [← HMAY.out.rows] at hmn
  have HMN := Lib.hid hmn
  have HND := Lib.hid hnd
  have HNO := Lib.hid (show Jp.nodeOf r k = m by unfold Jp.nodeOf; rw [hnd]; rfl)
  clear hk hmn hnd
  have HOT := Lib.hid (Jp.others HMAY.out HON.out.symm HK.out HNO.out tick)
  obtain ⟨lo, hlo⟩ : ∃ lo, lo = Jp.loc r k tick := ⟨_, rfl⟩
  rw [← hlo] at HOT
  have HLO := Lib.hid hlo
  have HLA := Lib.hid (show Low lo.1 from by rw [hlo]; exact low_loc HLW.out k tick)
  clear hlo HON
  have hcc := node_any A1 nt1 ct1 r.tree k V4 (Lib.hid MX4.out.tlen) MX4.out.tmax (Lib.hid MX4.out.fit) MX4.out.tree
  rw [HND.out] at hcc
  have C5 := Lib.hid hcc
  clear hcc
  have t0 := YX4.out.c0
  have t1 := YX4.out.c1
  have t2 := YX4.out.c2
  have t3 := YX4.out.c3
  have t4 := YX4.out.c4
  go_wp2_with (rw [← E4.out])
  clear E4
  refine C5.out.mono ?_
  rintro e V5 ⟨rfl, hb⟩
  have YX5 := Lib.hid (YX4.out.step hb)
  have MX5 := Lib.hid (MX4.out.below hb)
  have BW5 := Lib.hid (held_trans BW4.out hb)
  clear BW4 YX4 MX4 
  clear hb C5 t0 t1 t2 t3 t4
  have hcc := findLocal_any ⟨A1, nt1, ct1, R1, nr1, cr1, S1, ns1, cs1⟩ r k (tick) V5 MX5.out (fun b hb => Nat.lt_trans hb YX5.out.lt) HLW.out hp ht (HTW.out.step BW5.out)
  rw [← HLO.out] at hcc
  unfold jv at hcc
  simp only at hcc
  have C6 := Lib.hid hcc
  clear hcc
  have t0 := YX5.out.c0
  have t1 := YX5.out.c1
  have t2 := YX5.out.c2
  have t3 := YX5.out.c3
  have t4 := YX5.out.c4
  go_wp2_with fail
  refine C6.out.mono ?_
  rintro e wz6 ⟨⟨T6, nt6, ct6, R6, nr6, cr6, S6, ns6, cs6⟩, rfl, hm, hb⟩
  unfold jv
  simp only
  have hbn := below_new wz6 (.cells #[.slice T6 nt6 ct6, .int .i64 lo.1.size, .slice R6 nr6 cr6, .slice S6 ns6 cs6, .int .u64 (lo.1.on : Nat)] 33)
  have hY := B5.new wz6 (.slice T6 nt6 ct6) (.int .i64 lo.1.size) (.slice R6 nr6 cr6) (.slice S6 ns6 cs6) (.int .u64 (lo.1.on : Nat)) 33
  obtain ⟨V6, hV⟩ : ∃ V6, V6 = wz6.alloc (.cells #[.slice T6 nt6 ct6, .int .i64 lo.1.size, .slice R6 nr6 cr6, .slice S6 ns6 cs6, .int .u64 (lo.1.on : Nat)] 33) := ⟨_, rfl⟩
  rw [← hV] at hbn hY
  have E6 := Lib.hid hV
  have hbj := hb.trans (hbn.mono hb.size)
  have YX6 := Lib.hid (YX5.out.step hbj)
  have MX6 := Lib.hid (MX5.out.below hbj)
  have BW6 := Lib.hid (held_trans BW5.out hbj)
  clear BW5 YX5 MX5 
  have Ya6 := Lib.hid hY
  have Ma6 := Lib.hid ((hm.bound.mono (G := fun b => b < wz6.heap.size) (fun b hb => hb.2)).below hbn)
  clear hV hY hbn hm hb hbj C6 t0 t1 t2 t3 t4
  have h1 := MX6.out.nr
  have h2 := Ma6.out.nr
  have h3 := MX6.out.ns
  have h4 := Ma6.out.ns
  simp only at h1 h2 h3 h4
  have er : nr6 = nr1 := by rw [← h1.1, ← h2.1, HOT.out.rings]
  have es : ns6 = ns1 := by rw [← h3.1, ← h4.1, HOT.out.rows]
  have q1 : ((nr6 : Int) != (nr1 : Int)) = false := by rw [er]; simp
  have q2 : ((ns6 : Int) != (ns1 : Int)) = false := by rw [es]; simp
  have q3 : (((lo.1.on : Nat) : Int) != ((r.on : Nat) : Int)) = false := by rw [HOT.out.on]; simp
  have NR := Lib.hid h1.1
  have NS := Lib.hid h3.1
  have NRA := Lib.hid er
  have NSA := Lib.hid es
  have hnr : nr1 ≤ 64 := by rw [← h1.1]; exact HLW.out.rings
  have hns : ns1 ≤ 64 := by rw [← h3.1]; exact HLW.out.rows
  clear h1 h2 h3 h4 er es
  have t0 := YX6.out.c0
  have t1 := YX6.out.c1
  have t2 := YX6.out.c2
  have t3 := YX6.out.c3
  have t4 := YX6.out.c4
  have y0 := Ya6.out.c0
  have y1 := Ya6.out.c1
  have y2 := Ya6.out.c2
  have y3 := Ya6.out.c3
  have y4 := Ya6.out.c4
  go_wp2_with (rw [← E6.out])
  clear E6
  clear q1 q2 q3 t0 t1 t2 t3 t4 y0 y1 y2 y3 y4
  go_loopw [13] (fun i wr => ∃ j : Nat, j ≤ nr1 ∧ i = .int .i64 (j : Int) ∧ Hid (Below V6.heap.size V6 wr)) (fun i _ => nr1 - (intOf i).toNat)
  case atStart => exact ⟨0, Nat.zero_le _, rfl, Lib.hid (Below.refl _ _)⟩
  case round =>
    obtain ⟨j, hj, rfl, HB⟩ := hrel
    have YXw := Lib.hid (YX6.out.step HB.out)
    have Yaw := Lib.hid (Ya6.out.step HB.out)
    have t2 := YXw.out.c2
    have t3 := YXw.out.c3
    by_cases hlt : j < nr1
    · skip
      have l1 : (j : Int) < (nr1 : Int) := by omega
      have wk : IntKind.i64.wrap ((j : Int) + 1) = ((j + 1 : Nat) : Int) := by rw [IntWalk.i64_in _ (by omega)]; omega
      by_cases hjk : j = k
      · skip
        have e : ((j : Int) != (k : Int)) = false := by rw [hjk]; simp
        go_wp2_with fail
        go_quiet (fail)
        go_wp2_with fail
        go_roundw
        case rel => exact ⟨j + 1, by omega, by first | exact wk | rw [wk] | (rw [wk]; omega) | go_num, Lib.hid (below_drewN HB.out _)⟩
        case measure => simp [intOf]; omega
      · skip
        have e : ((j : Int) != (k : Int)) = true := by rw [bne_iff_ne]; omega
        obtain ⟨⟨x, t⟩, hrg⟩ : ∃ y, r.rings[j]? = some y := ⟨_, List.getElem?_eq_getElem (by rw [NR.out]; exact hlt)⟩
        have hrg2 : lo.1.rings[j]? = some (x, t) := by rw [HOT.out.ring j hjk]; exact hrg
        obtain ⟨rb, ro, Aw, nw, cw, eR, hrb, hr0, hr1, hrr⟩ := (MX6.out.below HB.out).ringAt hrg
        obtain ⟨sb, so, Av, nv, cv, eS, hsb, hs0, hs1, hss⟩ := (Ma6.out.below HB.out).ringAt hrg2
        simp only at eS eR hrr hss
        have hnw : nw ≤ 400 := by rw [← hrr.len]; exact HLW.out.ring (x, t) (List.mem_of_getElem? hrg)
        have hnv : nv ≤ 400 := by rw [← hss.len]; exact HLW.out.ring (x, t) (List.mem_of_getElem? hrg)
        subst eS eR
        have l2 : (j : Int) < (nr6 : Int) := by rw [NRA.out]; exact l1
        have l0 : (0 : Int) ≤ (j : Int) := by omega
        have AA := Lib.hid (fun W (hb : Below wr.heap.size wr W) => all_any x Av nv cv t W (hss.below hb) (by omega))
        have AX := Lib.hid (fun W (hb : Below wr.heap.size wr W) => all_any x Aw nw cw t W (hrr.below hb) (by omega))
        have t2 := YXw.out.c2
        have y2 := Yaw.out.c2
        clear hrg hrg2 hrb hsb hrr hss
        go_wp2_with fail
        refine wp_region_held_drew (S := fun w' => w'.cell? ⟨w3.heap.size, 2, none⟩ = some (.slice (some ⟨rb, ro, none⟩) nr1 cr1) ∧ w'.cell? ⟨wz6.heap.size, 2, none⟩ = some (.slice (some ⟨sb, so, none⟩) nr6 cr6) ∧ w'.cell? ⟨rb, ro + j * 2, none⟩ = some (.int .i64 x) ∧ w'.cell? ⟨rb, ro + j * 2 + 1, none⟩ = some (.slice Aw nw cw) ∧ w'.cell? ⟨sb, so + j * 2, none⟩ = some (.int .i64 x) ∧ w'.cell? ⟨sb, so + j * 2 + 1, none⟩ = some (.slice Av nv cv)) (by kernel_rfl) ⟨t2, y2, hr0, hr1, hs0, hs1⟩ (fun hHeld => ?_)
        refine wpAnyH_takesJ (i := 0) (v := (.int .i64 j)) (some 75) rfl rfl (by kernel_rfl) (by kernel_rfl) (by kernel_rfl) (fun _ _ _ h => h) (Or.inl ⟨by rfl, (by intro W9 hSw; (try dsimp only at hSw); go_simp; first | done | with_reducible rfl)⟩) (by assumption) ?_
        simp only [Act.put, List.setIfInBounds_toArray]; try simp only [List.set_cons_zero, List.set_cons_succ]
        refine wpAnyH_takesJ (i := 1) (v := (.int .i64 k)) (some 76) rfl rfl (by kernel_rfl) (by kernel_rfl) (by kernel_rfl) (fun _ _ _ h => h) (Or.inl ⟨by rfl, (by intro W9 hSw; (try dsimp only at hSw); go_simp; first | done | with_reducible rfl)⟩) (by assumption) ?_
        simp only [Act.put, List.setIfInBounds_toArray]; try simp only [List.set_cons_zero, List.set_cons_succ]
        refine wpAnyH_takesJ (i := 2) (v := (.bool true)) (some 77) rfl rfl (by kernel_rfl) (by kernel_rfl) (by kernel_rfl) (fun _ _ _ h => h) (Or.inl ⟨by rfl, (by intro W9 hSw; (try dsimp only at hSw); go_simp; first | done | with_reducible rfl)⟩) (by assumption) ?_
        simp only [Act.put, List.setIfInBounds_toArray]; try simp only [List.set_cons_zero, List.set_cons_succ]
        refine wpAnyH_takesJ (i := 3) (v := (.bool true)) (some 78) rfl rfl (by kernel_rfl) (by kernel_rfl) (by kernel_rfl) (fun _ _ _ h => h) (Or.inl ⟨by rfl, (by intro W9 hSw; (try dsimp only at hSw); go_simp; first | done | with_reducible rfl)⟩) (by assumption) ?_
        simp only [Act.put, List.setIfInBounds_toArray]; try simp only [List.set_cons_zero, List.set_cons_succ]
        refine wpAnyH_takesJ (i := 4) (v := (.pointer (some ⟨wz6.heap.size, 2, none⟩))) (some 79) rfl rfl (by kernel_rfl) (by kernel_rfl) (by kernel_rfl) (fun _ _ _ h => h) (Or.inl ⟨by rfl, (by intro W9 hSw; (try dsimp only at hSw); go_simp; first | done | with_reducible rfl)⟩) (by assumption) ?_
        simp only [Act.put, List.setIfInBounds_toArray]; try simp only [List.set_cons_zero, List.set_cons_succ]
        refine wpAnyH_takesJ (i := 5) (v := (.slice (some ⟨sb, so, none⟩) nr6 cr6)) (some 80) rfl rfl (by kernel_rfl) (by kernel_rfl) (by kernel_rfl) (fun _ _ _ h => h) (Or.inl ⟨by rfl, (by intro W9 hSw; (try dsimp only at hSw); go_simp; first | done | with_reducible rfl)⟩) (by assumption) ?_
        simp only [Act.put, List.setIfInBounds_toArray]; try simp only [List.set_cons_zero, List.set_cons_succ]
        refine wpAnyH_takesJ (i := 6) (v := (.int .i64 j)) (some 81) rfl rfl (by kernel_rfl) (by kernel_rfl) (by kernel_rfl) (fun _ _ _ h => h) (Or.inl ⟨by rfl, (by intro W9 hSw; (try dsimp only at hSw); go_simp; first | done | with_reducible rfl)⟩) (by assumption) ?_
        simp only [Act.put, List.setIfInBounds_toArray]; try simp only [List.set_cons_zero, List.set_cons_succ]
        refine wpAnyH_takesJ (i := 7) (v := (.pointer (some ⟨sb, so + j * 2, none⟩))) (some 82) rfl rfl (by kernel_rfl) (by kernel_rfl) (by kernel_rfl) (fun _ _ _ h => h) (Or.inl ⟨by rfl, (by intro W9 hSw; (try dsimp only at hSw); go_simp; first | done | with_reducible rfl)⟩) (by assumption) ?_
        simp only [Act.put, List.setIfInBounds_toArray]; try simp only [List.set_cons_zero, List.set_cons_succ]
        refine wpAnyH_takesJ (i := 8) (v := (.agg #[.int .i64 x, .slice Av nv cv])) (some 83) rfl rfl (by kernel_rfl) (by kernel_rfl) (by kernel_rfl) (fun _ _ _ h => h) (Or.inl ⟨by rfl, (by intro W9 hSw; (try dsimp only at hSw); go_simp; first | done | with_reducible rfl)⟩) (by assumption) ?_
        simp only [Act.put, List.setIfInBounds_toArray]; try simp only [List.set_cons_zero, List.set_cons_succ]
        refine wpAnyH_takesJ (i := 10) (v := (.pointer (some ⟨w3.heap.size, 2, none⟩))) (some 85) rfl rfl (by kernel_rfl) (by kernel_rfl) (by kernel_rfl) (fun _ _ _ h => h) (Or.inl ⟨by rfl, (by intro W9 hSw; (try dsimp only at hSw); go_simp; first | done | with_reducible rfl)⟩) (by assumption) ?_
        simp only [Act.put, List.setIfInBounds_toArray]; try simp only [List.set_cons_zero, List.set_cons_succ]
        refine wpAnyH_takesJ (i := 11) (v := (.slice (some ⟨rb, ro, none⟩) nr1 cr1)) (some 86) rfl rfl (by kernel_rfl) (by kernel_rfl) (by kernel_rfl) (fun _ _ _ h => h) (Or.inl ⟨by rfl, (by intro W9 hSw; (try dsimp only at hSw); go_simp; first | done | with_reducible rfl)⟩) (by assumption) ?_
        simp only [Act.put, List.setIfInBounds_toArray]; try simp only [List.set_cons_zero, List.set_cons_succ]
        refine wpAnyH_takesJ (i := 12) (v := (.int .i64 j)) (some 87) rfl rfl (by kernel_rfl) (by kernel_rfl) (by kernel_rfl) (fun _ _ _ h => h) (Or.inl ⟨by rfl, (by intro W9 hSw; (try dsimp only at hSw); go_simp; first | done | with_reducible rfl)⟩) (by assumption) ?_
        simp only [Act.put, List.setIfInBounds_toArray]; try simp only [List.set_cons_zero, List.set_cons_succ]
        refine wpAnyH_takesJ (i := 13) (v := (.pointer (some ⟨rb, ro + j * 2, none⟩))) (some 88) rfl rfl (by kernel_rfl) (by kernel_rfl) (by kernel_rfl) (fun _ _ _ h => h) (Or.inl ⟨by rfl, (by intro W9 hSw; (try dsimp only at hSw); go_simp; first | done | with_reducible rfl)⟩) (by assumption) ?_
        simp only [Act.put, List.setIfInBounds_toArray]; try simp only [List.set_cons_zero, List.set_cons_succ]
        refine wpAnyH_takesJ (i := 14) (v := (.agg #[.int .i64 x, .slice Aw nw cw])) (some 89) rfl rfl (by kernel_rfl) (by kernel_rfl) (by kernel_rfl) (fun _ _ _ h => h) (Or.inl ⟨by rfl, (by intro W9 hSw; (try dsimp only at hSw); go_simp; first | done | with_reducible rfl)⟩) (by assumption) ?_
        simp only [Act.put, List.setIfInBounds_toArray]; try simp only [List.set_cons_zero, List.set_cons_succ]
        refine wpAnyH_ready (rs := [9]) (by kernel_rfl) (by simp) ?_
        refine AllReadyH.cons rfl (fun K hK => ?_) AllReadyH.nil
        go_simp
        go_at_call 19
        refine (AA.out _ (by exact (Below.refl _ _).drew)).mono ?_
        rintro e x1 ⟨Ao, no, co, rfl, hro, _, hbx⟩
        have hb1 := (Below.refl wr.heap.size wr).drew.trans (hbx.mono (by simp))
        refine hK.out _ _ (by exact ⟨keepcell hb1 t2, keepcell hb1 y2, keepcell hb1 hr0, keepcell hb1 hr1, keepcell hb1 hs0, keepcell hb1 hs1⟩) (fun hHeld => ?_)
        clear hK K hbx
        try dsimp only
        refine wpAnyH_ready (rs := [15]) (by kernel_rfl) (by simp) ?_
        refine AllReadyH.cons rfl (fun K hK => ?_) AllReadyH.nil
        go_simp
        go_at_call 19
        refine (AX.out _ (by exact hb1)).mono ?_
        rintro e x2 ⟨Aq, nq, cq, rfl, hrq, _, hbx⟩
        have hb2 := hb1.trans (hbx.mono hb1.size)
        have IN := Lib.hid (ints_row Ao Aq no nq co cq _ _ x2 rfl (hro.below hbx) hrq)
        clear hro hrq
        refine hK.out _ _ (by exact ⟨keepcell hb2 t2, keepcell hb2 y2, keepcell hb2 hr0, keepcell hb2 hr1, keepcell hb2 hs0, keepcell hb2 hs1⟩) (fun hHeld => ?_)
        clear hK K hbx
        try dsimp only
        refine wpAnyH_ready (rs := [16]) (by kernel_rfl) (by simp) ?_
        refine AllReadyH.cons rfl (fun K hK => ?_) AllReadyH.nil
        go_simp
        go_at_call 24
        refine (IN.out).mono ?_
        rintro e x3 ⟨rfl, hbx⟩
        have hb3 := hb2.trans (hbx.mono hb2.size)
        refine hK.out _ _ (by exact ⟨keepcell hb3 t2, keepcell hb3 y2, keepcell hb3 hr0, keepcell hb3 hr1, keepcell hb3 hs0, keepcell hb3 hs1⟩) (fun hHeld => ?_)
        clear hK K hbx
        try dsimp only
        refine wpAnyH_takesJ (i := 17) (v := (.bool false)) (some 92) rfl rfl (by kernel_rfl) (by kernel_rfl) (by kernel_rfl) (fun _ _ _ h => h) (Or.inl ⟨by rfl, (by intro W9 hSw; (try dsimp only at hSw); go_simp; first | done | with_reducible rfl)⟩) (by assumption) ?_
        simp only [Act.put, List.setIfInBounds_toArray]; try simp only [List.set_cons_zero, List.set_cons_succ]
        refine wpAnyH_takesJ (i := 18) (v := (.bool false)) (some 93) rfl rfl (by kernel_rfl) (by kernel_rfl) (by kernel_rfl) (fun _ _ _ h => h) (Or.inl ⟨by rfl, (by intro W9 hSw; (try dsimp only at hSw); go_simp; first | done | with_reducible rfl)⟩) (by assumption) ?_
        simp only [Act.put, List.setIfInBounds_toArray]; try simp only [List.set_cons_zero, List.set_cons_succ]
        refine wpAnyH_done (by kernel_rfl) ?_ _
        have BE := Lib.hid (HB.out.trans (hb3.mono HB.out.size))
        clear hb1 hb2 hb3
        go_wp2_with fail
        go_roundw
        case rel => exact ⟨j + 1, by omega, by first | exact wk | rw [wk] | (rw [wk]; omega) | go_num, BE⟩
        case measure => simp [intOf]; omega
    · skip
      have l1 : ¬ (j : Int) < (nr1 : Int) := by omega
      clear t2 t3 YXw Yaw hlt
      have HBO := HB
      clear HB
      obtain ⟨wo, rfl⟩ : ∃ wo : World, wo = wr := ⟨_, rfl⟩
      have t2 := (YX6.out.step HBO.out).c2
      go_wp2_with fail
      clear t2
      go_loopw [14] (fun i wr => ∃ j : Nat, j ≤ ns1 ∧ i = .int .i64 (j : Int) ∧ Hid (Below V6.heap.size V6 wr)) (fun i _ => ns1 - (intOf i).toNat)
      case atStart => exact ⟨0, Nat.zero_le _, rfl, HBO⟩
      case round =>
        obtain ⟨j2, hj2, rfl, HC⟩ := hrel
        have YXw := Lib.hid (YX6.out.step HC.out)
        have Yaw := Lib.hid (Ya6.out.step HC.out)
        have t3 := YXw.out.c3
        by_cases hlt2 : j2 < ns1
        · skip
          have l2 : (j2 : Int) < (ns1 : Int) := by omega
          have wk : IntKind.i64.wrap ((j2 : Int) + 1) = ((j2 + 1 : Nat) : Int) := by rw [IntWalk.i64_in _ (by omega)]; omega
          by_cases hjm : j2 = m
          · skip
            have e : ((j2 : Int) != (m : Int)) = false := by rw [hjm]; simp
            go_wp2_with fail
            go_quiet (fail)
            go_wp2_with fail
            go_roundw
            case rel => exact ⟨j2 + 1, by omega, by first | exact wk | rw [wk] | (rw [wk]; omega) | go_num, Lib.hid (below_drewN HC.out _)⟩
            case measure => simp [intOf]; omega
          · skip
            have e : ((j2 : Int) != (m : Int)) = true := by rw [bne_iff_ne]; omega
            obtain ⟨row, hrg⟩ : ∃ y, r.rows[j2]? = some y := ⟨_, List.getElem?_eq_getElem (by rw [NS.out]; exact hlt2)⟩
            have hrg2 : lo.1.rows[j2]? = some row := by rw [HOT.out.row j2 hjm]; exact hrg
            obtain ⟨rb, ro, Aw, nw, cw, eR, hrb, hr0, hrr⟩ := (MX6.out.below HC.out).rowAt hrg
            obtain ⟨sb, so, Av, nv, cv, eS, hsb, hs0, hss⟩ := (Ma6.out.below HC.out).rowAt hrg2
            simp only at eS eR hrr hss
            subst eS eR
            have l3 : (j2 : Int) < (ns6 : Int) := by rw [NSA.out]; exact l2
            have l0 : (0 : Int) ≤ (j2 : Int) := by omega
            have IN := Lib.hid (fun W (hb : Below wr.heap.size wr W) => ints_row Av Aw nv nw cv cw _ _ W rfl (hss.below hb) (hrr.below hb))
            have t3 := YXw.out.c3
            have y3 := Yaw.out.c3
            clear hrg hrg2 hrb hsb hrr hss
            go_wp2_with fail
            refine wp_region_held_drew (S := fun w' => w'.cell? ⟨w3.heap.size, 3, none⟩ = some (.slice (some ⟨rb, ro, none⟩) ns1 cs1) ∧ w'.cell? ⟨wz6.heap.size, 3, none⟩ = some (.slice (some ⟨sb, so, none⟩) ns6 cs6) ∧ w'.cell? ⟨rb, ro + j2, none⟩ = some (.slice Aw nw cw) ∧ w'.cell? ⟨sb, so + j2, none⟩ = some (.slice Av nv cv)) (by kernel_rfl) ⟨t3, y3, hr0, hs0⟩ (fun hHeld => ?_)
            refine wpAnyH_takesJ (i := 0) (v := (.int .i64 j2)) (some 101) rfl rfl (by kernel_rfl) (by kernel_rfl) (by kernel_rfl) (fun _ _ _ h => h) (Or.inl ⟨by rfl, (by intro W9 hSw; (try dsimp only at hSw); go_simp; first | done | with_reducible rfl)⟩) (by assumption) ?_
            simp only [Act.put, List.setIfInBounds_toArray]; try simp only [List.set_cons_zero, List.set_cons_succ]
            refine wpAnyH_takesJ (i := 1) (v := (.int .i64 m)) (some 102) rfl rfl (by kernel_rfl) (by kernel_rfl) (by kernel_rfl) (fun _ _ _ h => h) (Or.inl ⟨by rfl, (by intro W9 hSw; (try dsimp only at hSw); go_simp; first | done | with_reducible rfl)⟩) (by assumption) ?_
            simp only [Act.put, List.setIfInBounds_toArray]; try simp only [List.set_cons_zero, List.set_cons_succ]
            refine wpAnyH_takesJ (i := 2) (v := (.bool true)) (some 103) rfl rfl (by kernel_rfl) (by kernel_rfl) (by kernel_rfl) (fun _ _ _ h => h) (Or.inl ⟨by rfl, (by intro W9 hSw; (try dsimp only at hSw); go_simp; first | done | with_reducible rfl)⟩) (by assumption) ?_
            simp only [Act.put, List.setIfInBounds_toArray]; try simp only [List.set_cons_zero, List.set_cons_succ]
            refine wpAnyH_takesJ (i := 3) (v := (.bool true)) (some 104) rfl rfl (by kernel_rfl) (by kernel_rfl) (by kernel_rfl) (fun _ _ _ h => h) (Or.inl ⟨by rfl, (by intro W9 hSw; (try dsimp only at hSw); go_simp; first | done | with_reducible rfl)⟩) (by assumption) ?_
            simp only [Act.put, List.setIfInBounds_toArray]; try simp only [List.set_cons_zero, List.set_cons_succ]
            refine wpAnyH_takesJ (i := 4) (v := (.pointer (some ⟨wz6.heap.size, 3, none⟩))) (some 105) rfl rfl (by kernel_rfl) (by kernel_rfl) (by kernel_rfl) (fun _ _ _ h => h) (Or.inl ⟨by rfl, (by intro W9 hSw; (try dsimp only at hSw); go_simp; first | done | with_reducible rfl)⟩) (by assumption) ?_
            simp only [Act.put, List.setIfInBounds_toArray]; try simp only [List.set_cons_zero, List.set_cons_succ]
            refine wpAnyH_takesJ (i := 5) (v := (.slice (some ⟨sb, so, none⟩) ns6 cs6)) (some 106) rfl rfl (by kernel_rfl) (by kernel_rfl) (by kernel_rfl) (fun _ _ _ h => h) (Or.inl ⟨by rfl, (by intro W9 hSw; (try dsimp only at hSw); go_simp; first | done | with_reducible rfl)⟩) (by assumption) ?_
            simp only [Act.put, List.setIfInBounds_toArray]; try simp only [List.set_cons_zero, List.set_cons_succ]
            refine wpAnyH_takesJ (i := 6) (v := (.int .i64 j2)) (some 107) rfl rfl (by kernel_rfl) (by kernel_rfl) (by kernel_rfl) (fun _ _ _ h => h) (Or.inl ⟨by rfl, (by intro W9 hSw; (try dsimp only at hSw); go_simp; first | done | with_reducible rfl)⟩) (by assumption) ?_
            simp only [Act.put, List.setIfInBounds_toArray]; try simp only [List.set_cons_zero, List.set_cons_succ]
            refine wpAnyH_takesJ (i := 7) (v := (.pointer (some ⟨sb, so + j2, none⟩))) (some 108) rfl rfl (by kernel_rfl) (by kernel_rfl) (by kernel_rfl) (fun _ _ _ h => h) (Or.inl ⟨by rfl, (by intro W9 hSw; (try dsimp only at hSw); go_simp; first | done | with_reducible rfl)⟩) (by assumption) ?_
            simp only [Act.put, List.setIfInBounds_toArray]; try simp only [List.set_cons_zero, List.set_cons_succ]
            refine wpAnyH_takesJ (i := 8) (v := (.slice Av nv cv)) (some 109) rfl rfl (by kernel_rfl) (by kernel_rfl) (by kernel_rfl) (fun _ _ _ h => h) (Or.inl ⟨by rfl, (by intro W9 hSw; (try dsimp only at hSw); go_simp; first | done | with_reducible rfl)⟩) (by assumption) ?_
            simp only [Act.put, List.setIfInBounds_toArray]; try simp only [List.set_cons_zero, List.set_cons_succ]
            refine wpAnyH_takesJ (i := 9) (v := (.pointer (some ⟨w3.heap.size, 3, none⟩))) (some 110) rfl rfl (by kernel_rfl) (by kernel_rfl) (by kernel_rfl) (fun _ _ _ h => h) (Or.inl ⟨by rfl, (by intro W9 hSw; (try dsimp only at hSw); go_simp; first | done | with_reducible rfl)⟩) (by assumption) ?_
            simp only [Act.put, List.setIfInBounds_toArray]; try simp only [List.set_cons_zero, List.set_cons_succ]
            refine wpAnyH_takesJ (i := 10) (v := (.slice (some ⟨rb, ro, none⟩) ns1 cs1)) (some 111) rfl rfl (by kernel_rfl) (by kernel_rfl) (by kernel_rfl) (fun _ _ _ h => h) (Or.inl ⟨by rfl, (by intro W9 hSw; (try dsimp only at hSw); go_simp; first | done | with_reducible rfl)⟩) (by assumption) ?_
            simp only [Act.put, List.setIfInBounds_toArray]; try simp only [List.set_cons_zero, List.set_cons_succ]
            refine wpAnyH_takesJ (i := 11) (v := (.int .i64 j2)) (some 112) rfl rfl (by kernel_rfl) (by kernel_rfl) (by kernel_rfl) (fun _ _ _ h => h) (Or.inl ⟨by rfl, (by intro W9 hSw; (try dsimp only at hSw); go_simp; first | done | with_reducible rfl)⟩) (by assumption) ?_
            simp only [Act.put, List.setIfInBounds_toArray]; try simp only [List.set_cons_zero, List.set_cons_succ]
            refine wpAnyH_takesJ (i := 12) (v := (.pointer (some ⟨rb, ro + j2, none⟩))) (some 113) rfl rfl (by kernel_rfl) (by kernel_rfl) (by kernel_rfl) (fun _ _ _ h => h) (Or.inl ⟨by rfl, (by intro W9 hSw; (try dsimp only at hSw); go_simp; first | done | with_reducible rfl)⟩) (by assumption) ?_
            simp only [Act.put, List.setIfInBounds_toArray]; try simp only [List.set_cons_zero, List.set_cons_succ]
            refine wpAnyH_takesJ (i := 13) (v := (.slice Aw nw cw)) (some 114) rfl rfl (by kernel_rfl) (by kernel_rfl) (by kernel_rfl) (fun _ _ _ h => h) (Or.inl ⟨by rfl, (by intro W9 hSw; (try dsimp only at hSw); go_simp; first | done | with_reducible rfl)⟩) (by assumption) ?_
            simp only [Act.put, List.setIfInBounds_toArray]; try simp only [List.set_cons_zero, List.set_cons_succ]
            refine wpAnyH_ready (rs := [14]) (by kernel_rfl) (by simp) ?_
            refine AllReadyH.cons rfl (fun K hK => ?_) AllReadyH.nil
            go_simp
            go_at_call 24
            refine (IN.out _ (by exact (Below.refl _ _).drew)).mono ?_
            rintro e x1 ⟨rfl, hbx⟩
            have hb1 := (Below.refl wr.heap.size wr).drew.trans (hbx.mono (by simp))
            refine hK.out _ _ (by exact ⟨keepcell hb1 t3, keepcell hb1 y3, keepcell hb1 hr0, keepcell hb1 hs0⟩) (fun hHeld => ?_)
            clear hK K hbx
            try dsimp only
            refine wpAnyH_takesJ (i := 15) (v := (.bool false)) (some 116) rfl rfl (by kernel_rfl) (by kernel_rfl) (by kernel_rfl) (fun _ _ _ h => h) (Or.inl ⟨by rfl, (by intro W9 hSw; (try dsimp only at hSw); go_simp; first | done | with_reducible rfl)⟩) (by assumption) ?_
            simp only [Act.put, List.setIfInBounds_toArray]; try simp only [List.set_cons_zero, List.set_cons_succ]
            refine wpAnyH_takesJ (i := 16) (v := (.bool false)) (some 117) rfl rfl (by kernel_rfl) (by kernel_rfl) (by kernel_rfl) (fun _ _ _ h => h) (Or.inl ⟨by rfl, (by intro W9 hSw; (try dsimp only at hSw); go_simp; first | done | with_reducible rfl)⟩) (by assumption) ?_
            simp only [Act.put, List.setIfInBounds_toArray]; try simp only [List.set_cons_zero, List.set_cons_succ]
            refine wpAnyH_done (by kernel_rfl) ?_ _
            have BE := Lib.hid (HC.out.trans (hb1.mono HC.out.size))
            clear hb1
            go_wp2_with fail
            go_roundw
            case rel => exact ⟨j2 + 1, by omega, by first | exact wk | rw [wk] | (rw [wk]; omega) | go_num, BE⟩
            case measure => simp [intOf]; omega
        · skip
          have l2 : ¬ (j2 : Int) < (ns1 : Int) := by omega
          have BE := Lib.hid (held_trans BW6.out HC.out)
          go_wp2_with fail
          go_ret
          exact ⟨rfl, BE.out⟩
set_option maxRecDepth 100000 in
theorem lifted (os : Os) (started : os.Started) (H : Type) (enc : TypeId × Value → H) :
    ReturnsInHanded {} Tryd.checked os 6 .any (fun w args => (Rows.findOthersSpec.pre enc Tryd.prog Tryd.f6 [] false w args ∧ laidMetH Tryd.prog laidList w) ∧ sizedMet enc Tryd.prog Tryd.f6 (OpenSpec.ofChange Rows.findOthersSpec) false w args)
      (Rows.findOthersSpec.post enc Tryd.prog Tryd.f6 false true false false) := by
  refine returnsInHanded_of_change_and (C := Tryd.checked) (X := fun w _ => laidMetH Tryd.prog laidList w) (fun _ _ _ hh h => h.of_heap hh) own started (by kernel_rfl) Tryd.func6
    (ChangeSpec.witness_shaped (enc := enc) (C := Tryd.checked) (os := os) (X := fun w _ => laidMetH Tryd.prog laidList w) false (World.doorLaid Tryd.prog 14 os) #[.agg #[.slice none 0 0, .int .i64 0, .slice none 0 0, .slice none 0 0, .int .u64 0], .int .i64 0, .int .i64 0] 8 rfl (World.shaped_of_RefB (by kernel_rfl) (by kernel_rfl)) (by kernel_rfl) (by kernel_rfl) (by kernel_rfl) (door_met os _)) ?_
  intro W base args ds gs before hval0 hW _ _ hL _
  have hval : ∀ (j : Nat) t v, Tryd.f6.params[j]? = some t → args[j]? = some v → Value.okWide Tryd.prog W .any base t v := hval0
  have hW' := hW
  obtain ⟨p, q, hA0, hV, rfl, hfz, hnd⟩ := hW
  have hA : DataW.TrodAll enc Tryd.prog W 0 (fun _ => true) true Tryd.f6.params.toList args.toList ds p := hA0
  rw [Tryd.params6] at hA hval
  obtain ⟨v0, vs0, d0, ds0, p0, q0, hargs, rfl, rfl, h0, r0⟩ := trodAll_cons hA
  obtain ⟨v1, vs1, d1, ds1, p1, q1, rfl, rfl, rfl, h1, r1⟩ := trodAll_cons r0
  obtain ⟨v2, vs2, d2, ds2, p2, q2, rfl, rfl, rfl, h2, r2⟩ := trodAll_cons r1
  obtain ⟨rfl, rfl, rfl⟩ := trodAll_nil r2
  obtain rfl : args = #[v0, v1, v2] := by cases args; simp_all
  obtain ⟨rfl, rfl⟩ := trodVars_none hV
  have k0 := h0
  have lt0 : ∀ x ∈ p0, x.block < W.heap.size := by obtain ⟨m, hm⟩ := k0; exact DataW.trod_lt m _ _ _ hm
  obtain ⟨x0, y0, rfl, hr0⟩ := open_runs (hval 0 27 v0 rfl rfl) h0
  obtain ⟨a1, rfl, rfl, rfl, w1⟩ := open_int Tryd.underlying3 (hval 1 3 v1 rfl rfl) h1
  obtain ⟨a2, rfl, rfl, rfl, w2⟩ := open_int Tryd.underlying3 (hval 2 3 v2 rfl rfl) h2
  clear hA0 hval0
  refine (walk x0 y0 a1 a2 W hr0 (in64_of_wf w1) (in64_of_wf w2) (tab_of_laid hL)).mono fun e W' ⟨he, bel⟩ => ?_
  subst he
  exact ⟨_, rfl, _, _, _, [], _, [], hW', trodAll_mk1 (shut_bool Tryd.underlying4 _), (trodAll_cons_mk (Below.trod laidOut (by kernel_rfl) (of_decide_eq_true (by kernel_rfl)) k0 bel lt0) (trodAll_cons_mk (shut_int Tryd.underlying3 w1) (trodAll_cons_mk (shut_int Tryd.underlying3 w2) trodAll_mk0))), rfl, bel.frame _, fun h => by cases h⟩
theorem over : Rows.FindOthersSaid :=
  OpenClaim.holds_of_wide 6 Tryd.f6 rfl rfl rfl rfl rfl rfl rfl ⟨rfl, rfl, rfl, rfl, rfl⟩ rfl rfl rfl rfl rfl (by kernel_rfl) Tryd.func6 (by kernel_rfl)
    (of_decide_eq_true (by kernel_rfl)) (by unfold Func.isWrapper; first | (rw [if_pos (by decide +kernel)]; kernel_rfl) | (rw [if_neg (by decide +kernel)]; exact ⟨rfl, rfl⟩))
    (fun os started H enc _ => lifted os started H enc)
theorem proved : Rows.FindOthersCardSaid :=
  Claim7.holds_tied_plain_at .later [] [.data] true Rows.findOthersCard.stood.harness false
    over (fun _ h => by cases h) (by kernel_rfl) (fun _ h => by cases h) findOthers_row_tie rfl ⟨rfl, rfl⟩ (by kernel_rfl) rfl
    (fun f fn hf hfn => by
      obtain rfl : f = 6 := Option.some.inj ((show Tryd.prog.funcNamed "catafalque/catafalquelaw16.FindOthers" = some 6 by kernel_rfl).symm.trans hf) |>.symm
      obtain rfl : fn = Tryd.f6 := (Option.some.inj (Tryd.func6.symm.trans hfn)).symm
      exact ⟨by kernel_rfl, fun j t ht => by
        rw [Tryd.params6] at ht
        have hm : t ∈ [27, 3, 3] := by simpa using Array.mem_of_getElem? ht
        have hall : ([27, 3, 3].all fun u => !Tryd.prog.wantsStandIn u) = true := by kernel_rfl
        exact (show Tryd.prog.wantsStandIn t = false by simpa using List.all_eq_true.1 hall t hm)⟩)
    (by kernel_rfl)
end Go.Proofs.YtinmmcikhjacoaaDoor.findOthers

