/- BalanceEnds: balanced again and again, as often as there are rows and those who stand in them, no row is longer than another one by more than one; then it moves nobody: the call answers true and changes nothing that was there; for every input. (Written by wip/gen/gen_elaws.py: change that.) -/
import Derived.Test.YthbeldmgaioemaaDoorEShown
import Derived.Test.YthbeldmgaioemaaDoorM7
import Derived.Test.YthbeldmgaioemaaDoorERefEnds
import Derived.Test.YthbeldmgaioemaaDoorM10
import Derived.Test.YthbeldmgaioemaaDoorJMade
import Derived.Test.YthbeldmgaioemaaDoorJFew
import Derived.Test.YthbeldmgaioemaaDoorM9
import Derived.Test.YthbeldmgaioemaaDoorM6
import Derived.Test.YthbeldmgaioemaaDoorM1
namespace Go.Proofs.YthbeldmgaioemaaDoor.balanceEnds
open Go.ChangeShapes Go.WideShapes Go.ChangeAt Go.RowKit
set_option linter.unusedVariables false

theorem yes_of {P : Prop} (h : P) : true = true ↔ P := ⟨fun _ => h, fun _ => rfl⟩
theorem bag_row (A B : Option Addr) (n m c d : Nat) (a b : List Int) (w : World) (hp : a.Perm b) (h : Row w A n c a) (hB : Row w B m d b) (hm : m ≤ 1000000) :
    Calls Tryd.prog 20 #[.slice A n c, .slice B m d] w fun e w' => e = .returned (.bool true) ∧ Below w.heap.size w w' := by
  have h1 := h.len
  have h2 := hB.len
  have h3 := hp.length_eq
  obtain rfl : n = m := by omega
  exact bag_any A B n c d a b w (Lib.hid hp) h hB (by omega)
def FX (X : Nat) (w : World) : Nat → Prop := fun b => b ≠ X ∧ b < w.heap.size
set_option maxRecDepth 100000 in
set_option maxHeartbeats 4000000 in
theorem walk (d : Ad) (r : Jp.Rn) (w : World) (h : RMI (fun b => b < w.heap.size) w d r) (hT : Tab w) :
    Calls Tryd.prog 5 #[jv d r] w fun e w' => e = .returned (.bool true) ∧ Below w.heap.size w w' := by
  have HIN := Lib.hid h.2
  have HR := Lib.hid h.1
  have HTW := Lib.hid hT
  obtain ⟨A0, nt, ct, R, nr, cr, S, ns, cs⟩ := d
  obtain ⟨V, hV, hX, hB⟩ := B5.start w (.slice A0 nt ct) (.int .i64 r.size) (.slice R nr cr) (.slice S ns cs) (.int .u64 (r.on : Nat)) 27
  have E := Lib.hid hV
  have X0 := Lib.hid hX
  have B0 := Lib.hid hB
  have SH := Lib.hid (eshown_any V (hT.step hB))
  clear h hT hV hX hB
  unfold jv
  go_enter Tryd.func5, Tryd.ntmps5
  go_wp2_with (rw [← E.out])
  clear E
  refine SH.out.mono ?_
  rintro e w1 ⟨rfl, hb1⟩
  have X1 := Lib.hid (X0.out.step hb1)
  have B1 := Lib.hid (held_trans B0.out hb1)
  have p0 := X1.out.c0
  have p1 := X1.out.c1
  have p2 := X1.out.c2
  have p3 := X1.out.c3
  have p4 := X1.out.c4
  have hFW := fun T HT => few_any ⟨A0, nt, ct, R, nr, cr, S, ns, cs⟩ r T w1 HT (HR.out.below B1.out) HIN.out
  unfold jv at hFW
  simp only at hFW
  have FW := Lib.hid hFW
  clear hb1 SH X0 B0 hFW
  go_wp2_with fail
  by_cases hfew : ¬ FewP r
  · refine (FW.out false (Lib.hid (by simp [hfew]))).mono ?_
    rintro e w2 ⟨rfl, hb2⟩
    have BE := Lib.hid (held_trans B1.out hb2)
    go_wp2_with fail
    go_ret
    exact ⟨rfl, BE.out⟩
  have hfew := Classical.not_not.1 hfew
  have HFEW := Lib.hid hfew
  refine (FW.out true (Lib.hid (by simp [hfew]))).mono ?_
  rintro e w2a ⟨rfl, hb2⟩
  have X2a := Lib.hid (X1.out.step hb2)
  have B2a := Lib.hid (held_trans B1.out hb2)
  have p0 := X2a.out.c0
  have p1 := X2a.out.c1
  have p2 := X2a.out.c2
  have p3 := X2a.out.c3
  have p4 := X2a.out.c4
  obtain ⟨Tb, hTb⟩ : ∃ Tb : Bool, (Tb = true ↔ Jp.May r) := by
    by_cases h : Jp.May r
    · exact ⟨true, by simp [h]⟩
    · exact ⟨false, by simp [h]⟩
  have HTB := Lib.hid hTb
  have hMY := jrefMay_any ⟨A0, nt, ct, R, nr, cr, S, ns, cs⟩ r Tb w2a HTB (HR.out.below B2a.out) HFEW.out.low
  unfold jv at hMY
  simp only at hMY
  have MY := Lib.hid hMY
  clear hb2 FW X1 B1 hfew hMY hTb
  go_wp2_with fail
  refine MY.out.mono ?_
  rintro e w2 ⟨rfl, hb2⟩
  have X2 := Lib.hid (X2a.out.step hb2)
  have B2 := Lib.hid (held_trans B2a.out hb2)
  have p0 := X2.out.c0
  have p1 := X2.out.c1
  have p2 := X2.out.c2
  have p3 := X2.out.c3
  have p4 := X2.out.c4
  clear hb2 MY X2a B2a
  cases Tb
  · have BE := B2
    go_wp2_with fail
    go_ret
    exact ⟨rfl, BE.out⟩
  have HMAY := Lib.hid (HTB.out.1 rfl)
  clear HTB
  have hMD := jmade_any ⟨A0, nt, ct, R, nr, cr, S, ns, cs⟩ r w2 (HR.out.below B2.out) (fun b hb => Nat.lt_of_lt_of_le hb B2.out.size) HFEW.out.low
  unfold jv at hMD
  simp only at hMD
  have MD := Lib.hid hMD
  clear hMD
  go_wp2_with fail
  refine MD.out.mono ?_
  rintro e w3 ⟨⟨A1, nt1, ct1, R1, nr1, cr1, S1, ns1, cs1⟩, rfl, hm3, hb3⟩
  unfold jv
  simp only
  have hbn := below_new w3 (.cells #[.slice A1 nt1 ct1, .int .i64 r.size, .slice R1 nr1 cr1, .slice S1 ns1 cs1, .int .u64 (r.on : Nat)] 33)
  have hY := B5.new w3 (.slice A1 nt1 ct1) (.int .i64 r.size) (.slice R1 nr1 cr1) (.slice S1 ns1 cs1) (.int .u64 (r.on : Nat)) 33
  obtain ⟨V4, hV4⟩ : ∃ V4, V4 = w3.alloc (.cells #[.slice A1 nt1 ct1, .int .i64 r.size, .slice R1 nr1 cr1, .slice S1 ns1 cs1, .int .u64 (r.on : Nat)] 33) := ⟨_, rfl⟩
  rw [← hV4] at hbn hY
  have E4 := Lib.hid hV4
  have B4 := Lib.hid (held_trans (held_trans B2.out hb3) hbn)
  have P4 := Lib.hid ((X2.out.step hb3).step hbn)
  have Y4 := Lib.hid hY
  have M4 := Lib.hid (show RM (fun b => b < w3.heap.size) V4 ⟨A1, nt1, ct1, R1, nr1, cr1, S1, ns1, cs1⟩ r from (hm3.bound.mono (fun b hb => hb.2)).below hbn)
  have HX4 := Lib.hid (show w3.heap.size < V4.heap.size from hY.lt)
  have HWX := Lib.hid (show w.heap.size ≤ w3.heap.size from (held_trans B2.out hb3).size)
  have HXLT := Lib.hid (show w.heap.size < w3.heap.size from Nat.lt_of_lt_of_le X2.out.lt hb3.size)
  clear hm3 hb3 hbn hY hV4 MD X2 B2 p0 p1 p2 p3 p4
  have YP4 := P4
  have YX4 := Y4
  have MX4 := M4
  have BW4 := B4
  have HLW := Lib.hid HFEW.out.low
  have hC4 : C5 V4 w3.heap.size (.slice A1 nt1 ct1) (.int .i64 r.size) (.slice R1 nr1 cr1) (.slice S1 ns1 cs1) (.int .u64 (r.on : Nat)) := by rw [E4.out]; exact C5.new _ _ _ _ _ _ _
  have C4 := Lib.hid hC4
  clear P4 Y4 M4 B4 hC4
  have hns := MX4.out.ns
  simp only at hns
  have HNS := Lib.hid hns.1
  have AX := Lib.hid (fun W (hb : Below V4.heap.size V4 W) => runsAll_any ⟨A1, nt1, ct1, R1, nr1, cr1, S1, ns1, cs1⟩ r W (MX4.out.below hb) HLW.out)
  unfold jv at AX
  simp only at AX
  have hns64 : ns1 ≤ 64 := by have := HLW.out.rows; omega
  clear hns
  have t0 := YX4.out.c0
  have t1 := YX4.out.c1
  have t2 := YX4.out.c2
  have t3 := YX4.out.c3
  have t4 := YX4.out.c4
  go_wp2_with (rw [← E4.out])
  clear E4
  refine wp_region_held_drew (S := fun w' => B5 w' w3.heap.size (.slice A1 nt1 ct1) (.int .i64 r.size) (.slice R1 nr1 cr1) (.slice S1 ns1 cs1) (.int .u64 (r.on : Nat))) (by kernel_rfl) YX4.out.drew (fun hHeld => ?_)
  have hb1 := (Below.refl V4.heap.size V4).drew
  obtain ⟨x1, hx1⟩ : ∃ x1, x1 = V4.drew := ⟨_, rfl⟩
  rw [← hx1] at hb1 hHeld ⊢
  clear hx1 t0 t1 t2 t3 t4
  refine wpAnyH_takesJ (i := 0) (v := (.pointer (some ⟨w3.heap.size, 3, none⟩))) (some 25) rfl rfl (by kernel_rfl) (by kernel_rfl) (by kernel_rfl) (fun _ _ _ h => h) (Or.inl ⟨by rfl, (by intro W9 hSw; clear hSw; go_simp; first | done | with_reducible rfl)⟩) (by assumption) ?_
  simp only [Act.put, List.setIfInBounds_toArray]; try simp only [List.set_cons_zero, List.set_cons_succ]
  refine wpAnyH_takesJ (i := 1) (v := (.slice S1 ns1 cs1)) (some 26) rfl rfl (by kernel_rfl) (by kernel_rfl) (by kernel_rfl) (fun _ _ _ h => h) (Or.inl ⟨by rfl, (by intro W9 hSw; have s0 := hSw.c0; have s1 := hSw.c1; have s2 := hSw.c2; have s3 := hSw.c3; have s4 := hSw.c4; clear hSw; go_simp; first | done | with_reducible rfl)⟩) (by assumption) ?_
  simp only [Act.put, List.setIfInBounds_toArray]; try simp only [List.set_cons_zero, List.set_cons_succ]
  refine wpAnyH_takesJ (i := 2) (v := (.int .i64 (ns1 : Nat))) (some 27) rfl rfl (by kernel_rfl) (by kernel_rfl) (by kernel_rfl) (fun _ _ _ h => h) (Or.inl ⟨by rfl, (by intro W9 hSw; clear hSw; go_simp; first | done | with_reducible rfl)⟩) (by assumption) ?_
  simp only [Act.put, List.setIfInBounds_toArray]; try simp only [List.set_cons_zero, List.set_cons_succ]
  refine wpAnyH_takesJ (i := 3) (v := (.agg #[.slice A1 nt1 ct1, .int .i64 r.size, .slice R1 nr1 cr1, .slice S1 ns1 cs1, .int .u64 (r.on : Nat)])) (some 28) rfl rfl (by kernel_rfl) (by kernel_rfl) (by kernel_rfl) (fun _ _ _ h => h) (Or.inl ⟨by rfl, (by intro W9 hSw; have s0 := hSw.c0; have s1 := hSw.c1; have s2 := hSw.c2; have s3 := hSw.c3; have s4 := hSw.c4; clear hSw; go_simp; first | done | with_reducible rfl)⟩) (by assumption) ?_
  simp only [Act.put, List.setIfInBounds_toArray]; try simp only [List.set_cons_zero, List.set_cons_succ]
  refine wpAnyH_ready (rs := [4]) (by kernel_rfl) (by simp) ?_
  refine AllReadyH.cons rfl (fun K hK => ?_) AllReadyH.nil
  go_simp
  go_at_call 21
  refine (AX.out _ (by exact hb1)).mono ?_
  rintro e x2 ⟨Aq, nq, cq, rfl, hrq, _, hbx⟩
  have hb2 := hb1.trans (hbx.mono hb1.size)
  have hnq := hrq.len
  have hal := all_le HLW.out
  obtain ⟨tn, htn⟩ : ∃ t, t = ns1 + nq + 1 := ⟨_, rfl⟩
  have w1' : IntKind.i64.wrap ((ns1 : Int) + (nq : Int)) = ((ns1 + nq : Nat) : Int) := by rw [IntWalk.i64_in _ (by omega)]; omega
  have w2' : IntKind.i64.wrap (((ns1 + nq : Nat) : Int) + 1) = (tn : Int) := by rw [IntWalk.i64_in _ (by omega)]; omega
  have w3' : IntKind.i64.wrap ((ns1 : Int) + (nq : Int) + 1) = (tn : Int) := by rw [IntWalk.i64_in _ (by omega)]; omega
  have w4' : IntKind.i64.wrap ((ns1 : Int) + (nq : Int)) = (ns1 : Int) + (nq : Int) := by rw [IntWalk.i64_in _ (by omega)]
  have HTN := Lib.hid (show r.rows.length + (Jp.all r).length < tn by rw [hnq, HNS.out]; omega)
  have HT6 := Lib.hid (show tn ≤ 60000 by omega)
  have YP5 := Lib.hid (YP4.out.step hb2)
  have C5h := Lib.hid (C4.out.step hb2)
  have MX5 := Lib.hid (MX4.out.below hb2)
  have BW5 := Lib.hid (held_trans BW4.out hb2)
  refine hK.out _ _ (by exact C5h.out.b5) (fun hHeld => ?_)
  clear hK K hbx hrq hnq hal htn w2' YP4 C4 MX4 BW4 AX YX4
  try dsimp only
  refine wpAnyH_takesJ (i := 5) (v := (.int .i64 (nq : Nat))) (some 30) rfl rfl (by kernel_rfl) (by kernel_rfl) (by kernel_rfl) (fun _ _ _ h => h) (Or.inl ⟨by rfl, (by intro W9 hSw; clear hSw; go_simp; first | done | with_reducible rfl)⟩) (by assumption) ?_
  simp only [Act.put, List.setIfInBounds_toArray]; try simp only [List.set_cons_zero, List.set_cons_succ]
  refine wpAnyH_takesJ (i := 6) (v := (.int .i64 ((ns1 : Int) + (nq : Int)))) (some 31) rfl rfl (by kernel_rfl) (by kernel_rfl) (by kernel_rfl) (fun _ _ _ h => h) (Or.inl ⟨by rfl, (by intro W9 hSw; clear hSw; go_simp; first | done | with_reducible rfl)⟩) (by assumption) ?_
  simp only [Act.put, List.setIfInBounds_toArray]; try simp only [List.set_cons_zero, List.set_cons_succ]
  refine wpAnyH_takesJ (i := 7) (v := (.int .i64 (tn : Nat))) (some 32) rfl rfl (by kernel_rfl) (by kernel_rfl) (by kernel_rfl) (fun _ _ _ h => h) (Or.inl ⟨by rfl, (by intro W9 hSw; clear hSw; go_simp; first | done | with_reducible rfl)⟩) (by assumption) ?_
  simp only [Act.put, List.setIfInBounds_toArray]; try simp only [List.set_cons_zero, List.set_cons_succ]
  refine wpAnyH_takesJ (i := 8) (v := (.int .i64 (tn : Nat))) (some 5) rfl rfl (by kernel_rfl) (by kernel_rfl) (by kernel_rfl) (fun _ _ _ h => h) (Or.inl ⟨by rfl, (by intro W9 hSw; clear hSw; go_simp; first | done | with_reducible rfl)⟩) (by assumption) ?_
  simp only [Act.put, List.setIfInBounds_toArray]; try simp only [List.set_cons_zero, List.set_cons_succ]
  refine wpAnyH_done (by kernel_rfl) ?_ _
  clear w1' w3' w4' hHeld hb1 hb2
  obtain ⟨X, hX⟩ : ∃ X, X = w3.heap.size := ⟨_, rfl⟩
  rw [← hX] at C5h MX5 HX4 HWX HXLT ⊢
  have HM5 := Lib.hid (show RM (FX X x2) x2 ⟨A1, nt1, ct1, R1, nr1, cr1, S1, ns1, cs1⟩ r from (MX5.out.mono (G := fun b => b ≠ X) (fun b hb => by omega)).bound)
  clear hX MX5
  go_wp2_with fail
  go_loopw [6] (fun i wr => ∃ j : Nat, j ≤ tn ∧ i = .int .i64 j ∧ ∃ A9 nt9 ct9 R9 nr9 cr9 S9 ns9 cs9, Hid (C5 wr X (.slice A9 nt9 ct9) (.int .i64 r.size) (.slice R9 nr9 cr9) (.slice S9 ns9 cs9) (.int .u64 (r.on : Nat))) ∧ Hid (RM (FX X wr) wr ⟨A9, nt9, ct9, R9, nr9, cr9, S9, ns9, cs9⟩ (Jp.nth r j)) ∧ Hid (B5 wr w.heap.size (.slice A0 nt ct) (.int .i64 r.size) (.slice R nr cr) (.slice S ns cs) (.int .u64 (r.on : Nat))) ∧ Hid (Below w.heap.size w wr)) (fun i _ => tn - (intOf i).toNat)
  case atStart => exact ⟨0, Nat.zero_le _, rfl, _, _, _, _, _, _, _, _, _, C5h, HM5, YP5, BW5⟩
  case round =>
    clear C5h HM5 YP5 BW5
    obtain ⟨j, hj, rfl, A9, nt9, ct9, R9, nr9, cr9, S9, ns9, cs9, OK, MK, PK, BK⟩ := hrel
    have t0 := OK.out.b5.c0
    have t1 := OK.out.b5.c1
    have t2 := OK.out.b5.c2
    have t3 := OK.out.b5.c3
    have t4 := OK.out.b5.c4
    by_cases hlt : j < tn
    · have l1 : (j : Int) < (tn : Int) := by omega
      have hT6 : tn ≤ 60000 := HT6.out
      have hPT := balBalance_any ⟨A9, nt9, ct9, R9, nr9, cr9, S9, ns9, cs9⟩ (Jp.nth r j) wr MK.out (fun b hb => hb.2) (Jp.nth_low HMAY.out HLW.out j) (HTW.out.step BK.out)
      rw [Jp.nth_bal HMAY.out] at hPT
      unfold jv at hPT
      simp only [show (Jp.nth r j).size = r.size from rfl, show (Jp.nth r j).on = r.on from rfl] at hPT
      have PT := Lib.hid hPT
      clear hPT
      go_wp2_with fail
      refine PT.out.mono ?_
      rintro e w2 ⟨⟨A1, nt1, ct1, R1, nr1, cr1, S1, ns1, cs1⟩, rfl, hm2, hb2⟩
      unfold jv
      simp only [show (Jp.nth r (j + 1)).size = r.size from rfl, show (Jp.nth r (j + 1)).on = r.on from rfl]
      obtain ⟨mvd, hmvd⟩ : ∃ m, m = Jp.moved (Jp.again r.rows j) := ⟨_, rfl⟩
      rw [← hmvd]
      clear hmvd
      have hO3 := (OK.out.step hb2).step (below_new w2 (.cells #[.slice A1 nt1 ct1, .int .i64 r.size, .slice R1 nr1 cr1, .slice S1 ns1 cs1, .int .u64 (r.on : Nat)] 33))
      have hP3 := (PK.out.step hb2).step (below_new w2 (.cells #[.slice A1 nt1 ct1, .int .i64 r.size, .slice R1 nr1 cr1, .slice S1 ns1 cs1, .int .u64 (r.on : Nat)] 33))
      have hY3 := C5.new w2 (.slice A1 nt1 ct1) (.int .i64 r.size) (.slice R1 nr1 cr1) (.slice S1 ns1 cs1) (.int .u64 (r.on : Nat)) 33
      have hbn := below_new w2 (.cells #[.slice A1 nt1 ct1, .int .i64 r.size, .slice R1 nr1 cr1, .slice S1 ns1 cs1, .int .u64 (r.on : Nat)] 33)
      obtain ⟨W3, hW3⟩ : ∃ W3, W3 = w2.alloc (.cells #[.slice A1 nt1 ct1, .int .i64 r.size, .slice R1 nr1 cr1, .slice S1 ns1 cs1, .int .u64 (r.on : Nat)] 33) := ⟨_, rfl⟩
      rw [← hW3] at hO3 hY3 hbn hP3
      have E3 := Lib.hid hW3
      have B3 := held_trans (held_trans BK.out hb2) hbn
      have hxl := OK.out.lt
      have M3 := (hm2.mono (G := fun b => b ≠ X) (fun b hb => by
        rcases hb with h | h
        · exact h.1
        · omega)).below hbn
      have M4 := M3.put (X := X) (fun h => h rfl) (.slice A1 nt1 ct1) (.int .i64 r.size) (.slice R1 nr1 cr1) (.slice S1 ns1 cs1) (.int .u64 (r.on : Nat))
      have MK4 := Lib.hid M4.bound
      have OK4 := Lib.hid (hO3.put (.slice A1 nt1 ct1) (.int .i64 r.size) (.slice R1 nr1 cr1) (.slice S1 ns1 cs1) (.int .u64 (r.on : Nat)))
      have hXw : X ≠ w.heap.size := by have := HXLT.out; omega
      have PK4 := Lib.hid (show B5 (put5 W3 X (.slice A1 nt1 ct1) (.int .i64 r.size) (.slice R1 nr1 cr1) (.slice S1 ns1 cs1) (.int .u64 (r.on : Nat))) w.heap.size _ _ _ _ _ from ((((hP3.far (by simp only; exact hXw)).far (by simp only; exact hXw)).far (by simp only; exact hXw)).far (by simp only; exact hXw)).far (by simp only; exact hXw))
      have BK4 := Lib.hid (below_put (b := X) B3 HWX.out (.slice A1 nt1 ct1) (.int .i64 r.size) (.slice R1 nr1 cr1) (.slice S1 ns1 cs1) (.int .u64 (r.on : Nat)))
      have v0 := hY3.b5.c0
      have v1 := hY3.b5.c1
      have v2 := hY3.b5.c2
      have v3 := hY3.b5.c3
      have v4 := hY3.b5.c4
      have x0 := hO3.b5.c0
      have x1 := hO3.b5.c1
      have x2 := hO3.b5.c2
      have x3 := hO3.b5.c3
      have x4 := hO3.b5.c4
      have f0 := hO3.f0
      have f1 := hO3.f1
      have f2 := hO3.f2
      have f3 := hO3.f3
      have f4 := hO3.f4
      unfold put5 at MK4 OK4 BK4 PK4
      clear hO3 hY3 hbn hW3 B3 M3 M4 hm2 hb2 t0 t1 t2 t3 t4 PT hP3
      go_wp2_with (rw [← E3.out])
      have wk : IntKind.i64.wrap ((j : Int) + 1) = ((j + 1 : Nat) : Int) := by
        rw [show ((j + 1 : Nat) : Int) = (j : Int) + 1 by omega]
        exact IntWalk.i64_in _ (by have := HT6.out; omega)
      go_roundw
      case rel => exact ⟨j + 1, by omega, by first | exact wk | rw [wk] | go_num, _, _, _, _, _, _, _, _, _, OK4, MK4, PK4, BK4⟩
      case measure => simp [intOf]; omega
    · obtain rfl : j = tn := by omega
      have l1 : ¬ (j : Int) < (j : Int) := by omega
      have hPT := balBalance_any ⟨A9, nt9, ct9, R9, nr9, cr9, S9, ns9, cs9⟩ (Jp.nth r j) wr MK.out (fun b hb => hb.2) (Jp.nth_low HMAY.out HLW.out j) (HTW.out.step BK.out)
      rw [Jp.nth_bal HMAY.out, Jp.nth_ends HMAY.out HTN.out] at hPT
      unfold jv at hPT
      simp only [show (Jp.nth r j).size = r.size from rfl, show (Jp.nth r j).on = r.on from rfl] at hPT
      have PT := Lib.hid hPT
      have hns9 := MK.out.ns
      simp only at hns9
      have HN9 := Lib.hid hns9.1
      have hn964 : ns9 ≤ 64 := by rw [← hns9.1, Jp.nth_length]; exact HLW.out.rows
      clear hPT hns9
      go_wp2_with fail
      refine PT.out.mono ?_
      rintro e w2 ⟨⟨A1, nt1, ct1, R1, nr1, cr1, S1, ns1, cs1⟩, rfl, _, hb2⟩
      unfold jv
      simp only [show (Jp.nth r (j + 1)).size = r.size from rfl, show (Jp.nth r (j + 1)).on = r.on from rfl]
      have hb3 := hb2.trans ((below_new w2 (.cells #[.slice A1 nt1 ct1, .int .i64 r.size, .slice R1 nr1 cr1, .slice S1 ns1 cs1, .int .u64 (r.on : Nat)] 33)).mono hb2.size)
      obtain ⟨V6, hV6⟩ : ∃ V, V = w2.alloc (.cells #[.slice A1 nt1 ct1, .int .i64 r.size, .slice R1 nr1 cr1, .slice S1 ns1 cs1, .int .u64 (r.on : Nat)] 33) := ⟨_, rfl⟩
      rw [← hV6] at hb3
      have E6 := Lib.hid hV6
      have Y6 := Lib.hid (OK.out.b5.step hb3)
      have M6 := Lib.hid (MK.out.below hb3)
      have P6 := Lib.hid (PK.out.step hb3)
      have B6 := Lib.hid (held_trans BK.out hb3)
      have HDF := Lib.hid (fun i k (hi : i < ns9) (hk : k < ns9) => Jp.moved_zero (Jp.nth_ends HMAY.out HTN.out) (i := i) (j := k) (by rw [← HN9.out] at hi; exact hi) (by rw [← HN9.out] at hk; exact hk))
      have hx3 := Y6.out.c3
      clear hV6 hb2 hb3 OK MK PK BK t0 t1 t2 t3 t4 PT l1
      go_wp2_with (rw [← E6.out])
      clear E6
      go_loopw [11] (fun i wr => ∃ a : Nat, a ≤ ns9 ∧ i = .int .i64 a ∧ Hid (Below V6.heap.size V6 wr)) (fun i _ => ns9 - (intOf i).toNat)
      case atStart => exact ⟨0, Nat.zero_le _, rfl, Lib.hid (Below.refl _ _)⟩
      case round =>
        clear hx3
        obtain ⟨a, ha, rfl, HA⟩ := hrel
        obtain ⟨wo, rfl⟩ : ∃ wo : World, wo = wr := ⟨_, rfl⟩
        have hx3 := (Y6.out.step HA.out).c3
        by_cases hal : a < ns9
        · have m1 : (a : Int) < (ns9 : Int) := by omega
          go_wp2_with fail
          go_loopw [12] (fun i wr => ∃ c : Nat, c ≤ ns9 ∧ i = .int .i64 c ∧ Hid (Below V6.heap.size V6 wr)) (fun i _ => ns9 - (intOf i).toNat)
          case atStart => exact ⟨0, Nat.zero_le _, rfl, HA⟩
          case round =>
            clear hx3
            obtain ⟨c, hc, rfl, HC⟩ := hrel
            have hx3 := (Y6.out.step HC.out).c3
            by_cases hcl : c < ns9
            · have m2 : (c : Int) < (ns9 : Int) := by omega
              obtain ⟨bS, oS, Aa, ca, hS, ca0, _⟩ := (M6.out.below HC.out).rowC (i := a) (by rw [HN9.out]; exact hal)
              obtain ⟨b2, o2, Ac, cc, hS2, cc0, _⟩ := (M6.out.below HC.out).rowC (i := c) (by rw [HN9.out]; exact hcl)
              simp only at hS hS2
              subst hS
              injection hS2 with hS2
              injection hS2 with e1 e2 _
              subst e1 e2
              have hdf := HDF.out a c hal hcl
              obtain ⟨na, hna⟩ : ∃ n, n = Jp.rlen (Jp.nth r j).rows a := ⟨_, rfl⟩
              obtain ⟨nc, hnc⟩ : ∃ n, n = Jp.rlen (Jp.nth r j).rows c := ⟨_, rfl⟩
              have hna4 : na ≤ 400 := by rw [hna]; exact (Jp.nth_low HMAY.out HLW.out j).row _ (List.mem_of_getElem? (Jp.row_at (by rw [HN9.out]; exact hal)))
              have hnc4 : nc ≤ 400 := by rw [hnc]; exact (Jp.nth_low HMAY.out HLW.out j).row _ (List.mem_of_getElem? (Jp.row_at (by rw [HN9.out]; exact hcl)))
              have hdf2 : na ≤ nc + 1 := by rw [hna, hnc]; exact hdf
              rw [← hna] at ca0
              rw [← hnc] at cc0
              have u0 : (0 : Int) ≤ (a : Int) := by omega
              have u1 : (0 : Int) ≤ (c : Int) := by omega
              have u2 : IntKind.i64.wrap ((na : Int) - (nc : Int)) = (na : Int) - (nc : Int) := IntWalk.i64_in _ (by omega)
              have u3 : ¬ (1 : Int) < (na : Int) - (nc : Int) := by omega
              have u4 : decide ((1 : Int) < (na : Int) - (nc : Int)) = false := decide_eq_false u3
              clear hna hnc hdf
              go_wp2_with fail
              refine wp_region_held_drew (S := fun w' => w'.cell? ⟨X, 3, none⟩ = some (.slice (some ⟨bS, oS, none⟩) ns9 cs9) ∧ w'.cell? ⟨bS, oS + a, none⟩ = some (.slice Aa na ca) ∧ w'.cell? ⟨bS, oS + c, none⟩ = some (.slice Ac nc cc)) (by kernel_rfl) ⟨hx3, ca0, cc0⟩ (fun hHeld => ?_)
              refine wpAnyH_takesJ (i := 0) (v := (.pointer (some ⟨X, 3, none⟩))) (some 63) rfl rfl (by kernel_rfl) (by kernel_rfl) (by kernel_rfl) (fun _ _ _ h => h) (Or.inl ⟨by rfl, (by intro W9 hSw; (try dsimp only at hSw); go_simp; first | done | with_reducible rfl)⟩) (by assumption) ?_
              simp only [Act.put, List.setIfInBounds_toArray]; try simp only [List.set_cons_zero, List.set_cons_succ]
              refine wpAnyH_takesJ (i := 1) (v := (.slice (some ⟨bS, oS, none⟩) ns9 cs9)) (some 64) rfl rfl (by kernel_rfl) (by kernel_rfl) (by kernel_rfl) (fun _ _ _ h => h) (Or.inl ⟨by rfl, (by intro W9 hSw; (try dsimp only at hSw); go_simp; first | done | with_reducible rfl)⟩) (by assumption) ?_
              simp only [Act.put, List.setIfInBounds_toArray]; try simp only [List.set_cons_zero, List.set_cons_succ]
              refine wpAnyH_takesJ (i := 2) (v := (.int .i64 (a : Nat))) (some 65) rfl rfl (by kernel_rfl) (by kernel_rfl) (by kernel_rfl) (fun _ _ _ h => h) (Or.inl ⟨by rfl, (by intro W9 hSw; (try dsimp only at hSw); go_simp; first | done | with_reducible rfl)⟩) (by assumption) ?_
              simp only [Act.put, List.setIfInBounds_toArray]; try simp only [List.set_cons_zero, List.set_cons_succ]
              refine wpAnyH_takesJ (i := 3) (v := (.pointer (some ⟨bS, oS + a, none⟩))) (some 66) rfl rfl (by kernel_rfl) (by kernel_rfl) (by kernel_rfl) (fun _ _ _ h => h) (Or.inl ⟨by rfl, (by intro W9 hSw; (try dsimp only at hSw); go_simp; first | done | with_reducible rfl)⟩) (by assumption) ?_
              simp only [Act.put, List.setIfInBounds_toArray]; try simp only [List.set_cons_zero, List.set_cons_succ]
              refine wpAnyH_takesJ (i := 4) (v := (.slice Aa na ca)) (some 67) rfl rfl (by kernel_rfl) (by kernel_rfl) (by kernel_rfl) (fun _ _ _ h => h) (Or.inl ⟨by rfl, (by intro W9 hSw; (try dsimp only at hSw); go_simp; first | done | with_reducible rfl)⟩) (by assumption) ?_
              simp only [Act.put, List.setIfInBounds_toArray]; try simp only [List.set_cons_zero, List.set_cons_succ]
              refine wpAnyH_takesJ (i := 5) (v := (.int .i64 (na : Nat))) (some 68) rfl rfl (by kernel_rfl) (by kernel_rfl) (by kernel_rfl) (fun _ _ _ h => h) (Or.inl ⟨by rfl, (by intro W9 hSw; (try dsimp only at hSw); go_simp; first | done | with_reducible rfl)⟩) (by assumption) ?_
              simp only [Act.put, List.setIfInBounds_toArray]; try simp only [List.set_cons_zero, List.set_cons_succ]
              refine wpAnyH_takesJ (i := 6) (v := (.pointer (some ⟨X, 3, none⟩))) (some 69) rfl rfl (by kernel_rfl) (by kernel_rfl) (by kernel_rfl) (fun _ _ _ h => h) (Or.inl ⟨by rfl, (by intro W9 hSw; (try dsimp only at hSw); go_simp; first | done | with_reducible rfl)⟩) (by assumption) ?_
              simp only [Act.put, List.setIfInBounds_toArray]; try simp only [List.set_cons_zero, List.set_cons_succ]
              refine wpAnyH_takesJ (i := 7) (v := (.slice (some ⟨bS, oS, none⟩) ns9 cs9)) (some 70) rfl rfl (by kernel_rfl) (by kernel_rfl) (by kernel_rfl) (fun _ _ _ h => h) (Or.inl ⟨by rfl, (by intro W9 hSw; (try dsimp only at hSw); go_simp; first | done | with_reducible rfl)⟩) (by assumption) ?_
              simp only [Act.put, List.setIfInBounds_toArray]; try simp only [List.set_cons_zero, List.set_cons_succ]
              refine wpAnyH_takesJ (i := 8) (v := (.int .i64 (c : Nat))) (some 71) rfl rfl (by kernel_rfl) (by kernel_rfl) (by kernel_rfl) (fun _ _ _ h => h) (Or.inl ⟨by rfl, (by intro W9 hSw; (try dsimp only at hSw); go_simp; first | done | with_reducible rfl)⟩) (by assumption) ?_
              simp only [Act.put, List.setIfInBounds_toArray]; try simp only [List.set_cons_zero, List.set_cons_succ]
              refine wpAnyH_takesJ (i := 9) (v := (.pointer (some ⟨bS, oS + c, none⟩))) (some 72) rfl rfl (by kernel_rfl) (by kernel_rfl) (by kernel_rfl) (fun _ _ _ h => h) (Or.inl ⟨by rfl, (by intro W9 hSw; (try dsimp only at hSw); go_simp; first | done | with_reducible rfl)⟩) (by assumption) ?_
              simp only [Act.put, List.setIfInBounds_toArray]; try simp only [List.set_cons_zero, List.set_cons_succ]
              refine wpAnyH_takesJ (i := 10) (v := (.slice Ac nc cc)) (some 73) rfl rfl (by kernel_rfl) (by kernel_rfl) (by kernel_rfl) (fun _ _ _ h => h) (Or.inl ⟨by rfl, (by intro W9 hSw; (try dsimp only at hSw); go_simp; first | done | with_reducible rfl)⟩) (by assumption) ?_
              simp only [Act.put, List.setIfInBounds_toArray]; try simp only [List.set_cons_zero, List.set_cons_succ]
              refine wpAnyH_takesJ (i := 11) (v := (.int .i64 (nc : Nat))) (some 74) rfl rfl (by kernel_rfl) (by kernel_rfl) (by kernel_rfl) (fun _ _ _ h => h) (Or.inl ⟨by rfl, (by intro W9 hSw; (try dsimp only at hSw); go_simp; first | done | with_reducible rfl)⟩) (by assumption) ?_
              simp only [Act.put, List.setIfInBounds_toArray]; try simp only [List.set_cons_zero, List.set_cons_succ]
              refine wpAnyH_takesJ (i := 12) (v := (.int .i64 ((na : Int) - (nc : Int)))) (some 75) rfl rfl (by kernel_rfl) (by kernel_rfl) (by kernel_rfl) (fun _ _ _ h => h) (Or.inl ⟨by rfl, (by intro W9 hSw; (try dsimp only at hSw); go_simp; first | done | with_reducible rfl)⟩) (by assumption) ?_
              simp only [Act.put, List.setIfInBounds_toArray]; try simp only [List.set_cons_zero, List.set_cons_succ]
              refine wpAnyH_takesJ (i := 13) (v := (.bool false)) (some 76) rfl rfl (by kernel_rfl) (by kernel_rfl) (by kernel_rfl) (fun _ _ _ h => h) (Or.inl ⟨by rfl, (by intro W9 hSw; (try dsimp only at hSw); go_simp; first | done | with_reducible rfl)⟩) (by assumption) ?_
              simp only [Act.put, List.setIfInBounds_toArray]; try simp only [List.set_cons_zero, List.set_cons_succ]
              refine wpAnyH_done (by kernel_rfl) ?_ _
              have HC2 := Lib.hid (HC.out.trans (((Below.refl wr.heap.size wr).drew).mono HC.out.size))
              clear hHeld ca0 cc0 hx3 u0 u1 u2 u3 u4
              go_wp2_with fail
              go_roundw
              case rel => exact ⟨c + 1, by omega, by go_num, HC2⟩
              case measure => simp [intOf]; omega
            · obtain rfl : c = ns9 := by omega
              go_wp2_with fail
              go_roundw
              case rel => exact ⟨a + 1, by omega, by go_num, HC⟩
              case measure => simp [intOf]; omega
        · obtain rfl : a = ns9 := by omega
          have Y7 := Lib.hid (Y6.out.step HA.out)
          have P7 := Lib.hid (P6.out.step HA.out)
          have B7 := Lib.hid (held_trans B6.out HA.out)
          have AX := Lib.hid (fun W (hb : Below wo.heap.size wo W) => runsAll_any ⟨A9, nt9, ct9, R9, nr9, cr9, S9, a, cs9⟩ (Jp.nth r j) W ((M6.out.below HA.out).below hb) (Jp.nth_low HMAY.out HLW.out j))
          have AR := Lib.hid (fun W (hb : Below wo.heap.size wo W) => jrefAll_any ⟨A0, nt, ct, R, nr, cr, S, ns, cs⟩ r W ((HR.out.below B7.out).below hb) HLW.out)
          unfold jv at AX AR
          simp only [show (Jp.nth r j).size = r.size from rfl, show (Jp.nth r j).on = r.on from rfl] at AX AR
          have FPM := Lib.hid (Jp.nth_all r j)
          clear HA
          go_wp2_with fail
          clear hx3
          refine wp_region_held_drew (S := fun w' => B5 w' X (.slice A9 nt9 ct9) (.int .i64 r.size) (.slice R9 nr9 cr9) (.slice S9 a cs9) (.int .u64 (r.on : Nat)) ∧ B5 w' w.heap.size (.slice A0 nt ct) (.int .i64 r.size) (.slice R nr cr) (.slice S ns cs) (.int .u64 (r.on : Nat))) (by kernel_rfl) ⟨Y7.out.drew, P7.out.drew⟩ (fun hHeld => ?_)
          have hb1 := (Below.refl wo.heap.size wo).drew
          obtain ⟨x1, hx1⟩ : ∃ x1, x1 = wo.drew := ⟨_, rfl⟩
          rw [← hx1] at hb1 hHeld ⊢
          clear hx1
          refine wpAnyH_takesJ (i := 0) (v := (.bool true)) (some 77) rfl rfl (by kernel_rfl) (by kernel_rfl) (by kernel_rfl) (fun _ _ _ h => h) (Or.inl ⟨by rfl, (by intro W9 hSw; clear hSw; go_simp; first | done | with_reducible rfl)⟩) (by assumption) ?_
          simp only [Act.put, List.setIfInBounds_toArray]; try simp only [List.set_cons_zero, List.set_cons_succ]
          refine wpAnyH_takesJ (i := 1) (v := (.bool true)) (some 78) rfl rfl (by kernel_rfl) (by kernel_rfl) (by kernel_rfl) (fun _ _ _ h => h) (Or.inl ⟨by rfl, (by intro W9 hSw; clear hSw; go_simp; first | done | with_reducible rfl)⟩) (by assumption) ?_
          simp only [Act.put, List.setIfInBounds_toArray]; try simp only [List.set_cons_zero, List.set_cons_succ]
          refine wpAnyH_takesJ (i := 2) (v := (.int .i64 0)) (some 79) rfl rfl (by kernel_rfl) (by kernel_rfl) (by kernel_rfl) (fun _ _ _ h => h) (Or.inl ⟨by rfl, (by intro W9 hSw; clear hSw; go_simp; first | done | with_reducible rfl)⟩) (by assumption) ?_
          simp only [Act.put, List.setIfInBounds_toArray]; try simp only [List.set_cons_zero, List.set_cons_succ]
          refine wpAnyH_takesJ (i := 3) (v := (.bool true)) (some 80) rfl rfl (by kernel_rfl) (by kernel_rfl) (by kernel_rfl) (fun _ _ _ h => h) (Or.inl ⟨by rfl, (by intro W9 hSw; clear hSw; go_simp; first | done | with_reducible rfl)⟩) (by assumption) ?_
          simp only [Act.put, List.setIfInBounds_toArray]; try simp only [List.set_cons_zero, List.set_cons_succ]
          refine wpAnyH_takesJ (i := 4) (v := (.bool true)) (some 81) rfl rfl (by kernel_rfl) (by kernel_rfl) (by kernel_rfl) (fun _ _ _ h => h) (Or.inl ⟨by rfl, (by intro W9 hSw; clear hSw; go_simp; first | done | with_reducible rfl)⟩) (by assumption) ?_
          simp only [Act.put, List.setIfInBounds_toArray]; try simp only [List.set_cons_zero, List.set_cons_succ]
          refine wpAnyH_takesJ (i := 5) (v := (.bool true)) (some 82) rfl rfl (by kernel_rfl) (by kernel_rfl) (by kernel_rfl) (fun _ _ _ h => h) (Or.inl ⟨by rfl, (by intro W9 hSw; clear hSw; go_simp; first | done | with_reducible rfl)⟩) (by assumption) ?_
          simp only [Act.put, List.setIfInBounds_toArray]; try simp only [List.set_cons_zero, List.set_cons_succ]
          refine wpAnyH_takesJ (i := 6) (v := (.agg #[.slice A9 nt9 ct9, .int .i64 r.size, .slice R9 nr9 cr9, .slice S9 a cs9, .int .u64 (r.on : Nat)])) (some 83) rfl rfl (by kernel_rfl) (by kernel_rfl) (by kernel_rfl) (fun _ _ _ h => h) (Or.inl ⟨by rfl, (by intro W9 hSw; have s0 := (hSw.1).c0; have s1 := (hSw.1).c1; have s2 := (hSw.1).c2; have s3 := (hSw.1).c3; have s4 := (hSw.1).c4; clear hSw; go_simp; first | done | with_reducible rfl)⟩) (by assumption) ?_
          simp only [Act.put, List.setIfInBounds_toArray]; try simp only [List.set_cons_zero, List.set_cons_succ]
          refine wpAnyH_takesJ (i := 8) (v := (.agg #[.slice A0 nt ct, .int .i64 r.size, .slice R nr cr, .slice S ns cs, .int .u64 (r.on : Nat)])) (some 85) rfl rfl (by kernel_rfl) (by kernel_rfl) (by kernel_rfl) (fun _ _ _ h => h) (Or.inl ⟨by rfl, (by intro W9 hSw; have s0 := (hSw.2).c0; have s1 := (hSw.2).c1; have s2 := (hSw.2).c2; have s3 := (hSw.2).c3; have s4 := (hSw.2).c4; clear hSw; go_simp; first | done | with_reducible rfl)⟩) (by assumption) ?_
          simp only [Act.put, List.setIfInBounds_toArray]; try simp only [List.set_cons_zero, List.set_cons_succ]
          refine wpAnyH_ready (rs := [7]) (by kernel_rfl) (by simp) ?_
          refine AllReadyH.cons rfl (fun K hK => ?_) AllReadyH.nil
          go_simp
          go_at_call 21
          refine (AX.out _ (by exact hb1)).mono ?_
          rintro e x2 ⟨Aq, nq, cq, rfl, hrq, _, hbx⟩
          have hb2 := hb1.trans (hbx.mono hb1.size)
          have RQ := Lib.hid hrq
          refine hK.out _ _ (by exact ⟨Y7.out.step hb2, P7.out.step hb2⟩) (fun hHeld => ?_)
          clear hK K hbx hrq
          try dsimp only
          refine wpAnyH_ready (rs := [9]) (by kernel_rfl) (by simp) ?_
          refine AllReadyH.cons rfl (fun K hK => ?_) AllReadyH.nil
          go_simp
          go_at_call 22
          refine (AR.out _ (by exact hb2)).mono ?_
          rintro e x3 ⟨Az, nz, cz, rfl, hrz, _, hbx⟩
          have hb3 := hb2.trans (hbx.mono hb2.size)
          have BG := Lib.hid (bag_row Aq Az _ nz cq cz _ _ x3 FPM.out (RQ.out.below hbx) hrz (by have h7 := hrz.len; have h8 := all_le HLW.out; omega))
          refine hK.out _ _ (by exact ⟨Y7.out.step hb3, P7.out.step hb3⟩) (fun hHeld => ?_)
          clear hK K hbx hrz
          try dsimp only
          refine wpAnyH_ready (rs := [10]) (by kernel_rfl) (by simp) ?_
          refine AllReadyH.cons rfl (fun K hK => ?_) AllReadyH.nil
          go_simp
          go_at_call 20
          refine BG.out.mono ?_
          rintro e x4 ⟨rfl, hbx⟩
          have hb4 := hb3.trans (hbx.mono hb3.size)
          refine hK.out _ _ (by exact ⟨Y7.out.step hb4, P7.out.step hb4⟩) (fun hHeld => ?_)
          clear hK K hbx
          try dsimp only
          refine wpAnyH_takesJ (i := 11) (v := (.bool true)) (some 88) rfl rfl (by kernel_rfl) (by kernel_rfl) (by kernel_rfl) (fun _ _ _ h => h) (Or.inl ⟨by rfl, (by intro W9 hSw; clear hSw; go_simp; first | done | with_reducible rfl)⟩) (by assumption) ?_
          simp only [Act.put, List.setIfInBounds_toArray]; try simp only [List.set_cons_zero, List.set_cons_succ]
          refine wpAnyH_takesJ (i := 12) (v := (.bool true)) (some 2) rfl rfl (by kernel_rfl) (by kernel_rfl) (by kernel_rfl) (fun _ _ _ h => h) (Or.inl ⟨by rfl, (by intro W9 hSw; clear hSw; go_simp; first | done | with_reducible rfl)⟩) (by assumption) ?_
          simp only [Act.put, List.setIfInBounds_toArray]; try simp only [List.set_cons_zero, List.set_cons_succ]
          refine wpAnyH_done (by kernel_rfl) ?_ _
          have BE := Lib.hid (held_trans B7.out hb4)
          clear hb1 hb2 hb3 hb4 hHeld
          go_wp2_with fail
          go_ret
          exact ⟨rfl, BE.out⟩

set_option maxRecDepth 100000 in
theorem lifted (os : Os) (started : os.Started) (H : Type) (enc : TypeId × Value → H) :
    ReturnsInHanded {} Tryd.checked os 5 .any (fun w args => (Rows.balanceEndsSpec.pre enc Tryd.prog Tryd.f5 [] false w args ∧ laidMetH Tryd.prog laidList w) ∧ sizedMet enc Tryd.prog Tryd.f5 (OpenSpec.ofChange Rows.balanceEndsSpec) false w args)
      (Rows.balanceEndsSpec.post enc Tryd.prog Tryd.f5 false true false false) := by
  refine returnsInHanded_of_change_and (C := Tryd.checked) (X := fun w _ => laidMetH Tryd.prog laidList w) (fun _ _ _ hh h => h.of_heap hh) own started (by kernel_rfl) Tryd.func5
    (ChangeSpec.witness_shaped (enc := enc) (C := Tryd.checked) (os := os) (X := fun w _ => laidMetH Tryd.prog laidList w) false (World.doorLaid Tryd.prog 14 os) #[.agg #[.slice none 0 0, .int .i64 0, .slice none 0 0, .slice none 0 0, .int .u64 0]] 8 rfl (World.shaped_of_RefB (by kernel_rfl) (by kernel_rfl)) (by kernel_rfl) (by kernel_rfl) (by kernel_rfl) (door_met os _)) ?_
  intro W base args ds gs before hval0 hW _ _ hL _
  have hval : ∀ (j : Nat) t v, Tryd.f5.params[j]? = some t → args[j]? = some v → Value.okWide Tryd.prog W .any base t v := hval0
  have hW' := hW
  obtain ⟨p, q, hA0, hV, rfl, hfz, hnd⟩ := hW
  have hA : DataW.TrodAll enc Tryd.prog W 0 (fun _ => true) true Tryd.f5.params.toList args.toList ds p := hA0
  rw [Tryd.params5] at hA hval
  obtain ⟨v0, vs0, d0, ds0, p0, q0, hargs, rfl, rfl, h0, r0⟩ := trodAll_cons hA
  obtain ⟨rfl, rfl, rfl⟩ := trodAll_nil r0
  obtain rfl : args = #[v0] := by cases args; simp_all
  obtain ⟨rfl, rfl⟩ := trodVars_none hV
  have k0 := h0
  have lt0 : ∀ x ∈ p0, x.block < W.heap.size := by obtain ⟨m, hm⟩ := k0; exact DataW.trod_lt m _ _ _ hm
  obtain ⟨x0, y0, rfl, hr0⟩ := open_runs (hval 0 27 v0 rfl rfl) h0
  clear hA0 hval0
  refine (walk x0 y0 W hr0 (tab_of_laid hL)).mono fun e W' ⟨he, bel⟩ => ?_
  subst he
  exact ⟨_, rfl, _, _, _, [], _, [], hW', trodAll_mk1 (shut_bool Tryd.underlying4 _), (trodAll_cons_mk (Below.trod laidOut (by kernel_rfl) (of_decide_eq_true (by kernel_rfl)) k0 bel lt0) trodAll_mk0), rfl, bel.frame _, fun h => by cases h⟩
theorem over : Rows.BalanceEndsSaid :=
  OpenClaim.holds_of_wide 5 Tryd.f5 rfl rfl rfl rfl rfl rfl rfl ⟨rfl, rfl, rfl, rfl, rfl⟩ rfl rfl rfl rfl rfl (by kernel_rfl) Tryd.func5 (by kernel_rfl)
    (of_decide_eq_true (by kernel_rfl)) (by unfold Func.isWrapper; first | (rw [if_pos (by decide +kernel)]; kernel_rfl) | (rw [if_neg (by decide +kernel)]; exact ⟨rfl, rfl⟩))
    (fun os started H enc _ => lifted os started H enc)
theorem proved : Rows.BalanceEndsCardSaid :=
  Claim7.holds_tied_plain_at .later [] [.data] true Rows.balanceEndsCard.stood.harness false
    over (fun _ h => by cases h) (by kernel_rfl) (fun _ h => by cases h) balanceEnds_row_tie rfl ⟨rfl, rfl⟩ (by kernel_rfl) rfl
    (fun f fn hf hfn => by
      obtain rfl : f = 5 := Option.some.inj ((show Tryd.prog.funcNamed "catafalque/catafalquelaw19.BalanceEnds" = some 5 by kernel_rfl).symm.trans hf) |>.symm
      obtain rfl : fn = Tryd.f5 := (Option.some.inj (Tryd.func5.symm.trans hfn)).symm
      exact ⟨by kernel_rfl, fun j t ht => by
        rw [Tryd.params5] at ht
        have hm : t ∈ [27] := by simpa using Array.mem_of_getElem? ht
        have hall : ([27].all fun u => !Tryd.prog.wantsStandIn u) = true := by kernel_rfl
        exact (show Tryd.prog.wantsStandIn t = false by simpa using List.all_eq_true.1 hall t hm)⟩)
    (by kernel_rfl)
end Go.Proofs.YthbeldmgaioemaaDoor.balanceEnds

