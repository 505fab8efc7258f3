/- StealSome: as far as all a thief is told somebody, just if somebody stands anywhere; who that is stands there no more, and all others still stand; what may be stays so: the call answers true and changes nothing that was there; for every input. (Written by wip/gen/gen_wlaws.py: change that.) -/
import Derived.Test.YtdohnhdjlhaaaaaGreatDoorWShown
import Derived.Test.YtdohnhdjlhaaaaaGreatDoorM7
import Derived.Test.YtdohnhdjlhaaaaaGreatDoorWRefVict
import Derived.Test.YtdohnhdjlhaaaaaGreatDoorJReal
import Derived.Test.YtdohnhdjlhaaaaaGreatDoorJMade
import Derived.Test.YtdohnhdjlhaaaaaGreatDoorJFew
import Derived.Test.YtdohnhdjlhaaaaaGreatDoorJFrame
import Derived.Test.YtdohnhdjlhaaaaaGreatDoorJMayL
import Derived.Test.YtdohnhdjlhaaaaaGreatDoorM5
import Derived.Test.YtdohnhdjlhaaaaaGreatDoorM1
namespace Go.Proofs.YtdohnhdjlhaaaaaGreatDoor.stealSome
open Go.ChangeShapes Go.WideShapes Go.ChangeAt Go.RowKit
set_option linter.unusedVariables false

theorem mod_nat (m : Nat) {z : Int} (h : 0 ≤ z) (hm : 0 < m) : ∃ r : Nat, z.tmod (m : Int) = (r : Int) ∧ z % (m : Int) = (r : Int) ∧ r < m := by
  obtain ⟨n, rfl⟩ := Int.eq_ofNat_of_zero_le h
  exact ⟨n % m, by rw [Int.tmod_eq_emod_of_nonneg h]; rfl, rfl, Nat.mod_lt _ hm⟩
theorem yes_of {P : Prop} (h : P) : true = true ↔ P := ⟨fun _ => h, fun _ => rfl⟩
theorem bag_row (A B : Option Addr) (n m c d : Nat) (a b : List Int) (w : World) (hp : a.Perm b) (h : Row w A n c a) (hB : Row w B m d b) (hm : m ≤ 1000000) :
    Calls Tryz.prog 22 #[.slice A n c, .slice B m d] w fun e w' => e = .returned (.bool true) ∧ Below w.heap.size w w' := by
  have h1 := h.len
  have h2 := hB.len
  have h3 := hp.length_eq
  obtain rfl : n = m := by omega
  exact bag_any A B n c d a b w (Lib.hid hp) h hB (by omega)
theorem step_append_row_g {w : World} {ops : Array Oper} {o : Oper} {a : Act} {K : Act → World → Prop} {Q : Exit → Act → World → Prop} {E : Prop} (s x : Operand)
    (ho : o.op = .call { callee := .builtin .append, args := #[s, x], argTypes := #[42, 42] })
    (hw : Region.wanted o (yielded ops a.tmps) = true)
    (base : Nat) (v : Value) (n : Nat) (xs : List Int) (hs : a.eval s = v) (hown : w.ownsRow base 3 1 v n (xs.map (Value.int .i64)))
    (A : Option Addr) (m c : Nat) (zs : List Int) (hx : a.eval x = .slice A m c) (h : Row w A m c zs) (hb : n + m ≤ 1000000) (hbase : base ≤ w.heap.size)
    (hK : ∀ v' w', w'.ownsRow base 3 1 v' (n + m) ((xs ++ zs).map (Value.int .i64)) → w.grownBy w' v.ownBlock → K (a.put o.dst v') w') :
    if Region.wanted o (yielded ops a.tmps) = true then Oper.wp Tryz.prog o a w K Q else E := by
  obtain ⟨v', w', hr, h2, h3⟩ := run_append_row w o.type base v n xs hown A m c zs h hb hbase
  rw [if_pos hw]
  unfold Oper.wp
  simp [execOp, ho, resolve, invoke, builtin, hs, hx, hr, Result.andThen]
  exact hK v' w' h2 h3
set_option maxRecDepth 100000 in
set_option maxHeartbeats 8000000 in
theorem walk (d : Ad) (r : Jp.Rn) (p f : Int) (w : World) (h : RMI (fun b => b < w.heap.size) w d r) (hp : In64 p) (hu : (Lit.int .u8 f).wf = true) (hT : Tab w) :
    Calls Tryz.prog 4 #[jv d r, .int .i64 p, .int .u8 f] w fun e w' => e = .returned (.bool true) ∧ Below w.heap.size w w' := by
  have hz' : 0 ≤ f ∧ f ≤ 255 := by simpa [Lit.wf, IntKind.min, IntKind.max, IntKind.signed, IntKind.bits] using hu
  obtain ⟨u0, u1⟩ := hz'
  obtain ⟨s, m1, m2, hs⟩ := mod_nat 4 u0 (by omega)
  have m1 : f.tmod 4 = (s : Int) := m1
  have m2 : f % 4 = (s : Int) := m2
  have s1 : IntKind.i64.wrap (s : Int) = (s : Int) := IntWalk.i64_in _ (by omega)
  clear hu
  have HIN := Lib.hid h.2
  have HR := Lib.hid h.1
  have HTW := Lib.hid hT
  obtain ⟨A0, nt, ct, R, nr, cr, S, ns, cs⟩ := d
  obtain ⟨V, hV, hX, hB⟩ := B5.start w (.slice A0 nt ct) (.int .i64 r.size) (.slice R nr cr) (.slice S ns cs) (.int .u64 (r.on : Nat)) 27
  have E := Lib.hid hV
  have X0 := Lib.hid hX
  have B0 := Lib.hid hB
  have SH := Lib.hid (wshown_any V (hT.step hB))
  clear h hT hV hX hB
  unfold jv
  go_enter Tryz.func4, Tryz.ntmps4
  go_wp2_with (rw [← E.out])
  clear E
  refine SH.out.mono ?_
  rintro e w1 ⟨rfl, hb1⟩
  have X1 := Lib.hid (X0.out.step hb1)
  have B1 := Lib.hid (held_trans B0.out hb1)
  have p0 := X1.out.c0
  have p1 := X1.out.c1
  have p2 := X1.out.c2
  have p3 := X1.out.c3
  have p4 := X1.out.c4
  have hFW := fun T HT => few_any ⟨A0, nt, ct, R, nr, cr, S, ns, cs⟩ r T w1 HT (HR.out.below B1.out) HIN.out
  unfold jv at hFW
  simp only at hFW
  have FW := Lib.hid hFW
  clear hb1 SH X0 B0 hFW
  go_wp2_with fail
  by_cases hfew : ¬ FewP r
  · refine (FW.out false (Lib.hid (by simp [hfew]))).mono ?_
    rintro e w2 ⟨rfl, hb2⟩
    have BE := Lib.hid (held_trans B1.out hb2)
    go_wp2_with fail
    go_ret
    exact ⟨rfl, BE.out⟩
  have hfew := Classical.not_not.1 hfew
  have HFEW := Lib.hid hfew
  refine (FW.out true (Lib.hid (by simp [hfew]))).mono ?_
  rintro e w2a ⟨rfl, hb2⟩
  have X2a := Lib.hid (X1.out.step hb2)
  have B2a := Lib.hid (held_trans B1.out hb2)
  have p0 := X2a.out.c0
  have p1 := X2a.out.c1
  have p2 := X2a.out.c2
  have p3 := X2a.out.c3
  have p4 := X2a.out.c4
  obtain ⟨Tb, hTb⟩ : ∃ Tb : Bool, (Tb = true ↔ Jp.Thief r p) := by
    by_cases h : Jp.Thief r p
    · exact ⟨true, by simp [h]⟩
    · exact ⟨false, by simp [h]⟩
  have HTB := Lib.hid hTb
  have hMY := refThief_any ⟨A0, nt, ct, R, nr, cr, S, ns, cs⟩ r p Tb w2a HTB (HR.out.below B2a.out) HFEW.out.low
  unfold jv at hMY
  simp only at hMY
  have MY := Lib.hid hMY
  clear hb2 FW X1 B1 hfew hMY hTb
  go_wp2_with fail
  refine MY.out.mono ?_
  rintro e w2 ⟨rfl, hb2⟩
  have X2 := Lib.hid (X2a.out.step hb2)
  have B2 := Lib.hid (held_trans B2a.out hb2)
  have p0 := X2.out.c0
  have p1 := X2.out.c1
  have p2 := X2.out.c2
  have p3 := X2.out.c3
  have p4 := X2.out.c4
  clear hb2 MY X2a B2a
  cases Tb
  · have BE := B2
    go_wp2_with fail
    go_ret
    exact ⟨rfl, BE.out⟩
  have HTF := Lib.hid (HTB.out.1 rfl)
  clear HTB
  have hMD := jmade_any ⟨A0, nt, ct, R, nr, cr, S, ns, cs⟩ r w2 (HR.out.below B2.out) (fun b hb => Nat.lt_of_lt_of_le hb B2.out.size) HFEW.out.low
  unfold jv at hMD
  simp only at hMD
  have MD := Lib.hid hMD
  clear hMD
  go_wp2_with fail
  refine MD.out.mono ?_
  rintro e w3 ⟨⟨A1, nt1, ct1, R1, nr1, cr1, S1, ns1, cs1⟩, rfl, hm3, hb3⟩
  unfold jv
  simp only
  have hbn := below_new w3 (.cells #[.slice A1 nt1 ct1, .int .i64 r.size, .slice R1 nr1 cr1, .slice S1 ns1 cs1, .int .u64 (r.on : Nat)] 33)
  have hY := B5.new w3 (.slice A1 nt1 ct1) (.int .i64 r.size) (.slice R1 nr1 cr1) (.slice S1 ns1 cs1) (.int .u64 (r.on : Nat)) 33
  obtain ⟨V4, hV4⟩ : ∃ V4, V4 = w3.alloc (.cells #[.slice A1 nt1 ct1, .int .i64 r.size, .slice R1 nr1 cr1, .slice S1 ns1 cs1, .int .u64 (r.on : Nat)] 33) := ⟨_, rfl⟩
  rw [← hV4] at hbn hY
  have E4 := Lib.hid hV4
  have B4 := Lib.hid (held_trans (held_trans B2.out hb3) hbn)
  have P4 := Lib.hid ((X2.out.step hb3).step hbn)
  have Y4 := Lib.hid hY
  have M4 := Lib.hid (show RM (fun b => b < w3.heap.size) V4 ⟨A1, nt1, ct1, R1, nr1, cr1, S1, ns1, cs1⟩ r from (hm3.bound.mono (fun b hb => hb.2)).below hbn)
  have HX4 := Lib.hid (show w3.heap.size < V4.heap.size from hY.lt)
  have HWX := Lib.hid (show w.heap.size ≤ w3.heap.size from (held_trans B2.out hb3).size)
  clear hm3 hb3 hbn hY hV4 MD X2 B2 p0 p1 p2 p3 p4
  have YX4 := Y4
  have MX4 := M4
  have BW4 := B4
  have HLW := Lib.hid HFEW.out.low
  clear P4 Y4 M4 B4
  obtain ⟨k, hpk, hk⟩ := Jp.thief_lt HTF.out
  subst hpk
  have HK := Lib.hid hk
  obtain ⟨lo, hlo⟩ : ∃ lo, lo = Jp.stealOn r k 3 := ⟨_, rfl⟩
  have HLO := Lib.hid hlo
  clear hlo hk
  obtain ⟨l, hl⟩ : ∃ l, l = Jp.stealOn r k (s : Int) := ⟨_, rfl⟩
  have HL := Lib.hid hl
  have HLA := Lib.hid (show Low l.1 from by rw [hl, ← Jp.steal_on HTF.out]; exact low_steal HLW.out k (s : Int))
  clear hl
  have hcc := stealSteal_any ⟨A1, nt1, ct1, R1, nr1, cr1, S1, ns1, cs1⟩ r k 3 V4 MX4.out (fun b hb => Nat.lt_trans hb YX4.out.lt) HLW.out hp ⟨by decide, by decide⟩ (HTW.out.step BW4.out)
  rw [Jp.steal_on HTF.out, ← HLO.out] at hcc
  unfold jv at hcc
  simp only at hcc
  have C5 := Lib.hid hcc
  clear hcc
  have t0 := YX4.out.c0
  have t1 := YX4.out.c1
  have t2 := YX4.out.c2
  have t3 := YX4.out.c3
  have t4 := YX4.out.c4
  go_wp2_with (rw [← E4.out])
  clear E4
  refine C5.out.mono ?_
  rintro e u5 ⟨⟨T5, nt5, ct5, R5, nr5, cr5, S5, ns5, cs5⟩, rfl, hm, hb⟩
  unfold jv
  simp only
  have hbn := below_new u5 (.cells #[.slice T5 nt5 ct5, .int .i64 lo.1.size, .slice R5 nr5 cr5, .slice S5 ns5 cs5, .int .u64 (lo.1.on : Nat)] 33)
  have hY := B5.new u5 (.slice T5 nt5 ct5) (.int .i64 lo.1.size) (.slice R5 nr5 cr5) (.slice S5 ns5 cs5) (.int .u64 (lo.1.on : Nat)) 33
  obtain ⟨V5, hV⟩ : ∃ V5, V5 = u5.alloc (.cells #[.slice T5 nt5 ct5, .int .i64 lo.1.size, .slice R5 nr5 cr5, .slice S5 ns5 cs5, .int .u64 (lo.1.on : Nat)] 33) := ⟨_, rfl⟩
  rw [← hV] at hbn hY
  have E5 := Lib.hid hV
  have hbj := hb.trans (hbn.mono hb.size)
  have YX5 := Lib.hid (YX4.out.step hbj)
  have MX5 := Lib.hid (MX4.out.below hbj)
  have BW5 := Lib.hid (held_trans BW4.out hbj)
  clear BW4 YX4 MX4 
  have Yz5 := Lib.hid hY
  have Mz5 := Lib.hid ((hm.bound.mono (G := fun b => b < u5.heap.size) (fun b hb => hb.2)).below hbn)
  clear hV hY hbn hm hb hbj C5 t0 t1 t2 t3 t4
  clear Yz5 Mz5
  have hcc := stealSteal_any ⟨A1, nt1, ct1, R1, nr1, cr1, S1, ns1, cs1⟩ r k (s : Int) V5 MX5.out (fun b hb => Nat.lt_trans hb YX5.out.lt) HLW.out hp ⟨by omega, by omega⟩ (HTW.out.step BW5.out)
  rw [Jp.steal_on HTF.out, ← HL.out] at hcc
  unfold jv at hcc
  simp only at hcc
  have C6 := Lib.hid hcc
  clear hcc
  have t0 := YX5.out.c0
  have t1 := YX5.out.c1
  have t2 := YX5.out.c2
  have t3 := YX5.out.c3
  have t4 := YX5.out.c4
  go_wp2_with (rw [← E5.out])
  clear E5
  refine C6.out.mono ?_
  rintro e u6 ⟨⟨T6, nt6, ct6, R6, nr6, cr6, S6, ns6, cs6⟩, rfl, hm, hb⟩
  unfold jv
  simp only
  have hbn := below_new u6 (.cells #[.slice T6 nt6 ct6, .int .i64 l.1.size, .slice R6 nr6 cr6, .slice S6 ns6 cs6, .int .u64 (l.1.on : Nat)] 33)
  have hY := B5.new u6 (.slice T6 nt6 ct6) (.int .i64 l.1.size) (.slice R6 nr6 cr6) (.slice S6 ns6 cs6) (.int .u64 (l.1.on : Nat)) 33
  obtain ⟨V6, hV⟩ : ∃ V6, V6 = u6.alloc (.cells #[.slice T6 nt6 ct6, .int .i64 l.1.size, .slice R6 nr6 cr6, .slice S6 ns6 cs6, .int .u64 (l.1.on : Nat)] 33) := ⟨_, rfl⟩
  rw [← hV] at hbn hY
  have E6 := Lib.hid hV
  have hbj := hb.trans (hbn.mono hb.size)
  have YX6 := Lib.hid (YX5.out.step hbj)
  have MX6 := Lib.hid (MX5.out.below hbj)
  have BW6 := Lib.hid (held_trans BW5.out hbj)
  clear BW5 YX5 MX5 
  have Ya6 := Lib.hid hY
  have Ma6 := Lib.hid ((hm.bound.mono (G := fun b => b < u6.heap.size) (fun b hb => hb.2)).below hbn)
  clear hV hY hbn hm hb hbj C6 t0 t1 t2 t3 t4
  have hcc := runsAll_any ⟨A1, nt1, ct1, R1, nr1, cr1, S1, ns1, cs1⟩ r V6 MX6.out HLW.out
  unfold jv at hcc
  simp only at hcc
  have C7 := Lib.hid hcc
  clear hcc
  have t0 := YX6.out.c0
  have t1 := YX6.out.c1
  have t2 := YX6.out.c2
  have t3 := YX6.out.c3
  have t4 := YX6.out.c4
  go_wp2_with (rw [← E6.out])
  clear E6
  refine C7.out.mono ?_
  rintro e V7 ⟨AL, nL, cL, rfl, hra, _, hb⟩
  have YX7 := Lib.hid (YX6.out.step hb)
  have MX7 := Lib.hid (MX6.out.below hb)
  have Ya7 := Lib.hid (Ya6.out.step hb)
  have Ma7 := Lib.hid (Ma6.out.below hb)
  have BW7 := Lib.hid (held_trans BW6.out hb)
  clear BW6 YX6 MX6 Ya6 Ma6 
  have L7 := Lib.hid hra
  clear hra hb C7 t0 t1 t2 t3 t4
  have h3 := Jp.sto HTF.out HK.out 3
  have hs := Jp.sto HTF.out HK.out (s : Int)
  rw [← HLO.out] at h3
  rw [← HL.out] at hs
  have HAS := Lib.hid (h3.all_some HTF.out HK.out (Int.le_refl _))
  have H3P := Lib.hid (h3.pos HTF.out.may)
  have HSP := Lib.hid (hs.pos HTF.out.may)
  have HMA := Lib.hid (hs.may HTF.out HK.out)
  have HPM := Lib.hid (hs.perm HTF.out HK.out)
  have HNS := Lib.hid (show l.2.1 ≠ 0 → lo.2.1 ≠ 0 from fun h => by
    rcases Nat.lt_or_ge s 3 with h3 | h3
    · have := (Jp.near_same (e := (s : Int)) HTF.out HK.out (by omega) (by rw [← HL.out]; exact h)).1
      rw [← HL.out, ← HLO.out] at this
      omega
    · obtain rfl : s = 3 := by omega
      rw [HLO.out]
      rw [HL.out] at h
      exact h)
  have hnl := L7.out.len
  clear h3 hs
  by_cases g0 : lo.2.1 = 0
  · skip
    have hal : Jp.all r = [] := Classical.not_not.1 (fun h => HAS.out.2 h g0)
    rw [hal] at hnl
    obtain rfl : nL = 0 := hnl.symm
    have b1 : (lo.2.1 != 0) = false := by rw [g0]; rfl
    have b2 : (lo.2.1 == 0) = true := by rw [g0]; rfl
    have b3 : (lo.2.2 == -1) = true := by
      rcases H3P.out with ⟨_, h, _⟩ | ⟨h, _⟩
      · rw [h]; rfl
      · omega
    have h0 : l.2.1 = 0 := Classical.not_not.1 (fun h => HNS.out h g0)
    have c1 : (l.2.1 != 0) = false := by rw [h0]; rfl
    have c2 : (l.2.1 == 0) = true := by rw [h0]; rfl
    have hz : l.2.2 = -1 ∧ l.1 = r := by
      rcases HSP.out with ⟨_, h1, h2, _⟩ | ⟨h, _⟩
      · exact ⟨h1, h2⟩
      · omega
    have c3 : (l.2.2 == -1) = true := by rw [hz.1]; rfl
    have EQA := Lib.hid hz.2
    clear hz h0 g0 hal hnl
    have hcc := fun W (hb : Below V7.heap.size V7 W) => runsAll_any ⟨T6, nt6, ct6, R6, nr6, cr6, S6, ns6, cs6⟩ l.1 W (Ma7.out.below hb) HLA.out
    unfold jv at hcc
    simp only at hcc
    have AA := Lib.hid hcc
    clear hcc
    have hcc := fun W (hb : Below V7.heap.size V7 W) => runsAll_any ⟨A1, nt1, ct1, R1, nr1, cr1, S1, ns1, cs1⟩ r W (MX7.out.below hb) HLW.out
    unfold jv at hcc
    simp only at hcc
    have AX := Lib.hid hcc
    clear hcc
    go_wp2_with fail
    refine wp_region_held_drew (S := fun w' => B5 w' w3.heap.size (.slice A1 nt1 ct1) (.int .i64 r.size) (.slice R1 nr1 cr1) (.slice S1 ns1 cs1) (.int .u64 (r.on : Nat)) ∧ B5 w' u6.heap.size (.slice T6 nt6 ct6) (.int .i64 l.1.size) (.slice R6 nr6 cr6) (.slice S6 ns6 cs6) (.int .u64 (l.1.on : Nat))) (by kernel_rfl) ⟨YX7.out.drew, Ya7.out.drew⟩ (fun hHeld => ?_)
    refine wpAnyH_takesJ (i := 0) (v := (.bool true)) (some 71) rfl rfl (by kernel_rfl) (by kernel_rfl) (by kernel_rfl) (fun _ _ _ h => h) (Or.inl ⟨by rfl, (by intro W9 hSw; clear hSw; go_simp; first | done | with_reducible rfl)⟩) (by assumption) ?_
    simp only [Act.put, List.setIfInBounds_toArray]; try simp only [List.set_cons_zero, List.set_cons_succ]
    refine wpAnyH_takesJ (i := 1) (v := (.bool true)) (some 72) rfl rfl (by kernel_rfl) (by kernel_rfl) (by kernel_rfl) (fun _ _ _ h => h) (Or.inl ⟨by rfl, (by intro W9 hSw; clear hSw; go_simp; first | done | with_reducible rfl)⟩) (by assumption) ?_
    simp only [Act.put, List.setIfInBounds_toArray]; try simp only [List.set_cons_zero, List.set_cons_succ]
    refine wpAnyH_takesJ (i := 2) (v := (.int .i64 l.2.2)) (some 73) rfl rfl (by kernel_rfl) (by kernel_rfl) (by kernel_rfl) (fun _ _ _ h => h) (Or.inl ⟨by rfl, (by intro W9 hSw; clear hSw; go_simp; first | done | with_reducible rfl)⟩) (by assumption) ?_
    simp only [Act.put, List.setIfInBounds_toArray]; try simp only [List.set_cons_zero, List.set_cons_succ]
    refine wpAnyH_takesJ (i := 3) (v := (.bool true)) (some 74) rfl rfl (by kernel_rfl) (by kernel_rfl) (by kernel_rfl) (fun _ _ _ h => h) (Or.inl ⟨by rfl, (by intro W9 hSw; clear hSw; go_simp; first | done | with_reducible rfl)⟩) (by assumption) ?_
    simp only [Act.put, List.setIfInBounds_toArray]; try simp only [List.set_cons_zero, List.set_cons_succ]
    refine wpAnyH_takesJ (i := 4) (v := (.bool true)) (some 75) rfl rfl (by kernel_rfl) (by kernel_rfl) (by kernel_rfl) (fun _ _ _ h => h) (Or.inl ⟨by rfl, (by intro W9 hSw; clear hSw; go_simp; first | done | with_reducible rfl)⟩) (by assumption) ?_
    simp only [Act.put, List.setIfInBounds_toArray]; try simp only [List.set_cons_zero, List.set_cons_succ]
    refine wpAnyH_takesJ (i := 5) (v := (.bool true)) (some 76) rfl rfl (by kernel_rfl) (by kernel_rfl) (by kernel_rfl) (fun _ _ _ h => h) (Or.inl ⟨by rfl, (by intro W9 hSw; clear hSw; go_simp; first | done | with_reducible rfl)⟩) (by assumption) ?_
    simp only [Act.put, List.setIfInBounds_toArray]; try simp only [List.set_cons_zero, List.set_cons_succ]
    refine wpAnyH_takesJ (i := 6) (v := (.agg #[.slice T6 nt6 ct6, .int .i64 l.1.size, .slice R6 nr6 cr6, .slice S6 ns6 cs6, .int .u64 (l.1.on : Nat)])) (some 77) rfl rfl (by kernel_rfl) (by kernel_rfl) (by kernel_rfl) (fun _ _ _ h => h) (Or.inl ⟨by rfl, (by intro W9 hSw; have s0 := (hSw.2).c0; have s1 := (hSw.2).c1; have s2 := (hSw.2).c2; have s3 := (hSw.2).c3; have s4 := (hSw.2).c4; clear hSw; go_simp; first | done | with_reducible rfl)⟩) (by assumption) ?_
    simp only [Act.put, List.setIfInBounds_toArray]; try simp only [List.set_cons_zero, List.set_cons_succ]
    refine wpAnyH_takesJ (i := 8) (v := (.agg #[.slice A1 nt1 ct1, .int .i64 r.size, .slice R1 nr1 cr1, .slice S1 ns1 cs1, .int .u64 (r.on : Nat)])) (some 79) rfl rfl (by kernel_rfl) (by kernel_rfl) (by kernel_rfl) (fun _ _ _ h => h) (Or.inl ⟨by rfl, (by intro W9 hSw; have s0 := (hSw.1).c0; have s1 := (hSw.1).c1; have s2 := (hSw.1).c2; have s3 := (hSw.1).c3; have s4 := (hSw.1).c4; clear hSw; go_simp; first | done | with_reducible rfl)⟩) (by assumption) ?_
    simp only [Act.put, List.setIfInBounds_toArray]; try simp only [List.set_cons_zero, List.set_cons_succ]
    refine wpAnyH_ready (rs := [7]) (by kernel_rfl) (by simp) ?_
    refine AllReadyH.cons rfl (fun K hK => ?_) AllReadyH.nil
    go_simp
    go_at_call 20
    refine (AA.out _ (by exact (Below.refl _ _).drew)).mono ?_
    rintro e x1 ⟨Aq, nq, cq, rfl, hrq, _, hbx⟩
    have hb1 := (Below.refl V7.heap.size V7).drew.trans (hbx.mono (by simp))
    have RQ := Lib.hid hrq
    clear hrq
    refine hK.out _ _ (by exact ⟨YX7.out.step hb1, Ya7.out.step hb1⟩) (fun hHeld => ?_)
    clear hK K hbx
    try dsimp only
    refine wpAnyH_ready (rs := [9]) (by kernel_rfl) (by simp) ?_
    refine AllReadyH.cons rfl (fun K hK => ?_) AllReadyH.nil
    go_simp
    go_at_call 20
    refine (AX.out _ (by exact hb1)).mono ?_
    rintro e x2 ⟨Az, nz, cz, rfl, hrz, _, hbx⟩
    have hb2 := hb1.trans (hbx.mono hb1.size)
    have IN := Lib.hid (wints_row Aq Az nq nz cq cz _ _ x2 (by rw [EQA.out]) (RQ.out.below hbx) hrz)
    clear hrz RQ
    refine hK.out _ _ (by exact ⟨YX7.out.step hb2, Ya7.out.step hb2⟩) (fun hHeld => ?_)
    clear hK K hbx
    try dsimp only
    refine wpAnyH_ready (rs := [10]) (by kernel_rfl) (by simp) ?_
    refine AllReadyH.cons rfl (fun K hK => ?_) AllReadyH.nil
    go_simp
    go_at_call 16
    refine (IN.out).mono ?_
    rintro e x3 ⟨rfl, hbx⟩
    have hb3 := hb2.trans (hbx.mono hb2.size)
    refine hK.out _ _ (by exact ⟨YX7.out.step hb3, Ya7.out.step hb3⟩) (fun hHeld => ?_)
    clear hK K hbx
    try dsimp only
    refine wpAnyH_takesJ (i := 11) (v := (.bool true)) (some 82) rfl rfl (by kernel_rfl) (by kernel_rfl) (by kernel_rfl) (fun _ _ _ h => h) (Or.inl ⟨by rfl, (by intro W9 hSw; clear hSw; go_simp; first | done | with_reducible rfl)⟩) (by assumption) ?_
    simp only [Act.put, List.setIfInBounds_toArray]; try simp only [List.set_cons_zero, List.set_cons_succ]
    refine wpAnyH_takesJ (i := 12) (v := (.bool true)) (some 6) rfl rfl (by kernel_rfl) (by kernel_rfl) (by kernel_rfl) (fun _ _ _ h => h) (Or.inl ⟨by rfl, (by intro W9 hSw; clear hSw; go_simp; first | done | with_reducible rfl)⟩) (by assumption) ?_
    simp only [Act.put, List.setIfInBounds_toArray]; try simp only [List.set_cons_zero, List.set_cons_succ]
    refine wpAnyH_done (by kernel_rfl) ?_ _
    have BE := Lib.hid (held_trans BW7.out hb3)
    clear hb1 hb2 hb3
    go_wp2_with fail
    go_ret
    exact ⟨rfl, BE.out⟩
  · skip
    by_cases h0 : l.2.1 = 0
    · skip
      have hal := HAS.out.1 g0
      have b0 : (0 : Int) < (nL : Int) := by have := List.length_pos_iff.2 hal; omega
      have b0' : 0 < nL := by omega
      have b1 : (lo.2.1 != 0) = true := by rw [bne_iff_ne]; exact g0
      have b2 : (lo.2.1 == 0) = false := by rw [beq_eq_false_iff_ne]; exact g0
      have b3 : (lo.2.2 == -1) = false := by
        rw [beq_eq_false_iff_ne]
        rcases H3P.out with ⟨h, _⟩ | ⟨_, h, _⟩
        · exact absurd h g0
        · omega
      have c1 : (l.2.1 != 0) = false := by rw [h0]; rfl
      have c2 : (l.2.1 == 0) = true := by rw [h0]; rfl
      have hz : l.2.2 = -1 ∧ l.1 = r := by
        rcases HSP.out with ⟨_, h1, h2, _⟩ | ⟨h, _⟩
        · exact ⟨h1, h2⟩
        · omega
      have c3 : (l.2.2 == -1) = true := by rw [hz.1]; rfl
      have EQA := Lib.hid hz.2
      clear hz h0 g0 hal hnl
      have hcc := fun W (hb : Below V7.heap.size V7 W) => runsAll_any ⟨T6, nt6, ct6, R6, nr6, cr6, S6, ns6, cs6⟩ l.1 W (Ma7.out.below hb) HLA.out
      unfold jv at hcc
      simp only at hcc
      have AA := Lib.hid hcc
      clear hcc
      have hcc := fun W (hb : Below V7.heap.size V7 W) => runsAll_any ⟨A1, nt1, ct1, R1, nr1, cr1, S1, ns1, cs1⟩ r W (MX7.out.below hb) HLW.out
      unfold jv at hcc
      simp only at hcc
      have AX := Lib.hid hcc
      clear hcc
      go_wp2_with fail
      refine wp_region_held_drew (S := fun w' => B5 w' w3.heap.size (.slice A1 nt1 ct1) (.int .i64 r.size) (.slice R1 nr1 cr1) (.slice S1 ns1 cs1) (.int .u64 (r.on : Nat)) ∧ B5 w' u6.heap.size (.slice T6 nt6 ct6) (.int .i64 l.1.size) (.slice R6 nr6 cr6) (.slice S6 ns6 cs6) (.int .u64 (l.1.on : Nat))) (by kernel_rfl) ⟨YX7.out.drew, Ya7.out.drew⟩ (fun hHeld => ?_)
      refine wpAnyH_takesJ (i := 0) (v := (.bool true)) (some 71) rfl rfl (by kernel_rfl) (by kernel_rfl) (by kernel_rfl) (fun _ _ _ h => h) (Or.inl ⟨by rfl, (by intro W9 hSw; clear hSw; go_simp; first | done | with_reducible rfl)⟩) (by assumption) ?_
      simp only [Act.put, List.setIfInBounds_toArray]; try simp only [List.set_cons_zero, List.set_cons_succ]
      refine wpAnyH_takesJ (i := 1) (v := (.bool true)) (some 72) rfl rfl (by kernel_rfl) (by kernel_rfl) (by kernel_rfl) (fun _ _ _ h => h) (Or.inl ⟨by rfl, (by intro W9 hSw; clear hSw; go_simp; first | done | with_reducible rfl)⟩) (by assumption) ?_
      simp only [Act.put, List.setIfInBounds_toArray]; try simp only [List.set_cons_zero, List.set_cons_succ]
      refine wpAnyH_takesJ (i := 2) (v := (.int .i64 l.2.2)) (some 73) rfl rfl (by kernel_rfl) (by kernel_rfl) (by kernel_rfl) (fun _ _ _ h => h) (Or.inl ⟨by rfl, (by intro W9 hSw; clear hSw; go_simp; first | done | with_reducible rfl)⟩) (by assumption) ?_
      simp only [Act.put, List.setIfInBounds_toArray]; try simp only [List.set_cons_zero, List.set_cons_succ]
      refine wpAnyH_takesJ (i := 3) (v := (.bool true)) (some 74) rfl rfl (by kernel_rfl) (by kernel_rfl) (by kernel_rfl) (fun _ _ _ h => h) (Or.inl ⟨by rfl, (by intro W9 hSw; clear hSw; go_simp; first | done | with_reducible rfl)⟩) (by assumption) ?_
      simp only [Act.put, List.setIfInBounds_toArray]; try simp only [List.set_cons_zero, List.set_cons_succ]
      refine wpAnyH_takesJ (i := 4) (v := (.bool true)) (some 75) rfl rfl (by kernel_rfl) (by kernel_rfl) (by kernel_rfl) (fun _ _ _ h => h) (Or.inl ⟨by rfl, (by intro W9 hSw; clear hSw; go_simp; first | done | with_reducible rfl)⟩) (by assumption) ?_
      simp only [Act.put, List.setIfInBounds_toArray]; try simp only [List.set_cons_zero, List.set_cons_succ]
      refine wpAnyH_takesJ (i := 5) (v := (.bool true)) (some 76) rfl rfl (by kernel_rfl) (by kernel_rfl) (by kernel_rfl) (fun _ _ _ h => h) (Or.inl ⟨by rfl, (by intro W9 hSw; clear hSw; go_simp; first | done | with_reducible rfl)⟩) (by assumption) ?_
      simp only [Act.put, List.setIfInBounds_toArray]; try simp only [List.set_cons_zero, List.set_cons_succ]
      refine wpAnyH_takesJ (i := 6) (v := (.agg #[.slice T6 nt6 ct6, .int .i64 l.1.size, .slice R6 nr6 cr6, .slice S6 ns6 cs6, .int .u64 (l.1.on : Nat)])) (some 77) rfl rfl (by kernel_rfl) (by kernel_rfl) (by kernel_rfl) (fun _ _ _ h => h) (Or.inl ⟨by rfl, (by intro W9 hSw; have s0 := (hSw.2).c0; have s1 := (hSw.2).c1; have s2 := (hSw.2).c2; have s3 := (hSw.2).c3; have s4 := (hSw.2).c4; clear hSw; go_simp; first | done | with_reducible rfl)⟩) (by assumption) ?_
      simp only [Act.put, List.setIfInBounds_toArray]; try simp only [List.set_cons_zero, List.set_cons_succ]
      refine wpAnyH_takesJ (i := 8) (v := (.agg #[.slice A1 nt1 ct1, .int .i64 r.size, .slice R1 nr1 cr1, .slice S1 ns1 cs1, .int .u64 (r.on : Nat)])) (some 79) rfl rfl (by kernel_rfl) (by kernel_rfl) (by kernel_rfl) (fun _ _ _ h => h) (Or.inl ⟨by rfl, (by intro W9 hSw; have s0 := (hSw.1).c0; have s1 := (hSw.1).c1; have s2 := (hSw.1).c2; have s3 := (hSw.1).c3; have s4 := (hSw.1).c4; clear hSw; go_simp; first | done | with_reducible rfl)⟩) (by assumption) ?_
      simp only [Act.put, List.setIfInBounds_toArray]; try simp only [List.set_cons_zero, List.set_cons_succ]
      refine wpAnyH_ready (rs := [7]) (by kernel_rfl) (by simp) ?_
      refine AllReadyH.cons rfl (fun K hK => ?_) AllReadyH.nil
      go_simp
      go_at_call 20
      refine (AA.out _ (by exact (Below.refl _ _).drew)).mono ?_
      rintro e x1 ⟨Aq, nq, cq, rfl, hrq, _, hbx⟩
      have hb1 := (Below.refl V7.heap.size V7).drew.trans (hbx.mono (by simp))
      have RQ := Lib.hid hrq
      clear hrq
      refine hK.out _ _ (by exact ⟨YX7.out.step hb1, Ya7.out.step hb1⟩) (fun hHeld => ?_)
      clear hK K hbx
      try dsimp only
      refine wpAnyH_ready (rs := [9]) (by kernel_rfl) (by simp) ?_
      refine AllReadyH.cons rfl (fun K hK => ?_) AllReadyH.nil
      go_simp
      go_at_call 20
      refine (AX.out _ (by exact hb1)).mono ?_
      rintro e x2 ⟨Az, nz, cz, rfl, hrz, _, hbx⟩
      have hb2 := hb1.trans (hbx.mono hb1.size)
      have IN := Lib.hid (wints_row Aq Az nq nz cq cz _ _ x2 (by rw [EQA.out]) (RQ.out.below hbx) hrz)
      clear hrz RQ
      refine hK.out _ _ (by exact ⟨YX7.out.step hb2, Ya7.out.step hb2⟩) (fun hHeld => ?_)
      clear hK K hbx
      try dsimp only
      refine wpAnyH_ready (rs := [10]) (by kernel_rfl) (by simp) ?_
      refine AllReadyH.cons rfl (fun K hK => ?_) AllReadyH.nil
      go_simp
      go_at_call 16
      refine (IN.out).mono ?_
      rintro e x3 ⟨rfl, hbx⟩
      have hb3 := hb2.trans (hbx.mono hb2.size)
      refine hK.out _ _ (by exact ⟨YX7.out.step hb3, Ya7.out.step hb3⟩) (fun hHeld => ?_)
      clear hK K hbx
      try dsimp only
      refine wpAnyH_takesJ (i := 11) (v := (.bool true)) (some 82) rfl rfl (by kernel_rfl) (by kernel_rfl) (by kernel_rfl) (fun _ _ _ h => h) (Or.inl ⟨by rfl, (by intro W9 hSw; clear hSw; go_simp; first | done | with_reducible rfl)⟩) (by assumption) ?_
      simp only [Act.put, List.setIfInBounds_toArray]; try simp only [List.set_cons_zero, List.set_cons_succ]
      refine wpAnyH_takesJ (i := 12) (v := (.bool true)) (some 6) rfl rfl (by kernel_rfl) (by kernel_rfl) (by kernel_rfl) (fun _ _ _ h => h) (Or.inl ⟨by rfl, (by intro W9 hSw; clear hSw; go_simp; first | done | with_reducible rfl)⟩) (by assumption) ?_
      simp only [Act.put, List.setIfInBounds_toArray]; try simp only [List.set_cons_zero, List.set_cons_succ]
      refine wpAnyH_done (by kernel_rfl) ?_ _
      have BE := Lib.hid (held_trans BW7.out hb3)
      clear hb1 hb2 hb3
      go_wp2_with fail
      go_ret
      exact ⟨rfl, BE.out⟩
    · skip
      have hal := HAS.out.1 g0
      have b0 : (0 : Int) < (nL : Int) := by have := List.length_pos_iff.2 hal; omega
      have b0' : 0 < nL := by omega
      have b1 : (lo.2.1 != 0) = true := by rw [bne_iff_ne]; exact g0
      have b2 : (lo.2.1 == 0) = false := by rw [beq_eq_false_iff_ne]; exact g0
      have b3 : (lo.2.2 == -1) = false := by
        rw [beq_eq_false_iff_ne]
        rcases H3P.out with ⟨h, _⟩ | ⟨_, h, _⟩
        · exact absurd h g0
        · omega
      have c1 : (l.2.1 != 0) = true := by rw [bne_iff_ne]; exact h0
      have c2 : (l.2.1 == 0) = false := by rw [beq_eq_false_iff_ne]; exact h0
      have hz : 1 ≤ l.2.2 ∧ l.2.2 ≤ (s : Int) := by
        rcases HSP.out with ⟨h, _⟩ | ⟨_, h⟩
        · exact absurd h h0
        · exact h
      obtain ⟨c3, c4⟩ := hz
      have FPM := Lib.hid (HPM.out h0)
      clear h0 g0 hal hnl
      have hcc := fun W (hb : Below V7.heap.size V7 W) => runsMay_any ⟨T6, nt6, ct6, R6, nr6, cr6, S6, ns6, cs6⟩ l.1 true W (Lib.hid (yes_of HMA.out)) (Ma7.out.below hb) HLA.out (HTW.out.step (held_trans BW7.out hb))
      unfold jv at hcc
      simp only at hcc
      have MYA := Lib.hid hcc
      clear hcc
      have hcc := fun W (hb : Below V7.heap.size V7 W) => runsAll_any ⟨T6, nt6, ct6, R6, nr6, cr6, S6, ns6, cs6⟩ l.1 W (Ma7.out.below hb) HLA.out
      unfold jv at hcc
      simp only at hcc
      have AA := Lib.hid hcc
      clear hcc
      have hcc := fun W (hb : Below V7.heap.size V7 W) => runsAll_any ⟨A1, nt1, ct1, R1, nr1, cr1, S1, ns1, cs1⟩ r W (MX7.out.below hb) HLW.out
      unfold jv at hcc
      simp only at hcc
      have AX := Lib.hid hcc
      clear hcc
      go_wp2_with fail
      refine wp_region_held_drew (S := fun w' => B5 w' w3.heap.size (.slice A1 nt1 ct1) (.int .i64 r.size) (.slice R1 nr1 cr1) (.slice S1 ns1 cs1) (.int .u64 (r.on : Nat)) ∧ B5 w' u6.heap.size (.slice T6 nt6 ct6) (.int .i64 l.1.size) (.slice R6 nr6 cr6) (.slice S6 ns6 cs6) (.int .u64 (l.1.on : Nat))) (by kernel_rfl) ⟨YX7.out.drew, Ya7.out.drew⟩ (fun hHeld => ?_)
      refine wpAnyH_takesJ (i := 0) (v := (.bool true)) (some 83) rfl rfl (by kernel_rfl) (by kernel_rfl) (by kernel_rfl) (fun _ _ _ h => h) (Or.inl ⟨by rfl, (by intro W9 hSw; clear hSw; go_simp; first | done | with_reducible rfl)⟩) (by assumption) ?_
      simp only [Act.put, List.setIfInBounds_toArray]; try simp only [List.set_cons_zero, List.set_cons_succ]
      refine wpAnyH_takesJ (i := 1) (v := (.bool true)) (some 84) rfl rfl (by kernel_rfl) (by kernel_rfl) (by kernel_rfl) (fun _ _ _ h => h) (Or.inl ⟨by rfl, (by intro W9 hSw; clear hSw; go_simp; first | done | with_reducible rfl)⟩) (by assumption) ?_
      simp only [Act.put, List.setIfInBounds_toArray]; try simp only [List.set_cons_zero, List.set_cons_succ]
      refine wpAnyH_takesJ (i := 2) (v := (.int .i64 l.2.2)) (some 85) rfl rfl (by kernel_rfl) (by kernel_rfl) (by kernel_rfl) (fun _ _ _ h => h) (Or.inl ⟨by rfl, (by intro W9 hSw; clear hSw; go_simp; first | done | with_reducible rfl)⟩) (by assumption) ?_
      simp only [Act.put, List.setIfInBounds_toArray]; try simp only [List.set_cons_zero, List.set_cons_succ]
      refine wpAnyH_takesJ (i := 3) (v := (.bool true)) (some 86) rfl rfl (by kernel_rfl) (by kernel_rfl) (by kernel_rfl) (fun _ _ _ h => h) (Or.inl ⟨by rfl, (by intro W9 hSw; clear hSw; go_simp; first | done | with_reducible rfl)⟩) (by assumption) ?_
      simp only [Act.put, List.setIfInBounds_toArray]; try simp only [List.set_cons_zero, List.set_cons_succ]
      refine wpAnyH_takesJ (i := 4) (v := (.bool true)) (some 87) rfl rfl (by kernel_rfl) (by kernel_rfl) (by kernel_rfl) (fun _ _ _ h => h) (Or.inl ⟨by rfl, (by intro W9 hSw; clear hSw; go_simp; first | done | with_reducible rfl)⟩) (by assumption) ?_
      simp only [Act.put, List.setIfInBounds_toArray]; try simp only [List.set_cons_zero, List.set_cons_succ]
      refine wpAnyH_takesJ (i := 5) (v := (.bool true)) (some 88) rfl rfl (by kernel_rfl) (by kernel_rfl) (by kernel_rfl) (fun _ _ _ h => h) (Or.inl ⟨by rfl, (by intro W9 hSw; clear hSw; go_simp; first | done | with_reducible rfl)⟩) (by assumption) ?_
      simp only [Act.put, List.setIfInBounds_toArray]; try simp only [List.set_cons_zero, List.set_cons_succ]
      refine wpAnyH_takesJ (i := 6) (v := (.int .i64 l.2.2)) (some 89) rfl rfl (by kernel_rfl) (by kernel_rfl) (by kernel_rfl) (fun _ _ _ h => h) (Or.inl ⟨by rfl, (by intro W9 hSw; clear hSw; go_simp; first | done | with_reducible rfl)⟩) (by assumption) ?_
      simp only [Act.put, List.setIfInBounds_toArray]; try simp only [List.set_cons_zero, List.set_cons_succ]
      refine wpAnyH_takesJ (i := 7) (v := (.int .u8 f)) (some 90) rfl rfl (by kernel_rfl) (by kernel_rfl) (by kernel_rfl) (fun _ _ _ h => h) (Or.inl ⟨by rfl, (by intro W9 hSw; clear hSw; go_simp; first | done | with_reducible rfl)⟩) (by assumption) ?_
      simp only [Act.put, List.setIfInBounds_toArray]; try simp only [List.set_cons_zero, List.set_cons_succ]
      refine wpAnyH_takesJ (i := 8) (v := (.int .u8 (s : Nat))) (some 91) rfl rfl (by kernel_rfl) (by kernel_rfl) (by kernel_rfl) (fun _ _ _ h => h) (Or.inl ⟨by rfl, (by intro W9 hSw; clear hSw; go_simp; first | done | with_reducible rfl)⟩) (by assumption) ?_
      simp only [Act.put, List.setIfInBounds_toArray]; try simp only [List.set_cons_zero, List.set_cons_succ]
      refine wpAnyH_takesJ (i := 9) (v := (.int .i64 (s : Nat))) (some 92) rfl rfl (by kernel_rfl) (by kernel_rfl) (by kernel_rfl) (fun _ _ _ h => h) (Or.inl ⟨by rfl, (by intro W9 hSw; clear hSw; go_simp; first | done | with_reducible rfl)⟩) (by assumption) ?_
      simp only [Act.put, List.setIfInBounds_toArray]; try simp only [List.set_cons_zero, List.set_cons_succ]
      refine wpAnyH_takesJ (i := 10) (v := (.bool true)) (some 93) rfl rfl (by kernel_rfl) (by kernel_rfl) (by kernel_rfl) (fun _ _ _ h => h) (Or.inl ⟨by rfl, (by intro W9 hSw; clear hSw; go_simp; first | done | with_reducible rfl)⟩) (by assumption) ?_
      simp only [Act.put, List.setIfInBounds_toArray]; try simp only [List.set_cons_zero, List.set_cons_succ]
      refine wpAnyH_takesJ (i := 11) (v := (.bool true)) (some 94) rfl rfl (by kernel_rfl) (by kernel_rfl) (by kernel_rfl) (fun _ _ _ h => h) (Or.inl ⟨by rfl, (by intro W9 hSw; clear hSw; go_simp; first | done | with_reducible rfl)⟩) (by assumption) ?_
      simp only [Act.put, List.setIfInBounds_toArray]; try simp only [List.set_cons_zero, List.set_cons_succ]
      refine wpAnyH_takesJ (i := 12) (v := (.bool true)) (some 95) rfl rfl (by kernel_rfl) (by kernel_rfl) (by kernel_rfl) (fun _ _ _ h => h) (Or.inl ⟨by rfl, (by intro W9 hSw; clear hSw; go_simp; first | done | with_reducible rfl)⟩) (by assumption) ?_
      simp only [Act.put, List.setIfInBounds_toArray]; try simp only [List.set_cons_zero, List.set_cons_succ]
      refine wpAnyH_takesJ (i := 13) (v := (.agg #[.slice T6 nt6 ct6, .int .i64 l.1.size, .slice R6 nr6 cr6, .slice S6 ns6 cs6, .int .u64 (l.1.on : Nat)])) (some 96) rfl rfl (by kernel_rfl) (by kernel_rfl) (by kernel_rfl) (fun _ _ _ h => h) (Or.inl ⟨by rfl, (by intro W9 hSw; have s0 := (hSw.2).c0; have s1 := (hSw.2).c1; have s2 := (hSw.2).c2; have s3 := (hSw.2).c3; have s4 := (hSw.2).c4; clear hSw; go_simp; first | done | with_reducible rfl)⟩) (by assumption) ?_
      simp only [Act.put, List.setIfInBounds_toArray]; try simp only [List.set_cons_zero, List.set_cons_succ]
      refine wpAnyH_ready (rs := [14]) (by kernel_rfl) (by simp) ?_
      refine AllReadyH.cons rfl (fun K hK => ?_) AllReadyH.nil
      go_simp
      go_at_call 21
      refine (MYA.out _ (by exact (Below.refl _ _).drew)).mono ?_
      rintro e x1 ⟨rfl, hbx⟩
      have hb1 := (Below.refl V7.heap.size V7).drew.trans (hbx.mono (by simp))
      refine hK.out _ _ (by exact ⟨YX7.out.step hb1, Ya7.out.step hb1⟩) (fun hHeld => ?_)
      clear hK K hbx
      try dsimp only
      refine wpAnyH_takesJ (i := 15) (v := (.bool true)) (some 98) rfl rfl (by kernel_rfl) (by kernel_rfl) (by kernel_rfl) (fun _ _ _ h => h) (Or.inl ⟨by rfl, (by intro W9 hSw; clear hSw; go_simp; first | done | with_reducible rfl)⟩) (by assumption) ?_
      simp only [Act.put, List.setIfInBounds_toArray]; try simp only [List.set_cons_zero, List.set_cons_succ]
      refine wpAnyH_takesJ (i := 16) (v := (.bool true)) (some 99) rfl rfl (by kernel_rfl) (by kernel_rfl) (by kernel_rfl) (fun _ _ _ h => h) (Or.inl ⟨by rfl, (by intro W9 hSw; clear hSw; go_simp; first | done | with_reducible rfl)⟩) (by assumption) ?_
      simp only [Act.put, List.setIfInBounds_toArray]; try simp only [List.set_cons_zero, List.set_cons_succ]
      refine wpAnyH_takesJ (i := 17) (v := (.int .i64 l.2.1)) (some 100) rfl rfl (by kernel_rfl) (by kernel_rfl) (by kernel_rfl) (fun _ _ _ h => h) (Or.inl ⟨by rfl, (by intro W9 hSw; clear hSw; go_simp; first | done | with_reducible rfl)⟩) (by assumption) ?_
      simp only [Act.put, List.setIfInBounds_toArray]; try simp only [List.set_cons_zero, List.set_cons_succ]
      refine wpAnyH_takesJ (i := 19) (v := (.agg #[.slice T6 nt6 ct6, .int .i64 l.1.size, .slice R6 nr6 cr6, .slice S6 ns6 cs6, .int .u64 (l.1.on : Nat)])) (some 102) rfl rfl (by kernel_rfl) (by kernel_rfl) (by kernel_rfl) (fun _ _ _ h => h) (Or.inl ⟨by rfl, (by intro W9 hSw; have s0 := (hSw.2).c0; have s1 := (hSw.2).c1; have s2 := (hSw.2).c2; have s3 := (hSw.2).c3; have s4 := (hSw.2).c4; clear hSw; go_simp; first | done | with_reducible rfl)⟩) (by assumption) ?_
      simp only [Act.put, List.setIfInBounds_toArray]; try simp only [List.set_cons_zero, List.set_cons_succ]
      refine wpAnyH_takesJ (i := 22) (v := (.agg #[.slice A1 nt1 ct1, .int .i64 r.size, .slice R1 nr1 cr1, .slice S1 ns1 cs1, .int .u64 (r.on : Nat)])) (some 105) rfl rfl (by kernel_rfl) (by kernel_rfl) (by kernel_rfl) (fun _ _ _ h => h) (Or.inl ⟨by rfl, (by intro W9 hSw; have s0 := (hSw.1).c0; have s1 := (hSw.1).c1; have s2 := (hSw.1).c2; have s3 := (hSw.1).c3; have s4 := (hSw.1).c4; clear hSw; go_simp; first | done | with_reducible rfl)⟩) (by assumption) ?_
      simp only [Act.put, List.setIfInBounds_toArray]; try simp only [List.set_cons_zero, List.set_cons_succ]
      refine wpAnyH_ready (rs := [18, 20]) (by kernel_rfl) (by simp) ?_
      refine AllReadyH.cons rfl (fun K hK => ?_) (AllReadyH.cons rfl (fun K hK => ?_) AllReadyH.nil)
      · skip
        go_simp
        have hbl := below_new x1 (.cells #[.int .i64 l.2.1] 3)
        have OL := Lib.hid (own_lit x1 [l.2.1] V7.heap.size hb1.size (by simp))
        have hb2 := hb1.trans (hbl.mono hb1.size)
        obtain ⟨LB, hLB⟩ : ∃ LB, LB = x1.heap.size := ⟨_, rfl⟩
        obtain ⟨x2, hx⟩ : ∃ x2, x2 = x1.alloc (.cells #[.int .i64 l.2.1] 3) := ⟨_, rfl⟩
        simp only [List.map_cons, List.map_nil, List.length_cons, List.length_nil] at OL
        rw [← hx] at hb2 hbl ⊢
        rw [show (#[Value.int .i64 l.2.1] : Array Value) = [Value.int .i64 l.2.1].toArray from rfl] at hx
        rw [← hx, ← hLB] at OL
        try rw [← hLB]
        clear hx hLB hbl
        refine hK.out _ _ (by exact ⟨YX7.out.step hb2, Ya7.out.step hb2⟩) (fun hHeld => ?_)
        clear hK K
        try dsimp only
        refine wpAnyH_ready (rs := [20]) (by kernel_rfl) (by simp) ?_
        refine AllReadyH.cons rfl (fun K hK => ?_) AllReadyH.nil
        go_simp
        go_at_call 20
        refine (AA.out _ (by exact hb2)).mono ?_
        rintro e x3 ⟨Aq, nq, cq, rfl, hrq, _, hbx⟩
        have hb3 := hb2.trans (hbx.mono hb2.size)
        have OL2 := Lib.hid (own_below OL.out hbx)
        have RQ := Lib.hid hrq
        clear hrq OL
        refine hK.out _ _ (by exact ⟨YX7.out.step hb3, Ya7.out.step hb3⟩) (fun hHeld => ?_)
        clear hK K hbx
        try dsimp only
        refine wpAnyH_ready (rs := [21]) (by kernel_rfl) (by simp) ?_
        refine AllReadyH.cons rfl (fun K hK => ?_) AllReadyH.nil
        refine step_append_row_g (.tmp 101) (.tmp 103) rfl (by simp [Region.wanted, yielded]) V7.heap.size _ 1 [l.2.1] rfl OL2.out Aq nq cq (Jp.all l.1) rfl RQ.out (by have h7 := RQ.out.len; have h8 := all_le HLA.out; omega) hb3.size ?_
        intro vb x4 hob hgb
        have hb4 := hb3.grown hgb hb3.size (fun q e => (OL2.out.lt q e).1)
        obtain ⟨Ab, cb, rfl, hrb⟩ := Row.of_own hob
        have RB := Lib.hid hrb
        clear hob hgb hrb
        refine hK.out _ _ (by exact ⟨YX7.out.step hb4, Ya7.out.step hb4⟩) (fun hHeld => ?_)
        clear hK K
        try dsimp only
        refine wpAnyH_ready (rs := [23]) (by kernel_rfl) (by simp) ?_
        refine AllReadyH.cons rfl (fun K hK => ?_) AllReadyH.nil
        go_simp
        go_at_call 20
        refine (AX.out _ (by exact hb4)).mono ?_
        rintro e x5 ⟨Az, nz, cz, rfl, hrz, _, hbx⟩
        have hb5 := hb4.trans (hbx.mono hb4.size)
        have BG := Lib.hid (bag_row Ab Az _ nz cb cz _ _ x5 FPM.out (RB.out.below hbx) hrz (by have h7 := hrz.len; have h8 := all_le HLW.out; omega))
        clear hrz
        refine hK.out _ _ (by exact ⟨YX7.out.step hb5, Ya7.out.step hb5⟩) (fun hHeld => ?_)
        clear hK K hbx
        try dsimp only
        refine wpAnyH_ready (rs := [24]) (by kernel_rfl) (by simp) ?_
        refine AllReadyH.cons rfl (fun K hK => ?_) AllReadyH.nil
        go_simp
        go_at_call 22
        refine (BG.out).mono ?_
        rintro e x6 ⟨rfl, hbx⟩
        have hb6 := hb5.trans (hbx.mono hb5.size)
        refine hK.out _ _ (by exact ⟨YX7.out.step hb6, Ya7.out.step hb6⟩) (fun hHeld => ?_)
        clear hK K hbx
        try dsimp only
        refine wpAnyH_takesJ (i := 25) (v := (.bool true)) (some 108) rfl rfl (by kernel_rfl) (by kernel_rfl) (by kernel_rfl) (fun _ _ _ h => h) (Or.inl ⟨by rfl, (by intro W9 hSw; clear hSw; go_simp; first | done | with_reducible rfl)⟩) (by assumption) ?_
        simp only [Act.put, List.setIfInBounds_toArray]; try simp only [List.set_cons_zero, List.set_cons_succ]
        refine wpAnyH_takesJ (i := 26) (v := (.bool true)) (some 6) rfl rfl (by kernel_rfl) (by kernel_rfl) (by kernel_rfl) (fun _ _ _ h => h) (Or.inl ⟨by rfl, (by intro W9 hSw; clear hSw; go_simp; first | done | with_reducible rfl)⟩) (by assumption) ?_
        simp only [Act.put, List.setIfInBounds_toArray]; try simp only [List.set_cons_zero, List.set_cons_succ]
        refine wpAnyH_done (by kernel_rfl) ?_ _
        have BE := Lib.hid (held_trans BW7.out hb6)
        clear hb1 hb2 hb3 hb4 hb5 hb6
        go_wp2_with fail
        go_ret
        exact ⟨rfl, BE.out⟩
      · skip
        go_simp
        go_at_call 20
        refine (AA.out _ (by exact hb1)).mono ?_
        rintro e x2 ⟨Aq, nq, cq, rfl, hrq, _, hbx⟩
        have hb2 := hb1.trans (hbx.mono hb1.size)
        have RQ := Lib.hid hrq
        clear hrq
        refine hK.out _ _ (by exact ⟨YX7.out.step hb2, Ya7.out.step hb2⟩) (fun hHeld => ?_)
        clear hK K hbx
        try dsimp only
        refine wpAnyH_ready (rs := [18]) (by kernel_rfl) (by simp) ?_
        refine AllReadyH.cons rfl (fun K hK => ?_) AllReadyH.nil
        go_simp
        have hbl := below_new x2 (.cells #[.int .i64 l.2.1] 3)
        have OL := Lib.hid (own_lit x2 [l.2.1] V7.heap.size hb2.size (by simp))
        have hb3 := hb2.trans (hbl.mono hb2.size)
        obtain ⟨LB, hLB⟩ : ∃ LB, LB = x2.heap.size := ⟨_, rfl⟩
        obtain ⟨x3, hx⟩ : ∃ x3, x3 = x2.alloc (.cells #[.int .i64 l.2.1] 3) := ⟨_, rfl⟩
        simp only [List.map_cons, List.map_nil, List.length_cons, List.length_nil] at OL
        rw [← hx] at hb3 hbl ⊢
        rw [show (#[Value.int .i64 l.2.1] : Array Value) = [Value.int .i64 l.2.1].toArray from rfl] at hx
        rw [← hx, ← hLB] at OL
        try rw [← hLB]
        have RQ2 := Lib.hid (RQ.out.below hbl)
        clear hx hLB hbl
        refine hK.out _ _ (by exact ⟨YX7.out.step hb3, Ya7.out.step hb3⟩) (fun hHeld => ?_)
        clear hK K
        try dsimp only
        refine wpAnyH_ready (rs := [21]) (by kernel_rfl) (by simp) ?_
        refine AllReadyH.cons rfl (fun K hK => ?_) AllReadyH.nil
        refine step_append_row_g (.tmp 101) (.tmp 103) rfl (by simp [Region.wanted, yielded]) V7.heap.size _ 1 [l.2.1] rfl OL.out Aq nq cq (Jp.all l.1) rfl RQ2.out (by have h7 := RQ2.out.len; have h8 := all_le HLA.out; omega) hb3.size ?_
        intro vb x4 hob hgb
        have hb4 := hb3.grown hgb hb3.size (fun q e => (OL.out.lt q e).1)
        obtain ⟨Ab, cb, rfl, hrb⟩ := Row.of_own hob
        have RB := Lib.hid hrb
        clear hob hgb hrb
        refine hK.out _ _ (by exact ⟨YX7.out.step hb4, Ya7.out.step hb4⟩) (fun hHeld => ?_)
        clear hK K
        try dsimp only
        refine wpAnyH_ready (rs := [23]) (by kernel_rfl) (by simp) ?_
        refine AllReadyH.cons rfl (fun K hK => ?_) AllReadyH.nil
        go_simp
        go_at_call 20
        refine (AX.out _ (by exact hb4)).mono ?_
        rintro e x5 ⟨Az, nz, cz, rfl, hrz, _, hbx⟩
        have hb5 := hb4.trans (hbx.mono hb4.size)
        have BG := Lib.hid (bag_row Ab Az _ nz cb cz _ _ x5 FPM.out (RB.out.below hbx) hrz (by have h7 := hrz.len; have h8 := all_le HLW.out; omega))
        clear hrz
        refine hK.out _ _ (by exact ⟨YX7.out.step hb5, Ya7.out.step hb5⟩) (fun hHeld => ?_)
        clear hK K hbx
        try dsimp only
        refine wpAnyH_ready (rs := [24]) (by kernel_rfl) (by simp) ?_
        refine AllReadyH.cons rfl (fun K hK => ?_) AllReadyH.nil
        go_simp
        go_at_call 22
        refine (BG.out).mono ?_
        rintro e x6 ⟨rfl, hbx⟩
        have hb6 := hb5.trans (hbx.mono hb5.size)
        refine hK.out _ _ (by exact ⟨YX7.out.step hb6, Ya7.out.step hb6⟩) (fun hHeld => ?_)
        clear hK K hbx
        try dsimp only
        refine wpAnyH_takesJ (i := 25) (v := (.bool true)) (some 108) rfl rfl (by kernel_rfl) (by kernel_rfl) (by kernel_rfl) (fun _ _ _ h => h) (Or.inl ⟨by rfl, (by intro W9 hSw; clear hSw; go_simp; first | done | with_reducible rfl)⟩) (by assumption) ?_
        simp only [Act.put, List.setIfInBounds_toArray]; try simp only [List.set_cons_zero, List.set_cons_succ]
        refine wpAnyH_takesJ (i := 26) (v := (.bool true)) (some 6) rfl rfl (by kernel_rfl) (by kernel_rfl) (by kernel_rfl) (fun _ _ _ h => h) (Or.inl ⟨by rfl, (by intro W9 hSw; clear hSw; go_simp; first | done | with_reducible rfl)⟩) (by assumption) ?_
        simp only [Act.put, List.setIfInBounds_toArray]; try simp only [List.set_cons_zero, List.set_cons_succ]
        refine wpAnyH_done (by kernel_rfl) ?_ _
        have BE := Lib.hid (held_trans BW7.out hb6)
        clear hb1 hb2 hb3 hb4 hb5 hb6
        go_wp2_with fail
        go_ret
        exact ⟨rfl, BE.out⟩
set_option maxRecDepth 100000 in
theorem lifted (os : Os) (started : os.Started) (H : Type) (enc : TypeId × Value → H) :
    ReturnsInHanded {} Tryz.checked os 4 .any (fun w args => (Rows.stealSomeSpec.pre enc Tryz.prog Tryz.f4 [] false w args ∧ laidMetH Tryz.prog laidList w) ∧ sizedMet enc Tryz.prog Tryz.f4 (OpenSpec.ofChange Rows.stealSomeSpec) false w args)
      (Rows.stealSomeSpec.post enc Tryz.prog Tryz.f4 false true false false) := by
  refine returnsInHanded_of_change_and (C := Tryz.checked) (X := fun w _ => laidMetH Tryz.prog laidList w) (fun _ _ _ hh h => h.of_heap hh) own started (by kernel_rfl) Tryz.func4
    (ChangeSpec.witness_shaped (enc := enc) (C := Tryz.checked) (os := os) (X := fun w _ => laidMetH Tryz.prog laidList w) false (World.doorLaid Tryz.prog 14 os) #[.agg #[.slice none 0 0, .int .i64 0, .slice none 0 0, .slice none 0 0, .int .u64 0], .int .i64 0, .int .u8 0] 8 rfl (World.shaped_of_RefB (by kernel_rfl) (by kernel_rfl)) (by kernel_rfl) (by kernel_rfl) (by kernel_rfl) (door_met os _)) ?_
  intro W base args ds gs before hval0 hW _ _ hL _
  have hval : ∀ (j : Nat) t v, Tryz.f4.params[j]? = some t → args[j]? = some v → Value.okWide Tryz.prog W .any base t v := hval0
  have hW' := hW
  obtain ⟨p, q, hA0, hV, rfl, hfz, hnd⟩ := hW
  have hA : DataW.TrodAll enc Tryz.prog W 0 (fun _ => true) true Tryz.f4.params.toList args.toList ds p := hA0
  rw [Tryz.params4] at hA hval
  obtain ⟨v0, vs0, d0, ds0, p0, q0, hargs, rfl, rfl, h0, r0⟩ := trodAll_cons hA
  obtain ⟨v1, vs1, d1, ds1, p1, q1, rfl, rfl, rfl, h1, r1⟩ := trodAll_cons r0
  obtain ⟨v2, vs2, d2, ds2, p2, q2, rfl, rfl, rfl, h2, r2⟩ := trodAll_cons r1
  obtain ⟨rfl, rfl, rfl⟩ := trodAll_nil r2
  obtain rfl : args = #[v0, v1, v2] := by cases args; simp_all
  obtain ⟨rfl, rfl⟩ := trodVars_none hV
  have k0 := h0
  have lt0 : ∀ x ∈ p0, x.block < W.heap.size := by obtain ⟨m, hm⟩ := k0; exact DataW.trod_lt m _ _ _ hm
  obtain ⟨x0, y0, rfl, hr0⟩ := open_runs (hval 0 27 v0 rfl rfl) h0
  obtain ⟨a1, rfl, rfl, rfl, w1⟩ := open_int Tryz.underlying3 (hval 1 3 v1 rfl rfl) h1
  obtain ⟨a2, rfl, rfl, rfl, w2⟩ := open_int Tryz.underlying5 (hval 2 5 v2 rfl rfl) h2
  clear hA0 hval0
  refine (walk x0 y0 a1 a2 W hr0 (in64_of_wf w1) w2 (tab_of_laid hL)).mono fun e W' ⟨he, bel⟩ => ?_
  subst he
  exact ⟨_, rfl, _, _, _, [], _, [], hW', trodAll_mk1 (shut_bool Tryz.underlying4 _), (trodAll_cons_mk (Below.trod laidOut (by kernel_rfl) (of_decide_eq_true (by kernel_rfl)) k0 bel lt0) (trodAll_cons_mk (shut_int Tryz.underlying3 w1) (trodAll_cons_mk (shut_int Tryz.underlying5 w2) trodAll_mk0))), rfl, bel.frame _, fun h => by cases h⟩
theorem over : Rows.StealSomeSaid :=
  OpenClaim.holds_of_wide 4 Tryz.f4 rfl rfl rfl rfl rfl rfl rfl ⟨rfl, rfl, rfl, rfl, rfl⟩ rfl rfl rfl rfl rfl (by kernel_rfl) Tryz.func4 (by kernel_rfl)
    (of_decide_eq_true (by kernel_rfl)) (by unfold Func.isWrapper; first | (rw [if_pos (by decide +kernel)]; kernel_rfl) | (rw [if_neg (by decide +kernel)]; exact ⟨rfl, rfl⟩))
    (fun os started H enc _ => lifted os started H enc)
theorem proved : Rows.StealSomeCardSaid :=
  Claim7.holds_tied_plain_at .later [] [.data] true Rows.stealSomeCard.stood.harness false
    over (fun _ h => by cases h) (by kernel_rfl) (fun _ h => by cases h) stealSome_row_tie rfl ⟨rfl, rfl⟩ (by kernel_rfl) rfl
    (fun f fn hf hfn => by
      obtain rfl : f = 4 := Option.some.inj ((show Tryz.prog.funcNamed "catafalque/catafalquelaw17.StealSome" = some 4 by kernel_rfl).symm.trans hf) |>.symm
      obtain rfl : fn = Tryz.f4 := (Option.some.inj (Tryz.func4.symm.trans hfn)).symm
      exact ⟨by kernel_rfl, fun j t ht => by
        rw [Tryz.params4] at ht
        have hm : t ∈ [27, 3, 5] := by simpa using Array.mem_of_getElem? ht
        have hall : ([27, 3, 5].all fun u => !Tryz.prog.wantsStandIn u) = true := by kernel_rfl
        exact (show Tryz.prog.wantsStandIn t = false by simpa using List.all_eq_true.1 hall t hm)⟩)
    (by kernel_rfl)
end Go.Proofs.YtdohnhdjlhaaaaaGreatDoor.stealSome

