/- BoxTells: any mailbox that may be sent to, or received from, is the document's; so is whether any one may be; handed in it stays as it was: the call answers true and changes nothing that was there; for every input. -/
import Derived.Test.YtjpnfjiccckaiaaOShown
import Derived.Test.YtjpnfjiccckaiaaOFrame
import Derived.Test.YtjpnfjiccckaiaaOReal
import Derived.Test.YtjpnfjiccckaiaaORefMay
import Derived.Test.YtjpnfjiccckaiaaOMay
import Derived.Test.YtjpnfjiccckaiaaOSame
import Derived.Test.YtjpnfjiccckaiaaORefRcb
namespace Go.Proofs.Ytjpnfjiccckaiaa.boxTells
open Go.ChangeShapes Go.WideShapes Go.ChangeAt Go.RowKit
open Mp (Bo)
set_option linter.unusedVariables false

theorem snd_len (b : Bo) (g n : Int) : (Mp.snd b g n).1.send.length ≤ b.send.length + 1 := by
  obtain ⟨room, msgs, send, recv⟩ := b
  unfold Mp.snd
  cases recv with
  | cons z t => simp
  | nil => simp only; split <;> simp
theorem rcv_len (b : Bo) (g : Int) : (Mp.rcv b g).1.send.length ≤ b.send.length + 1 := by
  obtain ⟨room, msgs, send, recv⟩ := b
  unfold Mp.rcv
  cases msgs <;> cases send <;> simp <;> omega
set_option maxRecDepth 100000 in
set_option maxHeartbeats 4000000 in
theorem walk (x : Bo) (A : Option Addr) (n1 c1 : Nat) (B : Option Addr) (n2 c2 : Nat) (C : Option Addr) (n3 c3 : Nat) (g n : Int) (w : World) (h : Tri w A n1 c1 B n2 c2 C n3 c3 x) :
    Calls Try.prog 3 #[.agg #[.int .i64 x.room, .slice A n1 c1, .slice B n2 c2, .slice C n3 c3], .int .i64 g, .int .i64 n] w fun e w' => e = .returned (.bool true) ∧ Below w.heap.size w w' := by
  have H := Lib.hid h
  have hP := Q4.new w (.int .i64 x.room) (.slice A n1 c1) (.slice B n2 c2) (.slice C n3 c3) 26
  have B0 := below_new w (.cells #[.int .i64 x.room, .slice A n1 c1, .slice B n2 c2, .slice C n3 c3] 26)
  have HP0 := Lib.hid hP
  have HB0 := Lib.hid (Bl.mk B0)
  clear h hP B0
  go_enter Try.func3, Try.ntmps3
  go_wp2_with fail
  refine (shown_any _).mono ?_
  rintro e w1 ⟨rfl, hb1⟩
  have HP := Lib.hid (HP0.out.step hb1)
  have HB := Lib.hid (HB0.out.step hb1)
  clear hb1 HP0 HB0
  have p0 := HP.out.c0
  have p1 := HP.out.c1
  have p2 := HP.out.c2
  have p3 := HP.out.c3
  go_wp2_with fail
  refine (few_any x.room A B C n1 n2 n3 c1 c2 c3 _).mono ?_
  rintro e w2 ⟨rfl, hb2⟩
  replace HP := Lib.hid (HP.out.step hb2)
  replace HB := Lib.hid (HB.out.step hb2)
  clear hb2 p0 p1 p2 p3
  have p0 := HP.out.c0
  have p1 := HP.out.c1
  have p2 := HP.out.c2
  have p3 := HP.out.c3
  by_cases hf : n1 ≤ 100 ∧ n2 ≤ 100 ∧ n3 ≤ 100
  · rw [decide_eq_true hf]
    obtain ⟨f1, f2, f3⟩ := hf
    go_wp2_with fail
    refine (made_any x A B C n1 n2 n3 c1 c2 c3 _ (H.out.step HB.out.b) (by omega) (by omega) (by omega)).mono ?_
    rintro e w4 ⟨bv, rfl, P1, q1, d1, P2, q2, d2, P3, q3, d3, rfl, ht, _, _, _, hb4⟩
    obtain rfl : n1 = q1 := by have h8 := ht.m.len; have h9 := H.out.m.len; omega
    obtain rfl : n2 = q2 := by have h8 := ht.s.len; have h9 := H.out.s.len; omega
    obtain rfl : n3 = q3 := by have h8 := ht.r.len; have h9 := H.out.r.len; omega
    have hb' := below_then hb4 (.cells #[.int .i64 x.room, .slice P1 n1 d1, .slice P2 n2 d2, .slice P3 n3 d3] 31)
    have IX := Lib.hid (BI.new 31 ht)
    replace HP := Lib.hid (HP.out.step hb')
    replace HB := Lib.hid (HB.out.step hb')
    clear hb4 hb' p0 p1 p2 p3 ht
    go_wp2_with fail
    generalize w4.alloc (.cells #[.int .i64 x.room, .slice P1 n1 d1, .slice P2 n2 d2, .slice P3 n3 d3] 31) = U at *
    have hb : Below U.heap.size U U.drew := (Below.refl _ _).drew
    refine wp_region_held_drew (S := fun W => Q4 W w4.heap.size (.int .i64 x.room) (.slice P1 n1 d1) (.slice P2 n2 d2) (.slice P3 n3 d3) ∧ Q4 W w.heap.size (.int .i64 x.room) (.slice A n1 c1) (.slice B n2 c2) (.slice C n3 c3)) (by kernel_rfl) ⟨IX.out.cel.drew, HP.out.drew⟩ (fun hHeld => ?_)
    replace IX := Lib.hid (IX.out.step hb)
    replace HP := Lib.hid (HP.out.step hb)
    replace HB := Lib.hid (HB.out.step hb)
    clear hb
    generalize U.drew = V at *
    obtain ⟨mb, hmb⟩ : ∃ mb, mb = decide (Mp.May x) := ⟨_, rfl⟩
    have hne : (mb != mb) = false := by simp
    refine wpAnyH_takes (i := 0) (v := (.agg #[.int .i64 x.room, .slice P1 n1 d1, .slice P2 n2 d2, .slice P3 n3 d3])) (some 30) rfl rfl (by kernel_rfl) (by kernel_rfl) (by kernel_rfl) (fun _ _ _ h => h) (Or.inl ⟨by rfl, (by intro W9 hSw; have s0_0 := hSw.1.c0; have s0_1 := hSw.1.c1; have s0_2 := hSw.1.c2; have s0_3 := hSw.1.c3; have s1_0 := hSw.2.c0; have s1_1 := hSw.2.c1; have s1_2 := hSw.2.c2; have s1_3 := hSw.2.c3; clear hSw; go_simp; first | done | with_reducible rfl)⟩) (by assumption) ?_
    simp only [Act.put, List.setIfInBounds_toArray]
    try simp only [List.set_cons_zero, List.set_cons_succ]
    refine wpAnyH_takes (i := 2) (v := (.agg #[.int .i64 x.room, .slice A n1 c1, .slice B n2 c2, .slice C n3 c3])) (some 32) rfl rfl (by kernel_rfl) (by kernel_rfl) (by kernel_rfl) (fun _ _ _ h => h) (Or.inl ⟨by rfl, (by intro W9 hSw; have s0_0 := hSw.1.c0; have s0_1 := hSw.1.c1; have s0_2 := hSw.1.c2; have s0_3 := hSw.1.c3; have s1_0 := hSw.2.c0; have s1_1 := hSw.2.c1; have s1_2 := hSw.2.c2; have s1_3 := hSw.2.c3; clear hSw; go_simp; first | done | with_reducible rfl)⟩) (by assumption) ?_
    simp only [Act.put, List.setIfInBounds_toArray]
    try simp only [List.set_cons_zero, List.set_cons_succ]
    refine wpAnyH_ready (rs := [1]) (by kernel_rfl) (by simp) ?_
    refine AllReadyH.cons rfl (fun K hK => ?_) AllReadyH.nil
    go_simp
    go_at_call_of 11 (Value.slice P1 n1 d1)
    refine (may_any x P1 P2 P3 n1 n2 n3 d1 d2 d3 _ IX.out.tri (by omega) (by omega) (by omega)).mono ?_
    rintro e v1 ⟨rfl, hb⟩
    rw [← hmb]
    refine hK.out _ _ ⟨hHeld.1.step hb, hHeld.2.step hb⟩ (fun hHeld => ?_)
    clear hK K
    try dsimp only
    replace IX := Lib.hid (IX.out.step hb)
    replace HP := Lib.hid (HP.out.step hb)
    replace HB := Lib.hid (HB.out.step hb)
    clear hb
    refine wpAnyH_ready (rs := [3]) (by kernel_rfl) (by simp) ?_
    refine AllReadyH.cons rfl (fun K hK => ?_) AllReadyH.nil
    go_simp
    go_at_call_of 12 (Value.slice A n1 c1)
    refine (refMay_any x A B C n1 n2 n3 c1 c2 c3 _ (H.out.step HB.out.b) (by omega) (by omega)).mono ?_
    rintro e v2 ⟨rfl, hb⟩
    rw [← hmb]
    refine hK.out _ _ ⟨hHeld.1.step hb, hHeld.2.step hb⟩ (fun hHeld => ?_)
    clear hK K
    try dsimp only
    replace IX := Lib.hid (IX.out.step hb)
    replace HP := Lib.hid (HP.out.step hb)
    replace HB := Lib.hid (HB.out.step hb)
    clear hb
    refine wpAnyH_takes (i := 4) (v := (.bool false)) (some 34) rfl rfl (by kernel_rfl) (by kernel_rfl) (by kernel_rfl) (fun _ _ _ h => h) (Or.inl ⟨by rfl, (by intro W9 hSw; clear hSw; go_simp; first | done | with_reducible rfl)⟩) (by assumption) ?_
    simp only [Act.put, List.setIfInBounds_toArray]
    try simp only [List.set_cons_zero, List.set_cons_succ]
    refine wpAnyH_done (by kernel_rfl) ?_ _
    clear hHeld hne
    have p0 := HP.out.c0
    have p1 := HP.out.c1
    have p2 := HP.out.c2
    have p3 := HP.out.c3
    go_wp2_with fail
    refine (refMay_any x A B C n1 n2 n3 c1 c2 c3 _ (H.out.step HB.out.b) (by omega) (by omega)).mono ?_
    rintro e w5 ⟨rfl, hb⟩
    replace IX := Lib.hid (IX.out.step hb)
    replace HP := Lib.hid (HP.out.step hb)
    replace HB := Lib.hid (HB.out.step hb)
    clear hb p0 p1 p2 p3
    clear hmb
    by_cases hm : Mp.May x
    · rw [decide_eq_true hm]
      clear hm
      have x0 := IX.out.cel.c0
      have x1 := IX.out.cel.c1
      have x2 := IX.out.cel.c2
      have x3 := IX.out.cel.c3
      go_wp2_with fail
      refine (send_any x P1 P2 P3 n1 n2 n3 d1 d2 d3 g n _ IX.out.tri (by omega) (by omega) (by omega)).mono ?_
      rintro e w6 ⟨bv, rfl, C1, i1, j1, C2, i2, j2, C3, i3, j3, rfl, ht, _, _, _, hb⟩
      obtain ⟨⟨y, sv, sb⟩, hE⟩ : ∃ r, Mp.snd x g n = r := ⟨_, rfl⟩
      rw [hE] at ht ⊢
      dsimp only at ht ⊢
      have hb' := below_then hb (.cells #[.int .i64 y.room, .slice C1 i1 j1, .slice C2 i2 j2, .slice C3 i3 j3] 31)
      have IC := Lib.hid (BI.new 31 ht)
      replace IX := Lib.hid (IX.out.step hb')
      replace HP := Lib.hid (HP.out.step hb')
      replace HB := Lib.hid (HB.out.step hb')
      clear hb hb' ht x0 x1 x2 x3
      have p0 := HP.out.c0
      have p1 := HP.out.c1
      have p2 := HP.out.c2
      have p3 := HP.out.c3
      go_wp2_with fail
      refine (refSend_any x A B C n1 n2 n3 c1 c2 c3 g n _ (H.out.step HB.out.b) (by omega) (by omega)).mono ?_
      rintro e w7 ⟨bv, rfl, D1, u1, l1, D2, u2, l2, D3, u3, l3, rfl, ht, _, _, _, hb⟩
      rw [hE] at ht ⊢
      dsimp only at ht ⊢
      obtain rfl : i1 = u1 := by have h8 := ht.m.len; have h9 := IC.out.tri.m.len; omega
      obtain rfl : i2 = u2 := by have h8 := ht.s.len; have h9 := IC.out.tri.s.len; omega
      obtain rfl : i3 = u3 := by have h8 := ht.r.len; have h9 := IC.out.tri.r.len; omega
      have hi2 : i2 ≤ 101 := by
        have h8 := ht.s.len
        have h9 := H.out.s.len
        have h7 : (Mp.snd x g n).1.send.length ≤ x.send.length + 1 := snd_len x g n
        rw [hE] at h7
        dsimp only at h7
        omega
      have hb' := below_then hb (.cells #[.int .i64 y.room, .slice D1 i1 l1, .slice D2 i2 l2, .slice D3 i3 l3] 26)
      have ID := Lib.hid (BI.new 26 ht)
      replace IC := Lib.hid (IC.out.step hb')
      replace IX := Lib.hid (IX.out.step hb')
      replace HP := Lib.hid (HP.out.step hb')
      replace HB := Lib.hid (HB.out.step hb')
      clear hb hb' ht p0 p1 p2 p3 hE
      have x0 := IX.out.cel.c0
      have x1 := IX.out.cel.c1
      have x2 := IX.out.cel.c2
      have x3 := IX.out.cel.c3
      go_wp2_with fail
      refine (recv_any x P1 P2 P3 n1 n2 n3 d1 d2 d3 g _ IX.out.tri (by omega) (by omega) (by omega)).mono ?_
      rintro e w8 ⟨bv, rfl, E1, o1, m1, E2, o2, m2, E3, o3, m3, rfl, ht, _, _, _, hb⟩
      obtain ⟨⟨z, rn, rg, rb⟩, hE⟩ : ∃ r, Mp.rcv x g = r := ⟨_, rfl⟩
      rw [hE] at ht ⊢
      dsimp only at ht ⊢
      have hb' := below_then hb (.cells #[.int .i64 z.room, .slice E1 o1 m1, .slice E2 o2 m2, .slice E3 o3 m3] 31)
      have IE := Lib.hid (BI.new 31 ht)
      replace IC := Lib.hid (IC.out.step hb')
      replace ID := Lib.hid (ID.out.step hb')
      replace IX := Lib.hid (IX.out.step hb')
      replace HP := Lib.hid (HP.out.step hb')
      replace HB := Lib.hid (HB.out.step hb')
      clear hb hb' ht x0 x1 x2 x3
      have p0 := HP.out.c0
      have p1 := HP.out.c1
      have p2 := HP.out.c2
      have p3 := HP.out.c3
      go_wp2_with fail
      refine (refRecv_any x A B C n1 n2 n3 c1 c2 c3 g _ (H.out.step HB.out.b) (by omega) (by omega)).mono ?_
      rintro e w9 ⟨bv, rfl, F1, t1, r1, F2, t2, r2, F3, t3, r3, rfl, ht, _, _, _, hb⟩
      rw [hE] at ht ⊢
      dsimp only at ht ⊢
      obtain rfl : o1 = t1 := by have h8 := ht.m.len; have h9 := IE.out.tri.m.len; omega
      obtain rfl : o2 = t2 := by have h8 := ht.s.len; have h9 := IE.out.tri.s.len; omega
      obtain rfl : o3 = t3 := by have h8 := ht.r.len; have h9 := IE.out.tri.r.len; omega
      have ho2 : o2 ≤ 101 := by
        have h8 := ht.s.len
        have h9 := H.out.s.len
        have h7 : (Mp.rcv x g).1.send.length ≤ x.send.length + 1 := rcv_len x g
        rw [hE] at h7
        dsimp only at h7
        omega
      have hb' := below_then hb (.cells #[.int .i64 z.room, .slice F1 o1 r1, .slice F2 o2 r2, .slice F3 o3 r3] 26)
      have IF := Lib.hid (BI.new 26 ht)
      replace IC := Lib.hid (IC.out.step hb')
      replace ID := Lib.hid (ID.out.step hb')
      replace IE := Lib.hid (IE.out.step hb')
      replace IX := Lib.hid (IX.out.step hb')
      replace HP := Lib.hid (HP.out.step hb')
      replace HB := Lib.hid (HB.out.step hb')
      clear hb hb' ht p0 p1 p2 p3 hE
      go_wp2_with fail
      generalize w9.alloc (.cells #[.int .i64 z.room, .slice F1 o1 r1, .slice F2 o2 r2, .slice F3 o3 r3] 26) = U2 at *
      have hb : Below U2.heap.size U2 U2.drew := (Below.refl _ _).drew
      refine wp_region_held_drew (S := fun W => Q4 W w6.heap.size (.int .i64 y.room) (.slice C1 i1 j1) (.slice C2 i2 j2) (.slice C3 i3 j3) ∧ Q4 W w7.heap.size (.int .i64 y.room) (.slice D1 i1 l1) (.slice D2 i2 l2) (.slice D3 i3 l3) ∧ Q4 W w8.heap.size (.int .i64 z.room) (.slice E1 o1 m1) (.slice E2 o2 m2) (.slice E3 o3 m3) ∧ Q4 W w9.heap.size (.int .i64 z.room) (.slice F1 o1 r1) (.slice F2 o2 r2) (.slice F3 o3 r3) ∧ Q4 W w4.heap.size (.int .i64 x.room) (.slice P1 n1 d1) (.slice P2 n2 d2) (.slice P3 n3 d3) ∧ Q4 W w.heap.size (.int .i64 x.room) (.slice A n1 c1) (.slice B n2 c2) (.slice C n3 c3)) (by kernel_rfl) ⟨IC.out.cel.drew, ID.out.cel.drew, IE.out.cel.drew, IF.out.cel.drew, IX.out.cel.drew, HP.out.drew⟩ (fun hHeld => ?_)
      replace IC := Lib.hid (IC.out.step hb)
      replace ID := Lib.hid (ID.out.step hb)
      replace IE := Lib.hid (IE.out.step hb)
      replace IF := Lib.hid (IF.out.step hb)
      replace IX := Lib.hid (IX.out.step hb)
      replace HP := Lib.hid (HP.out.step hb)
      replace HB := Lib.hid (HB.out.step hb)
      clear hb
      generalize U2.drew = V2 at *
      have q1 : (sv == sv) = true := by simp
      have q2 : (sb == sb) = true := by simp
      have q3 : (rn == rn) = true := by simp
      have q4 : (rg == rg) = true := by simp
      have q5 : (rb == rb) = true := by simp
      refine wpAnyH_takes (i := 0) (v := (.bool true)) (some 71) rfl rfl (by kernel_rfl) (by kernel_rfl) (by kernel_rfl) (fun _ _ _ h => h) (Or.inl ⟨by rfl, (by intro W9 hSw; clear hSw; go_simp; first | done | with_reducible rfl)⟩) (by assumption) ?_
      simp only [Act.put, List.setIfInBounds_toArray]
      try simp only [List.set_cons_zero, List.set_cons_succ]
      refine wpAnyH_takes (i := 1) (v := (.bool true)) (some 72) rfl rfl (by kernel_rfl) (by kernel_rfl) (by kernel_rfl) (fun _ _ _ h => h) (Or.inl ⟨by rfl, (by intro W9 hSw; clear hSw; go_simp; first | done | with_reducible rfl)⟩) (by assumption) ?_
      simp only [Act.put, List.setIfInBounds_toArray]
      try simp only [List.set_cons_zero, List.set_cons_succ]
      refine wpAnyH_takes (i := 2) (v := (.agg #[.int .i64 y.room, .slice C1 i1 j1, .slice C2 i2 j2, .slice C3 i3 j3])) (some 73) rfl rfl (by kernel_rfl) (by kernel_rfl) (by kernel_rfl) (fun _ _ _ h => h) (Or.inl ⟨by rfl, (by intro W9 hSw; have s0_0 := hSw.1.c0; have s0_1 := hSw.1.c1; have s0_2 := hSw.1.c2; have s0_3 := hSw.1.c3; have s1_0 := hSw.2.1.c0; have s1_1 := hSw.2.1.c1; have s1_2 := hSw.2.1.c2; have s1_3 := hSw.2.1.c3; have s2_0 := hSw.2.2.1.c0; have s2_1 := hSw.2.2.1.c1; have s2_2 := hSw.2.2.1.c2; have s2_3 := hSw.2.2.1.c3; have s3_0 := hSw.2.2.2.1.c0; have s3_1 := hSw.2.2.2.1.c1; have s3_2 := hSw.2.2.2.1.c2; have s3_3 := hSw.2.2.2.1.c3; have s4_0 := hSw.2.2.2.2.1.c0; have s4_1 := hSw.2.2.2.2.1.c1; have s4_2 := hSw.2.2.2.2.1.c2; have s4_3 := hSw.2.2.2.2.1.c3; have s5_0 := hSw.2.2.2.2.2.c0; have s5_1 := hSw.2.2.2.2.2.c1; have s5_2 := hSw.2.2.2.2.2.c2; have s5_3 := hSw.2.2.2.2.2.c3; clear hSw; go_simp; first | done | with_reducible rfl)⟩) (by assumption) ?_
      simp only [Act.put, List.setIfInBounds_toArray]
      try simp only [List.set_cons_zero, List.set_cons_succ]
      refine wpAnyH_takes (i := 4) (v := (.agg #[.int .i64 y.room, .slice D1 i1 l1, .slice D2 i2 l2, .slice D3 i3 l3])) (some 75) rfl rfl (by kernel_rfl) (by kernel_rfl) (by kernel_rfl) (fun _ _ _ h => h) (Or.inl ⟨by rfl, (by intro W9 hSw; have s0_0 := hSw.1.c0; have s0_1 := hSw.1.c1; have s0_2 := hSw.1.c2; have s0_3 := hSw.1.c3; have s1_0 := hSw.2.1.c0; have s1_1 := hSw.2.1.c1; have s1_2 := hSw.2.1.c2; have s1_3 := hSw.2.1.c3; have s2_0 := hSw.2.2.1.c0; have s2_1 := hSw.2.2.1.c1; have s2_2 := hSw.2.2.1.c2; have s2_3 := hSw.2.2.1.c3; have s3_0 := hSw.2.2.2.1.c0; have s3_1 := hSw.2.2.2.1.c1; have s3_2 := hSw.2.2.2.1.c2; have s3_3 := hSw.2.2.2.1.c3; have s4_0 := hSw.2.2.2.2.1.c0; have s4_1 := hSw.2.2.2.2.1.c1; have s4_2 := hSw.2.2.2.2.1.c2; have s4_3 := hSw.2.2.2.2.1.c3; have s5_0 := hSw.2.2.2.2.2.c0; have s5_1 := hSw.2.2.2.2.2.c1; have s5_2 := hSw.2.2.2.2.2.c2; have s5_3 := hSw.2.2.2.2.2.c3; clear hSw; go_simp; first | done | with_reducible rfl)⟩) (by assumption) ?_
      simp only [Act.put, List.setIfInBounds_toArray]
      try simp only [List.set_cons_zero, List.set_cons_succ]
      refine wpAnyH_ready (rs := [3]) (by kernel_rfl) (by simp) ?_
      refine AllReadyH.cons rfl (fun K hK => ?_) AllReadyH.nil
      go_simp
      go_at_call_of 18 (Value.slice C1 i1 j1)
      refine (real_any y C1 C2 C3 i1 i2 i3 j1 j2 j3 _ IC.out.tri (by omega)).mono ?_
      rintro e v1 ⟨bv, rfl, G1, g1, k1, G2, g2, k2, G3, g3, k3, rfl, ht, _, _, _, hb⟩
      obtain rfl : i1 = g1 := by have h8 := ht.m.len; have h9 := IC.out.tri.m.len; omega
      obtain rfl : i2 = g2 := by have h8 := ht.s.len; have h9 := IC.out.tri.s.len; omega
      obtain rfl : i3 = g3 := by have h8 := ht.r.len; have h9 := IC.out.tri.r.len; omega
      have HT := Lib.hid ht
      clear ht
      refine hK.out _ _ ⟨hHeld.1.step hb, hHeld.2.1.step hb, hHeld.2.2.1.step hb, hHeld.2.2.2.1.step hb, hHeld.2.2.2.2.1.step hb, hHeld.2.2.2.2.2.step hb⟩ (fun hHeld => ?_)
      clear hK K
      try dsimp only
      replace IC := Lib.hid (IC.out.step hb)
      replace ID := Lib.hid (ID.out.step hb)
      replace IE := Lib.hid (IE.out.step hb)
      replace IF := Lib.hid (IF.out.step hb)
      replace IX := Lib.hid (IX.out.step hb)
      replace HP := Lib.hid (HP.out.step hb)
      replace HB := Lib.hid (HB.out.step hb)
      clear hb
      refine wpAnyH_ready (rs := [5]) (by kernel_rfl) (by simp) ?_
      refine AllReadyH.cons rfl (fun K hK => ?_) AllReadyH.nil
      go_simp
      go_at_call_of 17 (Value.slice G1 i1 k1)
      refine (same_any y G1 G2 G3 D1 D2 D3 i1 i2 i3 k1 k2 k3 l1 l2 l3 _ HT.out ID.out.tri).mono ?_
      rintro e v2 ⟨rfl, hb⟩
      refine hK.out _ _ ⟨hHeld.1.step hb, hHeld.2.1.step hb, hHeld.2.2.1.step hb, hHeld.2.2.2.1.step hb, hHeld.2.2.2.2.1.step hb, hHeld.2.2.2.2.2.step hb⟩ (fun hHeld => ?_)
      clear hK K
      try dsimp only
      replace IC := Lib.hid (IC.out.step hb)
      replace ID := Lib.hid (ID.out.step hb)
      replace IE := Lib.hid (IE.out.step hb)
      replace IF := Lib.hid (IF.out.step hb)
      replace IX := Lib.hid (IX.out.step hb)
      replace HP := Lib.hid (HP.out.step hb)
      replace HB := Lib.hid (HB.out.step hb)
      clear hb HT
      refine wpAnyH_takes (i := 6) (v := (.bool true)) (some 77) rfl rfl (by kernel_rfl) (by kernel_rfl) (by kernel_rfl) (fun _ _ _ h => h) (Or.inl ⟨by rfl, (by intro W9 hSw; clear hSw; go_simp; first | done | with_reducible rfl)⟩) (by assumption) ?_
      simp only [Act.put, List.setIfInBounds_toArray]
      try simp only [List.set_cons_zero, List.set_cons_succ]
      refine wpAnyH_takes (i := 7) (v := (.bool true)) (some 78) rfl rfl (by kernel_rfl) (by kernel_rfl) (by kernel_rfl) (fun _ _ _ h => h) (Or.inl ⟨by rfl, (by intro W9 hSw; clear hSw; go_simp; first | done | with_reducible rfl)⟩) (by assumption) ?_
      simp only [Act.put, List.setIfInBounds_toArray]
      try simp only [List.set_cons_zero, List.set_cons_succ]
      refine wpAnyH_takes (i := 8) (v := (.int .i64 sv)) (some 79) rfl rfl (by kernel_rfl) (by kernel_rfl) (by kernel_rfl) (fun _ _ _ h => h) (Or.inl ⟨by rfl, (by intro W9 hSw; clear hSw; go_simp; first | done | with_reducible rfl)⟩) (by assumption) ?_
      simp only [Act.put, List.setIfInBounds_toArray]
      try simp only [List.set_cons_zero, List.set_cons_succ]
      refine wpAnyH_takes (i := 9) (v := (.int .i64 sv)) (some 80) rfl rfl (by kernel_rfl) (by kernel_rfl) (by kernel_rfl) (fun _ _ _ h => h) (Or.inl ⟨by rfl, (by intro W9 hSw; clear hSw; go_simp; first | done | with_reducible rfl)⟩) (by assumption) ?_
      simp only [Act.put, List.setIfInBounds_toArray]
      try simp only [List.set_cons_zero, List.set_cons_succ]
      refine wpAnyH_takes (i := 10) (v := (.bool true)) (some 81) rfl rfl (by kernel_rfl) (by kernel_rfl) (by kernel_rfl) (fun _ _ _ h => h) (Or.inl ⟨by rfl, (by intro W9 hSw; clear hSw; go_simp; first | done | with_reducible rfl)⟩) (by assumption) ?_
      simp only [Act.put, List.setIfInBounds_toArray]
      try simp only [List.set_cons_zero, List.set_cons_succ]
      refine wpAnyH_takes (i := 11) (v := (.bool true)) (some 82) rfl rfl (by kernel_rfl) (by kernel_rfl) (by kernel_rfl) (fun _ _ _ h => h) (Or.inl ⟨by rfl, (by intro W9 hSw; clear hSw; go_simp; first | done | with_reducible rfl)⟩) (by assumption) ?_
      simp only [Act.put, List.setIfInBounds_toArray]
      try simp only [List.set_cons_zero, List.set_cons_succ]
      refine wpAnyH_takes (i := 12) (v := (.bool true)) (some 83) rfl rfl (by kernel_rfl) (by kernel_rfl) (by kernel_rfl) (fun _ _ _ h => h) (Or.inl ⟨by rfl, (by intro W9 hSw; clear hSw; go_simp; first | done | with_reducible rfl)⟩) (by assumption) ?_
      simp only [Act.put, List.setIfInBounds_toArray]
      try simp only [List.set_cons_zero, List.set_cons_succ]
      refine wpAnyH_takes (i := 13) (v := (.bool sb)) (some 84) rfl rfl (by kernel_rfl) (by kernel_rfl) (by kernel_rfl) (fun _ _ _ h => h) (Or.inl ⟨by rfl, (by intro W9 hSw; clear hSw; go_simp; first | done | with_reducible rfl)⟩) (by assumption) ?_
      simp only [Act.put, List.setIfInBounds_toArray]
      try simp only [List.set_cons_zero, List.set_cons_succ]
      refine wpAnyH_takes (i := 14) (v := (.bool sb)) (some 85) rfl rfl (by kernel_rfl) (by kernel_rfl) (by kernel_rfl) (fun _ _ _ h => h) (Or.inl ⟨by rfl, (by intro W9 hSw; clear hSw; go_simp; first | done | with_reducible rfl)⟩) (by assumption) ?_
      simp only [Act.put, List.setIfInBounds_toArray]
      try simp only [List.set_cons_zero, List.set_cons_succ]
      refine wpAnyH_takes (i := 15) (v := (.bool true)) (some 86) rfl rfl (by kernel_rfl) (by kernel_rfl) (by kernel_rfl) (fun _ _ _ h => h) (Or.inl ⟨by rfl, (by intro W9 hSw; clear hSw; go_simp; first | done | with_reducible rfl)⟩) (by assumption) ?_
      simp only [Act.put, List.setIfInBounds_toArray]
      try simp only [List.set_cons_zero, List.set_cons_succ]
      refine wpAnyH_takes (i := 16) (v := (.bool true)) (some 87) rfl rfl (by kernel_rfl) (by kernel_rfl) (by kernel_rfl) (fun _ _ _ h => h) (Or.inl ⟨by rfl, (by intro W9 hSw; clear hSw; go_simp; first | done | with_reducible rfl)⟩) (by assumption) ?_
      simp only [Act.put, List.setIfInBounds_toArray]
      try simp only [List.set_cons_zero, List.set_cons_succ]
      refine wpAnyH_takes (i := 17) (v := (.bool true)) (some 88) rfl rfl (by kernel_rfl) (by kernel_rfl) (by kernel_rfl) (fun _ _ _ h => h) (Or.inl ⟨by rfl, (by intro W9 hSw; clear hSw; go_simp; first | done | with_reducible rfl)⟩) (by assumption) ?_
      simp only [Act.put, List.setIfInBounds_toArray]
      try simp only [List.set_cons_zero, List.set_cons_succ]
      refine wpAnyH_takes (i := 18) (v := (.agg #[.int .i64 z.room, .slice E1 o1 m1, .slice E2 o2 m2, .slice E3 o3 m3])) (some 89) rfl rfl (by kernel_rfl) (by kernel_rfl) (by kernel_rfl) (fun _ _ _ h => h) (Or.inl ⟨by rfl, (by intro W9 hSw; have s0_0 := hSw.1.c0; have s0_1 := hSw.1.c1; have s0_2 := hSw.1.c2; have s0_3 := hSw.1.c3; have s1_0 := hSw.2.1.c0; have s1_1 := hSw.2.1.c1; have s1_2 := hSw.2.1.c2; have s1_3 := hSw.2.1.c3; have s2_0 := hSw.2.2.1.c0; have s2_1 := hSw.2.2.1.c1; have s2_2 := hSw.2.2.1.c2; have s2_3 := hSw.2.2.1.c3; have s3_0 := hSw.2.2.2.1.c0; have s3_1 := hSw.2.2.2.1.c1; have s3_2 := hSw.2.2.2.1.c2; have s3_3 := hSw.2.2.2.1.c3; have s4_0 := hSw.2.2.2.2.1.c0; have s4_1 := hSw.2.2.2.2.1.c1; have s4_2 := hSw.2.2.2.2.1.c2; have s4_3 := hSw.2.2.2.2.1.c3; have s5_0 := hSw.2.2.2.2.2.c0; have s5_1 := hSw.2.2.2.2.2.c1; have s5_2 := hSw.2.2.2.2.2.c2; have s5_3 := hSw.2.2.2.2.2.c3; clear hSw; go_simp; first | done | with_reducible rfl)⟩) (by assumption) ?_
      simp only [Act.put, List.setIfInBounds_toArray]
      try simp only [List.set_cons_zero, List.set_cons_succ]
      refine wpAnyH_takes (i := 20) (v := (.agg #[.int .i64 z.room, .slice F1 o1 r1, .slice F2 o2 r2, .slice F3 o3 r3])) (some 91) rfl rfl (by kernel_rfl) (by kernel_rfl) (by kernel_rfl) (fun _ _ _ h => h) (Or.inl ⟨by rfl, (by intro W9 hSw; have s0_0 := hSw.1.c0; have s0_1 := hSw.1.c1; have s0_2 := hSw.1.c2; have s0_3 := hSw.1.c3; have s1_0 := hSw.2.1.c0; have s1_1 := hSw.2.1.c1; have s1_2 := hSw.2.1.c2; have s1_3 := hSw.2.1.c3; have s2_0 := hSw.2.2.1.c0; have s2_1 := hSw.2.2.1.c1; have s2_2 := hSw.2.2.1.c2; have s2_3 := hSw.2.2.1.c3; have s3_0 := hSw.2.2.2.1.c0; have s3_1 := hSw.2.2.2.1.c1; have s3_2 := hSw.2.2.2.1.c2; have s3_3 := hSw.2.2.2.1.c3; have s4_0 := hSw.2.2.2.2.1.c0; have s4_1 := hSw.2.2.2.2.1.c1; have s4_2 := hSw.2.2.2.2.1.c2; have s4_3 := hSw.2.2.2.2.1.c3; have s5_0 := hSw.2.2.2.2.2.c0; have s5_1 := hSw.2.2.2.2.2.c1; have s5_2 := hSw.2.2.2.2.2.c2; have s5_3 := hSw.2.2.2.2.2.c3; clear hSw; go_simp; first | done | with_reducible rfl)⟩) (by assumption) ?_
      simp only [Act.put, List.setIfInBounds_toArray]
      try simp only [List.set_cons_zero, List.set_cons_succ]
      refine wpAnyH_ready (rs := [19]) (by kernel_rfl) (by simp) ?_
      refine AllReadyH.cons rfl (fun K hK => ?_) AllReadyH.nil
      go_simp
      go_at_call_of 18 (Value.slice E1 o1 m1)
      refine (real_any z E1 E2 E3 o1 o2 o3 m1 m2 m3 _ IE.out.tri (by omega)).mono ?_
      rintro e v1 ⟨bv, rfl, G1, g1, k1, G2, g2, k2, G3, g3, k3, rfl, ht, _, _, _, hb⟩
      obtain rfl : o1 = g1 := by have h8 := ht.m.len; have h9 := IE.out.tri.m.len; omega
      obtain rfl : o2 = g2 := by have h8 := ht.s.len; have h9 := IE.out.tri.s.len; omega
      obtain rfl : o3 = g3 := by have h8 := ht.r.len; have h9 := IE.out.tri.r.len; omega
      have HT := Lib.hid ht
      clear ht
      refine hK.out _ _ ⟨hHeld.1.step hb, hHeld.2.1.step hb, hHeld.2.2.1.step hb, hHeld.2.2.2.1.step hb, hHeld.2.2.2.2.1.step hb, hHeld.2.2.2.2.2.step hb⟩ (fun hHeld => ?_)
      clear hK K
      try dsimp only
      replace IC := Lib.hid (IC.out.step hb)
      replace ID := Lib.hid (ID.out.step hb)
      replace IE := Lib.hid (IE.out.step hb)
      replace IF := Lib.hid (IF.out.step hb)
      replace IX := Lib.hid (IX.out.step hb)
      replace HP := Lib.hid (HP.out.step hb)
      replace HB := Lib.hid (HB.out.step hb)
      clear hb
      refine wpAnyH_ready (rs := [21]) (by kernel_rfl) (by simp) ?_
      refine AllReadyH.cons rfl (fun K hK => ?_) AllReadyH.nil
      go_simp
      go_at_call_of 17 (Value.slice G1 o1 k1)
      refine (same_any z G1 G2 G3 F1 F2 F3 o1 o2 o3 k1 k2 k3 r1 r2 r3 _ HT.out IF.out.tri).mono ?_
      rintro e v2 ⟨rfl, hb⟩
      refine hK.out _ _ ⟨hHeld.1.step hb, hHeld.2.1.step hb, hHeld.2.2.1.step hb, hHeld.2.2.2.1.step hb, hHeld.2.2.2.2.1.step hb, hHeld.2.2.2.2.2.step hb⟩ (fun hHeld => ?_)
      clear hK K
      try dsimp only
      replace IC := Lib.hid (IC.out.step hb)
      replace ID := Lib.hid (ID.out.step hb)
      replace IE := Lib.hid (IE.out.step hb)
      replace IF := Lib.hid (IF.out.step hb)
      replace IX := Lib.hid (IX.out.step hb)
      replace HP := Lib.hid (HP.out.step hb)
      replace HB := Lib.hid (HB.out.step hb)
      clear hb HT
      refine wpAnyH_takes (i := 22) (v := (.bool true)) (some 93) rfl rfl (by kernel_rfl) (by kernel_rfl) (by kernel_rfl) (fun _ _ _ h => h) (Or.inl ⟨by rfl, (by intro W9 hSw; clear hSw; go_simp; first | done | with_reducible rfl)⟩) (by assumption) ?_
      simp only [Act.put, List.setIfInBounds_toArray]
      try simp only [List.set_cons_zero, List.set_cons_succ]
      refine wpAnyH_takes (i := 23) (v := (.bool true)) (some 94) rfl rfl (by kernel_rfl) (by kernel_rfl) (by kernel_rfl) (fun _ _ _ h => h) (Or.inl ⟨by rfl, (by intro W9 hSw; clear hSw; go_simp; first | done | with_reducible rfl)⟩) (by assumption) ?_
      simp only [Act.put, List.setIfInBounds_toArray]
      try simp only [List.set_cons_zero, List.set_cons_succ]
      refine wpAnyH_takes (i := 24) (v := (.int .i64 rn)) (some 95) rfl rfl (by kernel_rfl) (by kernel_rfl) (by kernel_rfl) (fun _ _ _ h => h) (Or.inl ⟨by rfl, (by intro W9 hSw; clear hSw; go_simp; first | done | with_reducible rfl)⟩) (by assumption) ?_
      simp only [Act.put, List.setIfInBounds_toArray]
      try simp only [List.set_cons_zero, List.set_cons_succ]
      refine wpAnyH_takes (i := 25) (v := (.int .i64 rn)) (some 96) rfl rfl (by kernel_rfl) (by kernel_rfl) (by kernel_rfl) (fun _ _ _ h => h) (Or.inl ⟨by rfl, (by intro W9 hSw; clear hSw; go_simp; first | done | with_reducible rfl)⟩) (by assumption) ?_
      simp only [Act.put, List.setIfInBounds_toArray]
      try simp only [List.set_cons_zero, List.set_cons_succ]
      refine wpAnyH_takes (i := 26) (v := (.bool true)) (some 97) rfl rfl (by kernel_rfl) (by kernel_rfl) (by kernel_rfl) (fun _ _ _ h => h) (Or.inl ⟨by rfl, (by intro W9 hSw; clear hSw; go_simp; first | done | with_reducible rfl)⟩) (by assumption) ?_
      simp only [Act.put, List.setIfInBounds_toArray]
      try simp only [List.set_cons_zero, List.set_cons_succ]
      refine wpAnyH_takes (i := 27) (v := (.bool true)) (some 98) rfl rfl (by kernel_rfl) (by kernel_rfl) (by kernel_rfl) (fun _ _ _ h => h) (Or.inl ⟨by rfl, (by intro W9 hSw; clear hSw; go_simp; first | done | with_reducible rfl)⟩) (by assumption) ?_
      simp only [Act.put, List.setIfInBounds_toArray]
      try simp only [List.set_cons_zero, List.set_cons_succ]
      refine wpAnyH_takes (i := 28) (v := (.bool true)) (some 99) rfl rfl (by kernel_rfl) (by kernel_rfl) (by kernel_rfl) (fun _ _ _ h => h) (Or.inl ⟨by rfl, (by intro W9 hSw; clear hSw; go_simp; first | done | with_reducible rfl)⟩) (by assumption) ?_
      simp only [Act.put, List.setIfInBounds_toArray]
      try simp only [List.set_cons_zero, List.set_cons_succ]
      refine wpAnyH_takes (i := 29) (v := (.int .i64 rg)) (some 100) rfl rfl (by kernel_rfl) (by kernel_rfl) (by kernel_rfl) (fun _ _ _ h => h) (Or.inl ⟨by rfl, (by intro W9 hSw; clear hSw; go_simp; first | done | with_reducible rfl)⟩) (by assumption) ?_
      simp only [Act.put, List.setIfInBounds_toArray]
      try simp only [List.set_cons_zero, List.set_cons_succ]
      refine wpAnyH_takes (i := 30) (v := (.int .i64 rg)) (some 101) rfl rfl (by kernel_rfl) (by kernel_rfl) (by kernel_rfl) (fun _ _ _ h => h) (Or.inl ⟨by rfl, (by intro W9 hSw; clear hSw; go_simp; first | done | with_reducible rfl)⟩) (by assumption) ?_
      simp only [Act.put, List.setIfInBounds_toArray]
      try simp only [List.set_cons_zero, List.set_cons_succ]
      refine wpAnyH_takes (i := 31) (v := (.bool true)) (some 102) rfl rfl (by kernel_rfl) (by kernel_rfl) (by kernel_rfl) (fun _ _ _ h => h) (Or.inl ⟨by rfl, (by intro W9 hSw; clear hSw; go_simp; first | done | with_reducible rfl)⟩) (by assumption) ?_
      simp only [Act.put, List.setIfInBounds_toArray]
      try simp only [List.set_cons_zero, List.set_cons_succ]
      refine wpAnyH_takes (i := 32) (v := (.bool true)) (some 103) rfl rfl (by kernel_rfl) (by kernel_rfl) (by kernel_rfl) (fun _ _ _ h => h) (Or.inl ⟨by rfl, (by intro W9 hSw; clear hSw; go_simp; first | done | with_reducible rfl)⟩) (by assumption) ?_
      simp only [Act.put, List.setIfInBounds_toArray]
      try simp only [List.set_cons_zero, List.set_cons_succ]
      refine wpAnyH_takes (i := 33) (v := (.bool true)) (some 104) rfl rfl (by kernel_rfl) (by kernel_rfl) (by kernel_rfl) (fun _ _ _ h => h) (Or.inl ⟨by rfl, (by intro W9 hSw; clear hSw; go_simp; first | done | with_reducible rfl)⟩) (by assumption) ?_
      simp only [Act.put, List.setIfInBounds_toArray]
      try simp only [List.set_cons_zero, List.set_cons_succ]
      refine wpAnyH_takes (i := 34) (v := (.bool rb)) (some 105) rfl rfl (by kernel_rfl) (by kernel_rfl) (by kernel_rfl) (fun _ _ _ h => h) (Or.inl ⟨by rfl, (by intro W9 hSw; clear hSw; go_simp; first | done | with_reducible rfl)⟩) (by assumption) ?_
      simp only [Act.put, List.setIfInBounds_toArray]
      try simp only [List.set_cons_zero, List.set_cons_succ]
      refine wpAnyH_takes (i := 35) (v := (.bool rb)) (some 106) rfl rfl (by kernel_rfl) (by kernel_rfl) (by kernel_rfl) (fun _ _ _ h => h) (Or.inl ⟨by rfl, (by intro W9 hSw; clear hSw; go_simp; first | done | with_reducible rfl)⟩) (by assumption) ?_
      simp only [Act.put, List.setIfInBounds_toArray]
      try simp only [List.set_cons_zero, List.set_cons_succ]
      refine wpAnyH_takes (i := 36) (v := (.bool true)) (some 107) rfl rfl (by kernel_rfl) (by kernel_rfl) (by kernel_rfl) (fun _ _ _ h => h) (Or.inl ⟨by rfl, (by intro W9 hSw; clear hSw; go_simp; first | done | with_reducible rfl)⟩) (by assumption) ?_
      simp only [Act.put, List.setIfInBounds_toArray]
      try simp only [List.set_cons_zero, List.set_cons_succ]
      refine wpAnyH_takes (i := 37) (v := (.bool true)) (some 108) rfl rfl (by kernel_rfl) (by kernel_rfl) (by kernel_rfl) (fun _ _ _ h => h) (Or.inl ⟨by rfl, (by intro W9 hSw; clear hSw; go_simp; first | done | with_reducible rfl)⟩) (by assumption) ?_
      simp only [Act.put, List.setIfInBounds_toArray]
      try simp only [List.set_cons_zero, List.set_cons_succ]
      refine wpAnyH_takes (i := 38) (v := (.bool true)) (some 109) rfl rfl (by kernel_rfl) (by kernel_rfl) (by kernel_rfl) (fun _ _ _ h => h) (Or.inl ⟨by rfl, (by intro W9 hSw; clear hSw; go_simp; first | done | with_reducible rfl)⟩) (by assumption) ?_
      simp only [Act.put, List.setIfInBounds_toArray]
      try simp only [List.set_cons_zero, List.set_cons_succ]
      refine wpAnyH_takes (i := 39) (v := (.agg #[.int .i64 x.room, .slice P1 n1 d1, .slice P2 n2 d2, .slice P3 n3 d3])) (some 110) rfl rfl (by kernel_rfl) (by kernel_rfl) (by kernel_rfl) (fun _ _ _ h => h) (Or.inl ⟨by rfl, (by intro W9 hSw; have s0_0 := hSw.1.c0; have s0_1 := hSw.1.c1; have s0_2 := hSw.1.c2; have s0_3 := hSw.1.c3; have s1_0 := hSw.2.1.c0; have s1_1 := hSw.2.1.c1; have s1_2 := hSw.2.1.c2; have s1_3 := hSw.2.1.c3; have s2_0 := hSw.2.2.1.c0; have s2_1 := hSw.2.2.1.c1; have s2_2 := hSw.2.2.1.c2; have s2_3 := hSw.2.2.1.c3; have s3_0 := hSw.2.2.2.1.c0; have s3_1 := hSw.2.2.2.1.c1; have s3_2 := hSw.2.2.2.1.c2; have s3_3 := hSw.2.2.2.1.c3; have s4_0 := hSw.2.2.2.2.1.c0; have s4_1 := hSw.2.2.2.2.1.c1; have s4_2 := hSw.2.2.2.2.1.c2; have s4_3 := hSw.2.2.2.2.1.c3; have s5_0 := hSw.2.2.2.2.2.c0; have s5_1 := hSw.2.2.2.2.2.c1; have s5_2 := hSw.2.2.2.2.2.c2; have s5_3 := hSw.2.2.2.2.2.c3; clear hSw; go_simp; first | done | with_reducible rfl)⟩) (by assumption) ?_
      simp only [Act.put, List.setIfInBounds_toArray]
      try simp only [List.set_cons_zero, List.set_cons_succ]
      refine wpAnyH_takes (i := 41) (v := (.agg #[.int .i64 x.room, .slice A n1 c1, .slice B n2 c2, .slice C n3 c3])) (some 112) rfl rfl (by kernel_rfl) (by kernel_rfl) (by kernel_rfl) (fun _ _ _ h => h) (Or.inl ⟨by rfl, (by intro W9 hSw; have s0_0 := hSw.1.c0; have s0_1 := hSw.1.c1; have s0_2 := hSw.1.c2; have s0_3 := hSw.1.c3; have s1_0 := hSw.2.1.c0; have s1_1 := hSw.2.1.c1; have s1_2 := hSw.2.1.c2; have s1_3 := hSw.2.1.c3; have s2_0 := hSw.2.2.1.c0; have s2_1 := hSw.2.2.1.c1; have s2_2 := hSw.2.2.1.c2; have s2_3 := hSw.2.2.1.c3; have s3_0 := hSw.2.2.2.1.c0; have s3_1 := hSw.2.2.2.1.c1; have s3_2 := hSw.2.2.2.1.c2; have s3_3 := hSw.2.2.2.1.c3; have s4_0 := hSw.2.2.2.2.1.c0; have s4_1 := hSw.2.2.2.2.1.c1; have s4_2 := hSw.2.2.2.2.1.c2; have s4_3 := hSw.2.2.2.2.1.c3; have s5_0 := hSw.2.2.2.2.2.c0; have s5_1 := hSw.2.2.2.2.2.c1; have s5_2 := hSw.2.2.2.2.2.c2; have s5_3 := hSw.2.2.2.2.2.c3; clear hSw; go_simp; first | done | with_reducible rfl)⟩) (by assumption) ?_
      simp only [Act.put, List.setIfInBounds_toArray]
      try simp only [List.set_cons_zero, List.set_cons_succ]
      refine wpAnyH_ready (rs := [40]) (by kernel_rfl) (by simp) ?_
      refine AllReadyH.cons rfl (fun K hK => ?_) AllReadyH.nil
      go_simp
      go_at_call_of 18 (Value.slice P1 n1 d1)
      refine (real_any x P1 P2 P3 n1 n2 n3 d1 d2 d3 _ IX.out.tri (by omega)).mono ?_
      rintro e v1 ⟨bv, rfl, G1, g1, k1, G2, g2, k2, G3, g3, k3, rfl, ht, _, _, _, hb⟩
      obtain rfl : n1 = g1 := by have h8 := ht.m.len; have h9 := IX.out.tri.m.len; omega
      obtain rfl : n2 = g2 := by have h8 := ht.s.len; have h9 := IX.out.tri.s.len; omega
      obtain rfl : n3 = g3 := by have h8 := ht.r.len; have h9 := IX.out.tri.r.len; omega
      have HT := Lib.hid ht
      clear ht
      refine hK.out _ _ ⟨hHeld.1.step hb, hHeld.2.1.step hb, hHeld.2.2.1.step hb, hHeld.2.2.2.1.step hb, hHeld.2.2.2.2.1.step hb, hHeld.2.2.2.2.2.step hb⟩ (fun hHeld => ?_)
      clear hK K
      try dsimp only
      replace IC := Lib.hid (IC.out.step hb)
      replace ID := Lib.hid (ID.out.step hb)
      replace IE := Lib.hid (IE.out.step hb)
      replace IF := Lib.hid (IF.out.step hb)
      replace IX := Lib.hid (IX.out.step hb)
      replace HP := Lib.hid (HP.out.step hb)
      replace HB := Lib.hid (HB.out.step hb)
      clear hb
      refine wpAnyH_ready (rs := [42]) (by kernel_rfl) (by simp) ?_
      refine AllReadyH.cons rfl (fun K hK => ?_) AllReadyH.nil
      go_simp
      go_at_call_of 17 (Value.slice G1 n1 k1)
      refine (same_any x G1 G2 G3 A B C n1 n2 n3 k1 k2 k3 c1 c2 c3 _ HT.out (H.out.step HB.out.b)).mono ?_
      rintro e v2 ⟨rfl, hb⟩
      refine hK.out _ _ ⟨hHeld.1.step hb, hHeld.2.1.step hb, hHeld.2.2.1.step hb, hHeld.2.2.2.1.step hb, hHeld.2.2.2.2.1.step hb, hHeld.2.2.2.2.2.step hb⟩ (fun hHeld => ?_)
      clear hK K
      try dsimp only
      replace IC := Lib.hid (IC.out.step hb)
      replace ID := Lib.hid (ID.out.step hb)
      replace IE := Lib.hid (IE.out.step hb)
      replace IF := Lib.hid (IF.out.step hb)
      replace IX := Lib.hid (IX.out.step hb)
      replace HP := Lib.hid (HP.out.step hb)
      replace HB := Lib.hid (HB.out.step hb)
      clear hb HT
      refine wpAnyH_takes (i := 43) (v := (.bool true)) (some 114) rfl rfl (by kernel_rfl) (by kernel_rfl) (by kernel_rfl) (fun _ _ _ h => h) (Or.inl ⟨by rfl, (by intro W9 hSw; clear hSw; go_simp; first | done | with_reducible rfl)⟩) (by assumption) ?_
      simp only [Act.put, List.setIfInBounds_toArray]
      try simp only [List.set_cons_zero, List.set_cons_succ]
      refine wpAnyH_takes (i := 44) (v := (.bool true)) (some 6) rfl rfl (by kernel_rfl) (by kernel_rfl) (by kernel_rfl) (fun _ _ _ h => h) (Or.inl ⟨by rfl, (by intro W9 hSw; clear hSw; go_simp; first | done | with_reducible rfl)⟩) (by assumption) ?_
      simp only [Act.put, List.setIfInBounds_toArray]
      try simp only [List.set_cons_zero, List.set_cons_succ]
      refine wpAnyH_done (by kernel_rfl) ?_ _
      clear hHeld q1 q2 q3 q4 q5
      go_wp2_with fail
      go_ret
      exact ⟨rfl, HB.out.b⟩
    · rw [decide_eq_false hm]
      clear hm
      go_wp2_with fail
      go_ret
      exact ⟨rfl, HB.out.b⟩
  · rw [decide_eq_false hf]
    clear hf
    go_wp2_with fail
    go_ret
    exact ⟨rfl, HB.out.b⟩
set_option maxRecDepth 100000 in
theorem lifted (os : Os) (started : os.Started) (H : Type) (enc : TypeId × Value → H) :
    ReturnsInHanded {} Try.checked os 3 .any (Rows.boxTellsSpec.pre6 enc Try.prog Try.f3 Rows.boxTellsRow.domain false) (Rows.boxTellsSpec.post enc Try.prog Try.f3 false true false false) := by
  refine returnsInHanded_of_change (C := Try.checked) own started (by kernel_rfl) Try.func3
    (ChangeSpec.witness6 (enc := enc) (C := Try.checked) false ⟨#[], #[.agg #[.int .i64 0, .slice none 0 0, .slice none 0 0, .slice none 0 0], .int .i64 0, .int .i64 0], []⟩ 8 (by kernel_rfl) (by kernel_rfl) (by kernel_rfl) (by kernel_rfl)) ?_
  intro W base args ds gs before hval0 hW hcnd _
  have hval : ∀ (j : Nat) t v, Try.f3.params[j]? = some t → args[j]? = some v → Value.okWide Try.prog W .any base t v := hval0
  have hW' := hW
  obtain ⟨p, q, hA0, hV, rfl, hfz, hnd⟩ := hW
  have hA : DataW.TrodAll enc Try.prog W 0 (fun _ => true) true Try.f3.params.toList args.toList ds p := hA0
  rw [Try.params3] at hA hval
  obtain ⟨v0, vs0, d0, ds0, p0, q0, hargs, rfl, rfl, h0, r0⟩ := trodAll_cons hA
  obtain ⟨v1, vs1, d1, ds1, p1, q1, rfl, rfl, rfl, h1, r1⟩ := trodAll_cons r0
  obtain ⟨v2, vs2, d2, ds2, p2, q2, rfl, rfl, rfl, h2, r2⟩ := trodAll_cons r1
  obtain ⟨rfl, rfl, rfl⟩ := trodAll_nil r2
  obtain rfl : args = #[v0, v1, v2] := by cases args; simp_all
  obtain ⟨rfl, rfl⟩ := trodVars_none hV
  have k0 := h0
  have lt0 : ∀ x ∈ p0, x.block < W.heap.size := by obtain ⟨m, hm⟩ := k0; exact DataW.trod_lt m _ _ _ hm
  obtain ⟨x0, aa0, na0, ca0, ab0, nb0, cb0, ac0, nc0, cc0, rfl, hr0⟩ := open_box (hval 0 26 v0 rfl rfl) h0
  obtain ⟨a1, rfl, rfl, rfl, w1⟩ := open_int Try.underlying3 (hval 1 3 v1 rfl rfl) h1
  obtain ⟨a2, rfl, rfl, rfl, w2⟩ := open_int Try.underlying2 (hval 2 2 v2 rfl rfl) h2
  clear hA0 hval0
  refine (walk x0 aa0 na0 ca0 ab0 nb0 cb0 ac0 nc0 cc0 a1 a2 W hr0).mono fun e W' ⟨he, bel⟩ => ?_
  subst he
  exact ⟨_, rfl, _, _, _, [], _, [], hW', trodAll_mk1 (shut_bool Try.underlying4 _), (trodAll_cons_mk (Below.trod laidOut (by kernel_rfl) (of_decide_eq_true (by kernel_rfl)) k0 bel lt0) (trodAll_cons_mk (shut_int Try.underlying3 w1) (trodAll_cons_mk (shut_int Try.underlying2 w2) trodAll_mk0))), rfl, bel.frame _, fun h => by cases h⟩
theorem over : Rows.boxTellsRow.holds Try.pinned (OpenSpec.ofChange Rows.boxTellsSpec) :=
  OpenClaim.holds_of_wide 3 Try.f3 rfl rfl rfl rfl rfl rfl rfl ⟨rfl, rfl, rfl, rfl, rfl⟩ rfl rfl rfl rfl rfl (by kernel_rfl) Try.func3 (by kernel_rfl)
    (of_decide_eq_true (by kernel_rfl)) (by unfold Func.isWrapper; first | (rw [if_pos (by decide +kernel)]; kernel_rfl) | (rw [if_neg (by decide +kernel)]; exact ⟨rfl, rfl⟩))
    (fun os started H enc _ => lifted os started H enc)
theorem proved : Rows.BoxTellsSaid := over
end Go.Proofs.Ytjpnfjiccckaiaa.boxTells

