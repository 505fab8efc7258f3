/- CostMost: behind as many moves as there may be the cost is the greatest, and stays; ahead of that each move is counted: the call answers true and changes nothing that was there; for every input. -/
import Derived.Test.YtceboejhdgjgoaaGShown
namespace Go.Proofs.Ytceboejhdgjgoaa.costMost
open Go.ChangeShapes Go.WideShapes Go.ChangeAt Go.RowKit
set_option linter.unusedVariables false

theorem most_math {N : Nat} {d m : Int} (hN : 65280 ≤ N) (hN2 : N ≤ 65535) (hd : 1 ≤ d) (hm : (N : Int) * d = m) (hm2 : (N : Int) ≤ m) :
    Gp.sum (List.replicate N d) = (min m 65535, (N : Int)) ∧ Gp.May (min m 65535, (N : Int)) ∧ Gp.add (min m 65535, (N : Int)) d = (min (min m 65535 + d) 65535, min ((N : Int) + 1) 65535) ∧ Gp.May (min (min m 65535 + d) 65535, min ((N : Int) + 1) 65535) ∧ Gp.join (min m 65535, (N : Int)) (min m 65535, (N : Int)) = (65535, 65535) := by
  have h1 : Gp.sum (List.replicate N d) = (min m 65535, (N : Int)) := by
    rw [Gp.sum_eq, Gp.tot_rep N d hd, Gp.many_rep N d hd, hm, Prod.mk.injEq]
    exact ⟨rfl, by omega⟩
  have h2 : Gp.May (min m 65535, (N : Int)) := by rw [← h1]; exact Gp.sum_may _
  have h3 : Gp.add (min m 65535, (N : Int)) d = (min (min m 65535 + d) 65535, min ((N : Int) + 1) 65535) := by unfold Gp.add; rw [if_neg (by omega)]
  refine ⟨h1, h2, h3, ?_, ?_⟩
  · rw [← h3]; exact Gp.add_may h2 d
  · unfold Gp.join
    rw [Prod.mk.injEq]
    simp only
    omega
set_option maxRecDepth 100000 in
set_option maxHeartbeats 2000000 in
theorem walk (far less : Int) (w : World) (hu : (Lit.int .u8 far).wf = true) (hv : (Lit.int .u8 less).wf = true) :
    Calls Try.prog 6 #[.int .u8 far, .int .u8 less] w fun e w' => e = .returned (.bool true) ∧ Below w.heap.size w w' := by
  have hu' : 0 ≤ far ∧ far ≤ 255 := by simpa [Lit.wf, IntKind.min, IntKind.max, IntKind.signed, IntKind.bits] using hu
  have hv' : 0 ≤ less ∧ less ≤ 255 := by simpa [Lit.wf, IntKind.min, IntKind.max, IntKind.signed, IntKind.bits] using hv
  obtain ⟨u0, u1⟩ := hu'
  obtain ⟨v0, v1⟩ := hv'
  obtain ⟨r, hr⟩ : ∃ r, r = far % 3 := ⟨_, rfl⟩
  have e1 : far.tmod 3 = r := by rw [hr]; exact Int.tmod_eq_emod_of_nonneg u0
  have hrb : 0 ≤ r ∧ r ≤ 2 := by omega
  obtain ⟨d, hd⟩ : ∃ d, d = 1 + r := ⟨_, rfl⟩
  have hdb : 1 ≤ d ∧ d ≤ 3 := by omega
  obtain ⟨N, hN⟩ : ∃ N : Nat, (N : Int) = 65535 - less := ⟨(65535 - less).toNat, by omega⟩
  have hNb : 65280 ≤ N ∧ N ≤ 65535 := by omega
  obtain ⟨m, hm⟩ : ∃ m, (N : Int) * d = m := ⟨_, rfl⟩
  have hmb : (N : Int) ≤ m ∧ m ≤ 196605 := by
    have h3 : d = 1 ∨ d = 2 ∨ d = 3 := by omega
    rcases h3 with e | e | e <;> (subst e; omega)
  have wr1 : IntKind.i64.wrap r = r := IntWalk.i64_in _ (by omega)
  have wr2 : IntKind.u8.wrap r = r := by simp [IntKind.wrap, IntKind.bits, IntKind.signed]; omega
  have wd : IntKind.i64.wrap (1 + r) = d := by rw [hd]; exact IntWalk.i64_in _ (by omega)
  have wl : IntKind.i64.wrap less = less := IntWalk.i64_in _ (by omega)
  have wN : IntKind.i64.wrap (65535 - less) = (N : Int) := by rw [hN]; exact IntWalk.i64_in _ (by omega)
  have wm : IntKind.i64.wrap ((N : Int) * d) = m := by rw [hm]; exact IntWalk.i64_in _ (by omega)
  have wn1 : IntKind.i64.wrap ((N : Int) + 1) = (N : Int) + 1 := IntWalk.i64_in _ (by omega)
  have em1 := Lib.hid hm
  have ed : 1 + r = d := hd.symm
  have eN : 65535 - less = (N : Int) := hN.symm
  clear hu hv hr hd hN hm
  go_enter Try.func6, Try.ntmps6
  go_wp2_with fail
  refine (shown_any _).mono ?_
  rintro e w1 ⟨rfl, hb1⟩
  have B1 := Lib.hid hb1
  clear hb1
  go_wp2_with fail
  clear wr1 wr2 wd wl wN ed eN e1
  go_loopw [8, 9] (fun v i wr => ∃ k : Nat, k ≤ N ∧ i = .int .i64 k ∧ Hid (wr.ownsRow w1.heap.size 3 1 v k ((List.replicate k d).map (Value.int .i64))) ∧ Hid (Below w1.heap.size w1 wr)) (fun _ i _ => N - (intOf i).toNat)
  case atStart => exact ⟨0, Nat.zero_le _, rfl, Lib.hid (World.ownsRow_nil _ _ _ _), Lib.hid (Below.refl _ _)⟩
  case round =>
    obtain ⟨k, hk, rfl, HO, HB0⟩ := hrel
    obtain ⟨A1, q1, rfl, _, _⟩ := Row.of_own' HO.out
    by_cases hlt : k < N
    · have hb3 := below_new wr (.cells #[.int .i64 d] 3)
      have HB3 := Lib.hid (HB0.out.trans (hb3.mono HB0.out.size))
      have HO3 := Lib.hid (own_below HO.out hb3)
      have HR3 := Lib.hid (row_at wr d wr.heap.size rfl)
      have wk : IntKind.i64.wrap ((k : Int) + 1) = (k : Int) + 1 := IntWalk.i64_in _ (by omega)
      clear hb3 HO wm wn1
      go_wp2_with (at_builtin; refine wpList_append_row rfl _ _ rfl w1.heap.size _ k _ rfl HO3.out _ 1 1 [d] rfl HR3.out (by omega) HB3.out.size ?_; intro v' w8 hown2 hg)
      have HO4 := Lib.hid (show w8.ownsRow w1.heap.size 3 1 v' (k + 1) ((List.replicate (k + 1) d).map (Value.int .i64)) by rw [List.replicate_succ']; exact hown2)
      have HB4 := Lib.hid (HB3.out.grown hg HB3.out.size (fun j hj => (HO3.out.lt j hj).1))
      clear hown2 hg HO3 HR3
      go_wp2_with fail
      go_roundw
      case rel => exact ⟨k + 1, by omega, by go_num, HO4, HB4⟩
      case measure => simp [intOf]; omega
    · obtain rfl : k = N := by omega
      have hr1 := Row.of_own' HO.out
      obtain ⟨A2, q2, e2, hr2, _⟩ := hr1
      injection e2 with e21 _ e22
      subst e21 e22
      have R1 := Lib.hid hr2
      have HB := Lib.hid (B1.out.trans (HB0.out.mono B1.out.size))
      obtain ⟨hs, hM, ha, hM2, hj⟩ := most_math hNb.1 hNb.2 hdb.1 em1.out hmb.1
      obtain ⟨hd1, hd3⟩ := hdb
      clear hr2 HO HB0 B1 hlt hk
      by_cases hf : 65535 < m
      · by_cases hg : 65535 < (k : Int) + 1
        · skip
          have F1 : min m 65535 = 65535 := by omega
          have F2 : min ((k : Int) + 1) 65535 = 65535 := by omega
          rw [F1] at hs hM ha hM2 hj
          rw [F2] at ha hM2
          obtain ⟨p, hp⟩ : ∃ p, p = min (65535 + d) 65535 := ⟨_, rfl⟩
          rw [← hp] at ha hM2
          have HSu := Lib.hid (sum_any A1 k q1 (List.replicate k d) wr R1.out (Lib.hid (fun z hz => by rw [List.eq_of_mem_replicate hz]; unfold In64; omega)))
          rw [hs] at HSu
          have HAd := Lib.hid (fun W => add_any 65535 (k : Int) d W hM (by unfold In64; omega))
          rw [ha] at HAd
          have HM1 := Lib.hid (fun W => may_any 65535 (k : Int) true (Lib.hid (decide_eq_true hM)) W)
          have HM2 := Lib.hid (fun W => may_any p 65535 true (Lib.hid (decide_eq_true hM2)) W)
          have HJo := Lib.hid (fun W => join_any 65535 (k : Int) 65535 (k : Int) W hM hM)
          rw [hj] at HJo
          unfold TellC cv at HSu HAd HJo
          simp only at HSu HAd HJo
          clear hs hM ha hM2 hj hp F1 F2 R1
          go_wp2_with fail
          refine HSu.out.mono ?_
          rintro e w3 ⟨rfl, hb3⟩
          have B3 := Lib.hid (HB.out.trans (hb3.mono HB.out.size))
          have hb4 := below_new w3 (.cells #[.int .i64 65535, .int .i64 (k : Int)] 25)
          have C4 := Lib.hid (Cel2.new w3 (.int .i64 65535) (.int .i64 (k : Int)) 25)
          have B4 := Lib.hid (B3.out.trans (hb4.mono B3.out.size))
          clear hb3 hb4 B3 HSu
          have c0 := C4.out.c0
          have c1 := C4.out.c1
          go_wp2_with fail
          refine (HAd.out _).mono ?_
          rintro e w5 ⟨rfl, hb5⟩
          have C5 := C4.out.step hb5
          have hb6 := below_new w5 (.cells #[.int .i64 p, .int .i64 65535] 25)
          have C6 := Lib.hid (C5.step hb6)
          have D6 := Lib.hid (Cel2.new w5 (.int .i64 p) (.int .i64 65535) 25)
          have B6 := Lib.hid ((B4.out.trans (hb5.mono B4.out.size)).trans (hb6.mono (Nat.le_trans B4.out.size hb5.size)))
          clear hb5 hb6 C5 B4 HAd c0 c1 C4
          have c0 := C6.out.c0
          have c1 := C6.out.c1
          have d0 := D6.out.c0
          have d1 := D6.out.c1
          go_wp2_with fail
          refine (HM1.out _).mono ?_
          rintro e w7 ⟨rfl, hb7⟩
          have C7 := Lib.hid (C6.out.step hb7)
          have D7 := Lib.hid (D6.out.step hb7)
          have B7 := Lib.hid (B6.out.trans (hb7.mono B6.out.size))
          clear hb7 C6 D6 B6 c0 c1 d0 d1
          have d0 := D7.out.c0
          have d1 := D7.out.c1
          go_wp2_with fail
          refine (HM2.out _).mono ?_
          rintro e w8 ⟨rfl, hb8⟩
          have C8 := Lib.hid (C7.out.step hb8)
          have B8 := Lib.hid (B7.out.trans (hb8.mono B7.out.size))
          clear hb8 C7 D7 B7 d0 d1
          have c0 := C8.out.c0
          have c1 := C8.out.c1
          go_wp2_with fail
          refine (HJo.out _).mono ?_
          rintro e w9 ⟨rfl, hb9⟩
          have B9 := Lib.hid (B8.out.trans (hb9.mono B8.out.size))
          clear hb9 B8 C8 c0 c1
          have hFd : ∀ W, (Instr.field 25 (.agg #[.int .i64 65535, .int .i64 65535]) 1).run Try.prog W = .ok (.int .i64 65535) W := fun W => by kernel_rfl
          go_wp2_with fail
          go_ret
          exact ⟨rfl, B9.out⟩
        · skip
          have F1 : min m 65535 = 65535 := by omega
          have F2 : min ((k : Int) + 1) 65535 = ((k : Int) + 1) := by omega
          rw [F1] at hs hM ha hM2 hj
          rw [F2] at ha hM2
          obtain ⟨p, hp⟩ : ∃ p, p = min (65535 + d) 65535 := ⟨_, rfl⟩
          rw [← hp] at ha hM2
          have HSu := Lib.hid (sum_any A1 k q1 (List.replicate k d) wr R1.out (Lib.hid (fun z hz => by rw [List.eq_of_mem_replicate hz]; unfold In64; omega)))
          rw [hs] at HSu
          have HAd := Lib.hid (fun W => add_any 65535 (k : Int) d W hM (by unfold In64; omega))
          rw [ha] at HAd
          have HM1 := Lib.hid (fun W => may_any 65535 (k : Int) true (Lib.hid (decide_eq_true hM)) W)
          have HM2 := Lib.hid (fun W => may_any p ((k : Int) + 1) true (Lib.hid (decide_eq_true hM2)) W)
          have HJo := Lib.hid (fun W => join_any 65535 (k : Int) 65535 (k : Int) W hM hM)
          rw [hj] at HJo
          unfold TellC cv at HSu HAd HJo
          simp only at HSu HAd HJo
          clear hs hM ha hM2 hj hp F1 F2 R1
          go_wp2_with fail
          refine HSu.out.mono ?_
          rintro e w3 ⟨rfl, hb3⟩
          have B3 := Lib.hid (HB.out.trans (hb3.mono HB.out.size))
          have hb4 := below_new w3 (.cells #[.int .i64 65535, .int .i64 (k : Int)] 25)
          have C4 := Lib.hid (Cel2.new w3 (.int .i64 65535) (.int .i64 (k : Int)) 25)
          have B4 := Lib.hid (B3.out.trans (hb4.mono B3.out.size))
          clear hb3 hb4 B3 HSu
          have c0 := C4.out.c0
          have c1 := C4.out.c1
          go_wp2_with fail
          refine (HAd.out _).mono ?_
          rintro e w5 ⟨rfl, hb5⟩
          have C5 := C4.out.step hb5
          have hb6 := below_new w5 (.cells #[.int .i64 p, .int .i64 ((k : Int) + 1)] 25)
          have C6 := Lib.hid (C5.step hb6)
          have D6 := Lib.hid (Cel2.new w5 (.int .i64 p) (.int .i64 ((k : Int) + 1)) 25)
          have B6 := Lib.hid ((B4.out.trans (hb5.mono B4.out.size)).trans (hb6.mono (Nat.le_trans B4.out.size hb5.size)))
          clear hb5 hb6 C5 B4 HAd c0 c1 C4
          have c0 := C6.out.c0
          have c1 := C6.out.c1
          have d0 := D6.out.c0
          have d1 := D6.out.c1
          go_wp2_with fail
          refine (HM1.out _).mono ?_
          rintro e w7 ⟨rfl, hb7⟩
          have C7 := Lib.hid (C6.out.step hb7)
          have D7 := Lib.hid (D6.out.step hb7)
          have B7 := Lib.hid (B6.out.trans (hb7.mono B6.out.size))
          clear hb7 C6 D6 B6 c0 c1 d0 d1
          have d0 := D7.out.c0
          have d1 := D7.out.c1
          go_wp2_with fail
          refine (HM2.out _).mono ?_
          rintro e w8 ⟨rfl, hb8⟩
          have C8 := Lib.hid (C7.out.step hb8)
          have B8 := Lib.hid (B7.out.trans (hb8.mono B7.out.size))
          clear hb8 C7 D7 B7 d0 d1
          have c0 := C8.out.c0
          have c1 := C8.out.c1
          go_wp2_with fail
          refine (HJo.out _).mono ?_
          rintro e w9 ⟨rfl, hb9⟩
          have B9 := Lib.hid (B8.out.trans (hb9.mono B8.out.size))
          clear hb9 B8 C8 c0 c1
          have hFd : ∀ W, (Instr.field 25 (.agg #[.int .i64 65535, .int .i64 65535]) 1).run Try.prog W = .ok (.int .i64 65535) W := fun W => by kernel_rfl
          go_wp2_with fail
          go_ret
          exact ⟨rfl, B9.out⟩
      · by_cases hg : 65535 < (k : Int) + 1
        · skip
          have F1 : min m 65535 = m := by omega
          have F2 : min ((k : Int) + 1) 65535 = 65535 := by omega
          rw [F1] at hs hM ha hM2 hj
          rw [F2] at ha hM2
          obtain ⟨p, hp⟩ : ∃ p, p = min (m + d) 65535 := ⟨_, rfl⟩
          rw [← hp] at ha hM2
          have HSu := Lib.hid (sum_any A1 k q1 (List.replicate k d) wr R1.out (Lib.hid (fun z hz => by rw [List.eq_of_mem_replicate hz]; unfold In64; omega)))
          rw [hs] at HSu
          have HAd := Lib.hid (fun W => add_any m (k : Int) d W hM (by unfold In64; omega))
          rw [ha] at HAd
          have HM1 := Lib.hid (fun W => may_any m (k : Int) true (Lib.hid (decide_eq_true hM)) W)
          have HM2 := Lib.hid (fun W => may_any p 65535 true (Lib.hid (decide_eq_true hM2)) W)
          have HJo := Lib.hid (fun W => join_any m (k : Int) m (k : Int) W hM hM)
          rw [hj] at HJo
          unfold TellC cv at HSu HAd HJo
          simp only at HSu HAd HJo
          clear hs hM ha hM2 hj hp F1 F2 R1
          go_wp2_with fail
          refine HSu.out.mono ?_
          rintro e w3 ⟨rfl, hb3⟩
          have B3 := Lib.hid (HB.out.trans (hb3.mono HB.out.size))
          have hb4 := below_new w3 (.cells #[.int .i64 m, .int .i64 (k : Int)] 25)
          have C4 := Lib.hid (Cel2.new w3 (.int .i64 m) (.int .i64 (k : Int)) 25)
          have B4 := Lib.hid (B3.out.trans (hb4.mono B3.out.size))
          clear hb3 hb4 B3 HSu
          have c0 := C4.out.c0
          have c1 := C4.out.c1
          go_wp2_with fail
          refine (HAd.out _).mono ?_
          rintro e w5 ⟨rfl, hb5⟩
          have C5 := C4.out.step hb5
          have hb6 := below_new w5 (.cells #[.int .i64 p, .int .i64 65535] 25)
          have C6 := Lib.hid (C5.step hb6)
          have D6 := Lib.hid (Cel2.new w5 (.int .i64 p) (.int .i64 65535) 25)
          have B6 := Lib.hid ((B4.out.trans (hb5.mono B4.out.size)).trans (hb6.mono (Nat.le_trans B4.out.size hb5.size)))
          clear hb5 hb6 C5 B4 HAd c0 c1 C4
          have c0 := C6.out.c0
          have c1 := C6.out.c1
          have d0 := D6.out.c0
          have d1 := D6.out.c1
          go_wp2_with fail
          refine (HM1.out _).mono ?_
          rintro e w7 ⟨rfl, hb7⟩
          have C7 := Lib.hid (C6.out.step hb7)
          have D7 := Lib.hid (D6.out.step hb7)
          have B7 := Lib.hid (B6.out.trans (hb7.mono B6.out.size))
          clear hb7 C6 D6 B6 c0 c1 d0 d1
          have d0 := D7.out.c0
          have d1 := D7.out.c1
          go_wp2_with fail
          refine (HM2.out _).mono ?_
          rintro e w8 ⟨rfl, hb8⟩
          have C8 := Lib.hid (C7.out.step hb8)
          have B8 := Lib.hid (B7.out.trans (hb8.mono B7.out.size))
          clear hb8 C7 D7 B7 d0 d1
          have c0 := C8.out.c0
          have c1 := C8.out.c1
          go_wp2_with fail
          refine (HJo.out _).mono ?_
          rintro e w9 ⟨rfl, hb9⟩
          have B9 := Lib.hid (B8.out.trans (hb9.mono B8.out.size))
          clear hb9 B8 C8 c0 c1
          have hFd : ∀ W, (Instr.field 25 (.agg #[.int .i64 65535, .int .i64 65535]) 1).run Try.prog W = .ok (.int .i64 65535) W := fun W => by kernel_rfl
          go_wp2_with fail
          go_ret
          exact ⟨rfl, B9.out⟩
        · skip
          have F1 : min m 65535 = m := by omega
          have F2 : min ((k : Int) + 1) 65535 = ((k : Int) + 1) := by omega
          rw [F1] at hs hM ha hM2 hj
          rw [F2] at ha hM2
          obtain ⟨p, hp⟩ : ∃ p, p = min (m + d) 65535 := ⟨_, rfl⟩
          rw [← hp] at ha hM2
          have HSu := Lib.hid (sum_any A1 k q1 (List.replicate k d) wr R1.out (Lib.hid (fun z hz => by rw [List.eq_of_mem_replicate hz]; unfold In64; omega)))
          rw [hs] at HSu
          have HAd := Lib.hid (fun W => add_any m (k : Int) d W hM (by unfold In64; omega))
          rw [ha] at HAd
          have HM1 := Lib.hid (fun W => may_any m (k : Int) true (Lib.hid (decide_eq_true hM)) W)
          have HM2 := Lib.hid (fun W => may_any p ((k : Int) + 1) true (Lib.hid (decide_eq_true hM2)) W)
          have HJo := Lib.hid (fun W => join_any m (k : Int) m (k : Int) W hM hM)
          rw [hj] at HJo
          unfold TellC cv at HSu HAd HJo
          simp only at HSu HAd HJo
          clear hs hM ha hM2 hj hp F1 F2 R1
          go_wp2_with fail
          refine HSu.out.mono ?_
          rintro e w3 ⟨rfl, hb3⟩
          have B3 := Lib.hid (HB.out.trans (hb3.mono HB.out.size))
          have hb4 := below_new w3 (.cells #[.int .i64 m, .int .i64 (k : Int)] 25)
          have C4 := Lib.hid (Cel2.new w3 (.int .i64 m) (.int .i64 (k : Int)) 25)
          have B4 := Lib.hid (B3.out.trans (hb4.mono B3.out.size))
          clear hb3 hb4 B3 HSu
          have c0 := C4.out.c0
          have c1 := C4.out.c1
          go_wp2_with fail
          refine (HAd.out _).mono ?_
          rintro e w5 ⟨rfl, hb5⟩
          have C5 := C4.out.step hb5
          have hb6 := below_new w5 (.cells #[.int .i64 p, .int .i64 ((k : Int) + 1)] 25)
          have C6 := Lib.hid (C5.step hb6)
          have D6 := Lib.hid (Cel2.new w5 (.int .i64 p) (.int .i64 ((k : Int) + 1)) 25)
          have B6 := Lib.hid ((B4.out.trans (hb5.mono B4.out.size)).trans (hb6.mono (Nat.le_trans B4.out.size hb5.size)))
          clear hb5 hb6 C5 B4 HAd c0 c1 C4
          have c0 := C6.out.c0
          have c1 := C6.out.c1
          have d0 := D6.out.c0
          have d1 := D6.out.c1
          go_wp2_with fail
          refine (HM1.out _).mono ?_
          rintro e w7 ⟨rfl, hb7⟩
          have C7 := Lib.hid (C6.out.step hb7)
          have D7 := Lib.hid (D6.out.step hb7)
          have B7 := Lib.hid (B6.out.trans (hb7.mono B6.out.size))
          clear hb7 C6 D6 B6 c0 c1 d0 d1
          have d0 := D7.out.c0
          have d1 := D7.out.c1
          go_wp2_with fail
          refine (HM2.out _).mono ?_
          rintro e w8 ⟨rfl, hb8⟩
          have C8 := Lib.hid (C7.out.step hb8)
          have B8 := Lib.hid (B7.out.trans (hb8.mono B7.out.size))
          clear hb8 C7 D7 B7 d0 d1
          have c0 := C8.out.c0
          have c1 := C8.out.c1
          go_wp2_with fail
          refine (HJo.out _).mono ?_
          rintro e w9 ⟨rfl, hb9⟩
          have B9 := Lib.hid (B8.out.trans (hb9.mono B8.out.size))
          clear hb9 B8 C8 c0 c1
          have hFd : ∀ W, (Instr.field 25 (.agg #[.int .i64 65535, .int .i64 65535]) 1).run Try.prog W = .ok (.int .i64 65535) W := fun W => by kernel_rfl
          go_wp2_with fail
          go_ret
          exact ⟨rfl, B9.out⟩
set_option maxRecDepth 100000 in
theorem lifted (os : Os) (started : os.Started) (H : Type) (enc : TypeId × Value → H) :
    ReturnsInHanded {} Try.checked os 6 .any (Rows.costMostSpec.pre6 enc Try.prog Try.f6 Rows.costMostRow.domain false) (Rows.costMostSpec.post enc Try.prog Try.f6 false true false false) := by
  refine returnsInHanded_of_change (C := Try.checked) own started (by kernel_rfl) Try.func6
    (ChangeSpec.witness6 (enc := enc) (C := Try.checked) false ⟨#[], #[.int .u8 0, .int .u8 0], []⟩ 8 (by kernel_rfl) (by kernel_rfl) (by kernel_rfl) (by kernel_rfl)) ?_
  intro W base args ds gs before hval0 hW hcnd _
  have hval : ∀ (j : Nat) t v, Try.f6.params[j]? = some t → args[j]? = some v → Value.okWide Try.prog W .any base t v := hval0
  have hW' := hW
  obtain ⟨p, q, hA0, hV, rfl, hfz, hnd⟩ := hW
  have hA : DataW.TrodAll enc Try.prog W 0 (fun _ => true) true Try.f6.params.toList args.toList ds p := hA0
  rw [Try.params6] at hA hval
  obtain ⟨v0, vs0, d0, ds0, p0, q0, hargs, rfl, rfl, h0, r0⟩ := trodAll_cons hA
  obtain ⟨v1, vs1, d1, ds1, p1, q1, rfl, rfl, rfl, h1, r1⟩ := trodAll_cons r0
  obtain ⟨rfl, rfl, rfl⟩ := trodAll_nil r1
  obtain rfl : args = #[v0, v1] := by cases args; simp_all
  obtain ⟨rfl, rfl⟩ := trodVars_none hV
  obtain ⟨a0, rfl, rfl, rfl, w0⟩ := open_int Try.underlying5 (hval 0 5 v0 rfl rfl) h0
  obtain ⟨a1, rfl, rfl, rfl, w1⟩ := open_int Try.underlying5 (hval 1 5 v1 rfl rfl) h1
  clear hA0 hval0
  refine (walk a0 a1 W w0 w1).mono fun e W' ⟨he, bel⟩ => ?_
  subst he
  exact ⟨_, rfl, _, _, _, [], _, [], hW', trodAll_mk1 (shut_bool Try.underlying4 _), (trodAll_cons_mk (shut_int Try.underlying5 w0) (trodAll_cons_mk (shut_int Try.underlying5 w1) trodAll_mk0)), rfl, bel.frame _, fun h => by cases h⟩
theorem over : Rows.costMostRow.holds Try.pinned (OpenSpec.ofChange Rows.costMostSpec) :=
  OpenClaim.holds_of_wide 6 Try.f6 rfl rfl rfl rfl rfl rfl rfl ⟨rfl, rfl, rfl, rfl, rfl⟩ rfl rfl rfl rfl rfl (by kernel_rfl) Try.func6 (by kernel_rfl)
    (of_decide_eq_true (by kernel_rfl)) (by unfold Func.isWrapper; first | (rw [if_pos (by decide +kernel)]; kernel_rfl) | (rw [if_neg (by decide +kernel)]; exact ⟨rfl, rfl⟩))
    (fun os started H enc _ => lifted os started H enc)
theorem proved : Rows.CostMostSaid := over
end Go.Proofs.Ytceboejhdgjgoaa.costMost

