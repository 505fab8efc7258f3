/- RunsNew: of any vertices, and any size, there are Runs in which nobody stands, and all processors are plugged, or they are refused, as the document says: the call answers true and changes nothing that was there; for every input. -/
import Derived.Test.YtgloibgmaiadfaaDoorJShown
import Derived.Test.YtgloibgmaiadfaaDoorJReal
import Derived.Test.YtgloibgmaiadfaaDoorJRefNew
namespace Go.Proofs.YtgloibgmaiadfaaDoor.runsNew
open Go.ChangeShapes Go.WideShapes Go.ChangeAt Go.RowKit
set_option linter.unusedVariables false

theorem low_zero : Low Jp.zero := ⟨by decide, by decide, fun g hg => by simp [Jp.zero] at hg, fun g hg => by simp [Jp.zero] at hg, by decide, fun z hz => by simp [Jp.zero, Jp.all] at hz⟩
theorem low_made {vs : List (Int × Int)} (hn : vs.length ≤ 64) (size : Int) : Low (Jp.made vs size) := by
  have h1 := Tp.those_le (fun x => x.2 == 3) vs vs.length
  have h2 := Tp.those_le (fun x => x.2 == 1) vs vs.length
  rw [List.take_length] at h1 h2
  refine ⟨by unfold Jp.made Dp.procs; simp only [List.length_replicate]; omega, by unfold Jp.made Dp.nodes; simp only [List.length_replicate]; omega, fun g hg => ?_, fun l hl => ?_, by unfold Jp.made; exact hn, fun z hz => by rw [Jp.made_all] at hz; simp at hz⟩
  · have hg' : g ∈ List.replicate (Dp.procs vs).length ((0 : Int), ([] : List Int)) := hg
    rw [List.eq_of_mem_replicate hg']
    exact Nat.zero_le _
  · have hl' : l ∈ List.replicate (Dp.nodes vs).length ([] : List Int) := hl
    rw [List.eq_of_mem_replicate hl']
    exact Nat.zero_le _
set_option maxRecDepth 100000 in
set_option maxHeartbeats 4000000 in
theorem walk (A : Option Addr) (n c : Nat) (vs : List (Int × Int)) (size : Int) (w : World) (hn : Hid (vs.length = n)) (hl : n ≤ 9223372036854775807) (hf : Hid (Fit vs)) (hv : VRow w w.heap.size A vs) (hs : In64 size) (hT : Tab w) :
    Calls Tryd.prog 3 #[.slice A n c, .int .i64 size] w fun e w' => e = .returned (.bool true) ∧ Below w.heap.size w w' := by
  have HV := Lib.hid hv
  have HTW := Lib.hid hT
  have HS := Lib.hid hs
  have HLI := Lib.hid (show vs ≠ [] → ∀ ad, A = some ad → ad.block < w.heap.size from fun hne ad hA => by
    obtain ⟨x0, hx0⟩ : ∃ x, vs[0]? = some x := ⟨_, List.getElem?_eq_getElem (List.length_pos_iff.2 hne)⟩
    obtain ⟨b, off, e5, hb, _⟩ := hv 0 x0 hx0
    rw [hA] at e5
    injection e5 with e5
    subst e5
    exact hb)
  clear hv hT hs
  go_enter Tryd.func3, Tryd.ntmps3
  go_wp2_with fail
  refine (jshown_any w HTW.out).mono ?_
  rintro e w1 ⟨rfl, hb1⟩
  have B1 := Lib.hid hb1
  clear hb1
  by_cases h64 : 64 < n
  · have h64' : (64 : Int) < (n : Int) := by omega
    go_wp2_with fail
    go_ret
    exact ⟨rfl, B1.out⟩
  have h64' : ¬ (64 : Int) < (n : Int) := by omega
  have NW := Lib.hid (runsNew_any (F := fun b => b < w.heap.size) A n c vs size w1 hn hl hf ((HV.out.below B1.out).more B1.out.size) HLI.out (fun b hb => Nat.lt_of_lt_of_le hb B1.out.size) HS.out (HTW.out.step B1.out))
  obtain ⟨p, hp⟩ : ∃ p, p = Jp.new vs size := ⟨_, rfl⟩
  rw [← hp] at NW
  have HPN := Lib.hid hp
  clear hp
  go_wp2_with fail
  refine NW.out.mono ?_
  rintro e w2 ⟨⟨A1, nt1, ct1, R1, nr1, cr1, S1, ns1, cs1⟩, rfl, hm2, hb2⟩
  unfold jv
  simp only
  have hbn := below_new w2 (.cells #[.slice A1 nt1 ct1, .int .i64 p.1.size, .slice R1 nr1 cr1, .slice S1 ns1 cs1, .int .u64 (p.1.on : Nat)] 29)
  have hY := B5.new w2 (.slice A1 nt1 ct1) (.int .i64 p.1.size) (.slice R1 nr1 cr1) (.slice S1 ns1 cs1) (.int .u64 (p.1.on : Nat)) 29
  obtain ⟨V3, hV3⟩ : ∃ V3, V3 = w2.alloc (.cells #[.slice A1 nt1 ct1, .int .i64 p.1.size, .slice R1 nr1 cr1, .slice S1 ns1 cs1, .int .u64 (p.1.on : Nat)] 29) := ⟨_, rfl⟩
  rw [← hV3] at hbn hY
  have E3 := Lib.hid hV3
  have B3 := Lib.hid (held_trans (held_trans B1.out hb2) hbn)
  have Y3 := Lib.hid hY
  have M3 := Lib.hid ((hm2.bound.mono (G := fun b => b < w2.heap.size) (fun b hb => hb.2)).below hbn)
  have RN := Lib.hid (jrefNew_any (F := fun b => b < w.heap.size) A n c vs size V3 hn hl hf ((HV.out.below B3.out).more B3.out.size) HLI.out (fun b hb => Nat.lt_of_lt_of_le hb B3.out.size) HS.out)
  rw [← HPN.out] at RN
  clear hm2 hb2 hbn hY hV3 NW B1
  go_wp2_with (rw [← E3.out])
  clear E3
  refine RN.out.mono ?_
  rintro e w4 ⟨⟨A2, nt2, ct2, R2, nr2, cr2, S2, ns2, cs2⟩, rfl, hm4, hb4⟩
  unfold jv
  simp only
  have hbn := below_new w4 (.cells #[.slice A2 nt2 ct2, .int .i64 p.1.size, .slice R2 nr2 cr2, .slice S2 ns2 cs2, .int .u64 (p.1.on : Nat)] 35)
  have hZ := B5.new w4 (.slice A2 nt2 ct2) (.int .i64 p.1.size) (.slice R2 nr2 cr2) (.slice S2 ns2 cs2) (.int .u64 (p.1.on : Nat)) 35
  obtain ⟨V5, hV5⟩ : ∃ V5, V5 = w4.alloc (.cells #[.slice A2 nt2 ct2, .int .i64 p.1.size, .slice R2 nr2 cr2, .slice S2 ns2 cs2, .int .u64 (p.1.on : Nat)] 35) := ⟨_, rfl⟩
  rw [← hV5] at hbn hZ
  have E5 := Lib.hid hV5
  have hb45 := hb4.trans (hbn.mono hb4.size)
  have B5' := Lib.hid (held_trans B3.out hb45)
  have Y5 := Y3.out.step hb45
  have M5 := Lib.hid (M3.out.below hb45)
  have N5 := Lib.hid ((hm4.bound.mono (G := fun b => b < w4.heap.size) (fun b hb => hb.2)).below hbn)
  have HW2 := Lib.hid (show w2.heap.size < V3.heap.size from Y3.out.lt)
  have HW4 := Lib.hid hbn.size
  have HW34 := Lib.hid hb4.size
  have t0 := Y5.c0
  have t1 := Y5.c1
  have t2 := Y5.c2
  have t3 := Y5.c3
  have t4 := Y5.c4
  have z0 := hZ.c0
  have z1 := hZ.c1
  have z2 := hZ.c2
  have z3 := hZ.c3
  have z4 := hZ.c4
  clear hm4 hb4 hbn hZ hV5 hb45 Y5 Y3 M3 B3 RN
  go_wp2_with (rw [← E5.out])
  clear E5
  have HLO := Lib.hid (show Low p.1 from by
    rcases Jp.new_is vs size with ⟨_, h⟩ | ⟨h, _⟩
    · rw [HPN.out, h]; exact low_zero
    · rw [HPN.out, h]; exact low_made (by have := hn.out; omega) size)
  have hRL := fun W (hb : Below V5.heap.size V5 W) => jreal_any ⟨A1, nt1, ct1, R1, nr1, cr1, S1, ns1, cs1⟩ p.1 W (M5.out.below hb) (fun b hb' => Nat.lt_of_lt_of_le hb' (by have h1 := hb.size; have h2 := HW2.out; have h3 := HW4.out; have h4 := HW34.out; omega)) HLO.out
  unfold jv at hRL
  simp only at hRL
  have RL := Lib.hid hRL
  clear hRL
  refine wp_region_held_drew (S := fun w' => (w'.cell? ⟨w2.heap.size, 0, none⟩ = some (.slice A1 nt1 ct1) ∧ w'.cell? ⟨w2.heap.size, 1, none⟩ = some (.int .i64 p.1.size) ∧ w'.cell? ⟨w2.heap.size, 2, none⟩ = some (.slice R1 nr1 cr1) ∧ w'.cell? ⟨w2.heap.size, 3, none⟩ = some (.slice S1 ns1 cs1) ∧ w'.cell? ⟨w2.heap.size, 4, none⟩ = some (.int .u64 (p.1.on : Nat))) ∧ w'.cell? ⟨w4.heap.size, 0, none⟩ = some (.slice A2 nt2 ct2) ∧ w'.cell? ⟨w4.heap.size, 1, none⟩ = some (.int .i64 p.1.size) ∧ w'.cell? ⟨w4.heap.size, 2, none⟩ = some (.slice R2 nr2 cr2) ∧ w'.cell? ⟨w4.heap.size, 3, none⟩ = some (.slice S2 ns2 cs2) ∧ w'.cell? ⟨w4.heap.size, 4, none⟩ = some (.int .u64 (p.1.on : Nat))) (by kernel_rfl) ⟨⟨t0, t1, t2, t3, t4⟩, z0, z1, z2, z3, z4⟩ (fun hHeld => ?_)
  refine wpAnyH_takesJ (i := 0) (v := (.bool true)) (some 27) rfl rfl (by kernel_rfl) (by kernel_rfl) (by kernel_rfl) (fun _ _ _ h => h) (Or.inl ⟨by rfl, (by intro W9 hSw; (try dsimp only at hSw); go_simp; first | done | with_reducible rfl)⟩) (by assumption) ?_
  simp only [Act.put, List.setIfInBounds_toArray]; try simp only [List.set_cons_zero, List.set_cons_succ]
  refine wpAnyH_takesJ (i := 1) (v := (.bool true)) (some 28) rfl rfl (by kernel_rfl) (by kernel_rfl) (by kernel_rfl) (fun _ _ _ h => h) (Or.inl ⟨by rfl, (by intro W9 hSw; (try dsimp only at hSw); go_simp; first | done | with_reducible rfl)⟩) (by assumption) ?_
  simp only [Act.put, List.setIfInBounds_toArray]; try simp only [List.set_cons_zero, List.set_cons_succ]
  refine wpAnyH_takesJ (i := 2) (v := (.agg #[.slice A1 nt1 ct1, .int .i64 p.1.size, .slice R1 nr1 cr1, .slice S1 ns1 cs1, .int .u64 (p.1.on : Nat)])) (some 29) rfl rfl (by kernel_rfl) (by kernel_rfl) (by kernel_rfl) (fun _ _ _ h => h) (Or.inl ⟨by rfl, (by intro W9 hSw; (try dsimp only at hSw); go_simp; first | done | with_reducible rfl)⟩) (by assumption) ?_
  simp only [Act.put, List.setIfInBounds_toArray]; try simp only [List.set_cons_zero, List.set_cons_succ]
  refine wpAnyH_takesJ (i := 4) (v := (.agg #[.slice A2 nt2 ct2, .int .i64 p.1.size, .slice R2 nr2 cr2, .slice S2 ns2 cs2, .int .u64 (p.1.on : Nat)])) (some 31) rfl rfl (by kernel_rfl) (by kernel_rfl) (by kernel_rfl) (fun _ _ _ h => h) (Or.inl ⟨by rfl, (by intro W9 hSw; (try dsimp only at hSw); go_simp; first | done | with_reducible rfl)⟩) (by assumption) ?_
  simp only [Act.put, List.setIfInBounds_toArray]; try simp only [List.set_cons_zero, List.set_cons_succ]
  refine wpAnyH_ready (rs := [3]) (by kernel_rfl) (by simp) ?_
  refine AllReadyH.cons rfl (fun K hK => ?_) AllReadyH.nil
  go_simp
  go_at_call 12
  refine (RL.out _ (by exact (Below.refl _ _).drew)).mono ?_
  rintro e w6 ⟨⟨A6, nt6, ct6, R6, nr6, cr6, S6, ns6, cs6⟩, rfl, hm6, hb6'⟩
  have hb6 := (Below.refl V5.heap.size V5).drew.trans (hb6'.mono (by simp))
  have hSM := jsame_any ⟨A6, nt6, ct6, R6, nr6, cr6, S6, ns6, cs6⟩ ⟨A2, nt2, ct2, R2, nr2, cr2, S2, ns2, cs2⟩ p.1 p.1 w6 hm6 (N5.out.below hb6) HLO.out rfl rfl rfl
  unfold jv at hSM
  simp only at hSM
  have SM := Lib.hid hSM
  unfold jv
  simp only
  refine hK.out _ _ (by exact ⟨⟨keepcell hb6 t0, keepcell hb6 t1, keepcell hb6 t2, keepcell hb6 t3, keepcell hb6 t4⟩, keepcell hb6 z0, keepcell hb6 z1, keepcell hb6 z2, keepcell hb6 z3, keepcell hb6 z4⟩) (fun hHeld => ?_)
  clear hK K hSM hm6
  try dsimp only
  refine wpAnyH_ready (rs := [5]) (by kernel_rfl) (by simp) ?_
  refine AllReadyH.cons rfl (fun K hK => ?_) AllReadyH.nil
  go_simp
  go_at_call 11
  refine SM.out.mono ?_
  rintro e w7 ⟨rfl, hb7'⟩
  have hb7 := hb6.trans (hb7'.mono hb6.size)
  refine hK.out _ _ (by exact ⟨⟨keepcell hb7 t0, keepcell hb7 t1, keepcell hb7 t2, keepcell hb7 t3, keepcell hb7 t4⟩, keepcell hb7 z0, keepcell hb7 z1, keepcell hb7 z2, keepcell hb7 z3, keepcell hb7 z4⟩) (fun hHeld => ?_)
  clear hK K
  try dsimp only
  refine wpAnyH_takesJ (i := 6) (v := (.bool true)) (some 33) rfl rfl (by kernel_rfl) (by kernel_rfl) (by kernel_rfl) (fun _ _ _ h => h) (Or.inl ⟨by rfl, (by intro W9 hSw; (try dsimp only at hSw); go_simp; first | done | with_reducible rfl)⟩) (by assumption) ?_
  simp only [Act.put, List.setIfInBounds_toArray]; try simp only [List.set_cons_zero, List.set_cons_succ]
  refine wpAnyH_takesJ (i := 7) (v := (.bool true)) (some 34) rfl rfl (by kernel_rfl) (by kernel_rfl) (by kernel_rfl) (fun _ _ _ h => h) (Or.inl ⟨by rfl, (by intro W9 hSw; (try dsimp only at hSw); go_simp; first | done | with_reducible rfl)⟩) (by assumption) ?_
  simp only [Act.put, List.setIfInBounds_toArray]; try simp only [List.set_cons_zero, List.set_cons_succ]
  refine wpAnyH_takesJ (i := 8) (v := (.int .i64 p.2)) (some 35) rfl rfl (by kernel_rfl) (by kernel_rfl) (by kernel_rfl) (fun _ _ _ h => h) (Or.inl ⟨by rfl, (by intro W9 hSw; (try dsimp only at hSw); go_simp; first | done | with_reducible rfl)⟩) (by assumption) ?_
  simp only [Act.put, List.setIfInBounds_toArray]; try simp only [List.set_cons_zero, List.set_cons_succ]
  refine wpAnyH_takesJ (i := 9) (v := (.int .i64 p.2)) (some 36) rfl rfl (by kernel_rfl) (by kernel_rfl) (by kernel_rfl) (fun _ _ _ h => h) (Or.inl ⟨by rfl, (by intro W9 hSw; (try dsimp only at hSw); go_simp; first | done | with_reducible rfl)⟩) (by assumption) ?_
  simp only [Act.put, List.setIfInBounds_toArray]; try simp only [List.set_cons_zero, List.set_cons_succ]
  refine wpAnyH_takesJ (i := 10) (v := (.bool true)) (some 37) rfl rfl (by kernel_rfl) (by kernel_rfl) (by kernel_rfl) (fun _ _ _ h => h) (Or.inl ⟨by rfl, (by intro W9 hSw; (try dsimp only at hSw); go_simp; first | done | with_reducible rfl)⟩) (by assumption) ?_
  simp only [Act.put, List.setIfInBounds_toArray]; try simp only [List.set_cons_zero, List.set_cons_succ]
  refine wpAnyH_takesJ (i := 11) (v := (.bool true)) (some 38) rfl rfl (by kernel_rfl) (by kernel_rfl) (by kernel_rfl) (fun _ _ _ h => h) (Or.inl ⟨by rfl, (by intro W9 hSw; (try dsimp only at hSw); go_simp; first | done | with_reducible rfl)⟩) (by assumption) ?_
  simp only [Act.put, List.setIfInBounds_toArray]; try simp only [List.set_cons_zero, List.set_cons_succ]
  refine wpAnyH_takesJ (i := 12) (v := (.bool true)) (some 39) rfl rfl (by kernel_rfl) (by kernel_rfl) (by kernel_rfl) (fun _ _ _ h => h) (Or.inl ⟨by rfl, (by intro W9 hSw; (try dsimp only at hSw); go_simp; first | done | with_reducible rfl)⟩) (by assumption) ?_
  simp only [Act.put, List.setIfInBounds_toArray]; try simp only [List.set_cons_zero, List.set_cons_succ]
  refine wpAnyH_takesJ (i := 13) (v := (.int .i64 p.2)) (some 40) rfl rfl (by kernel_rfl) (by kernel_rfl) (by kernel_rfl) (fun _ _ _ h => h) (Or.inl ⟨by rfl, (by intro W9 hSw; (try dsimp only at hSw); go_simp; first | done | with_reducible rfl)⟩) (by assumption) ?_
  simp only [Act.put, List.setIfInBounds_toArray]; try simp only [List.set_cons_zero, List.set_cons_succ]
  rcases Jp.new_is vs size with ⟨hne, _⟩ | ⟨hnw, hmy⟩
  · rw [← HPN.out] at hne
    have e1 : (p.2 != 0) = true := by rw [bne_iff_ne]; exact hne
    have e2 : (p.2 == 0) = false := by rw [beq_eq_false_iff_ne]; exact hne
    refine wpAnyH_takesJ (i := 14) (v := (.bool true)) (some 41) rfl rfl (by kernel_rfl) (by kernel_rfl) (by kernel_rfl) (fun _ _ _ h => h) (Or.inl ⟨by rfl, (by intro W9 hSw; (try dsimp only at hSw); go_simp; first | done | with_reducible rfl)⟩) (by assumption) ?_
    simp only [Act.put, List.setIfInBounds_toArray]; try simp only [List.set_cons_zero, List.set_cons_succ]
    refine wpAnyH_takesJ (i := 15) (v := (.bool true)) (some 42) rfl rfl (by kernel_rfl) (by kernel_rfl) (by kernel_rfl) (fun _ _ _ h => h) (Or.inl ⟨by rfl, (by intro W9 hSw; (try dsimp only at hSw); go_simp; first | done | with_reducible rfl)⟩) (by assumption) ?_
    simp only [Act.put, List.setIfInBounds_toArray]; try simp only [List.set_cons_zero, List.set_cons_succ]
    refine wpAnyH_takesJ (i := 16) (v := undef) (some 43) rfl rfl (by kernel_rfl) (by kernel_rfl) (by kernel_rfl) (fun _ _ _ h => h) (Or.inr ⟨by rfl, rfl⟩) (by assumption) ?_
    simp only [Act.put, List.setIfInBounds_toArray]; try simp only [List.set_cons_zero, List.set_cons_succ]
    refine wpAnyH_takesJ (i := 17) (v := undef) (some 44) rfl rfl (by kernel_rfl) (by kernel_rfl) (by kernel_rfl) (fun _ _ _ h => h) (Or.inr ⟨by rfl, rfl⟩) (by assumption) ?_
    simp only [Act.put, List.setIfInBounds_toArray]; try simp only [List.set_cons_zero, List.set_cons_succ]
    refine wpAnyH_takesJ (i := 18) (v := undef) (some 45) rfl rfl (by kernel_rfl) (by kernel_rfl) (by kernel_rfl) (fun _ _ _ h => h) (Or.inr ⟨by rfl, rfl⟩) (by assumption) ?_
    simp only [Act.put, List.setIfInBounds_toArray]; try simp only [List.set_cons_zero, List.set_cons_succ]
    refine wpAnyH_takesJ (i := 19) (v := undef) (some 46) rfl rfl (by kernel_rfl) (by kernel_rfl) (by kernel_rfl) (fun _ _ _ h => h) (Or.inr ⟨by rfl, rfl⟩) (by assumption) ?_
    simp only [Act.put, List.setIfInBounds_toArray]; try simp only [List.set_cons_zero, List.set_cons_succ]
    refine wpAnyH_takesJ (i := 20) (v := undef) (some 47) rfl rfl (by kernel_rfl) (by kernel_rfl) (by kernel_rfl) (fun _ _ _ h => h) (Or.inr ⟨by rfl, rfl⟩) (by assumption) ?_
    simp only [Act.put, List.setIfInBounds_toArray]; try simp only [List.set_cons_zero, List.set_cons_succ]
    refine wpAnyH_takesJ (i := 21) (v := undef) (some 48) rfl rfl (by kernel_rfl) (by kernel_rfl) (by kernel_rfl) (fun _ _ _ h => h) (Or.inr ⟨by rfl, rfl⟩) (by assumption) ?_
    simp only [Act.put, List.setIfInBounds_toArray]; try simp only [List.set_cons_zero, List.set_cons_succ]
    refine wpAnyH_takesJ (i := 22) (v := undef) (some 49) rfl rfl (by kernel_rfl) (by kernel_rfl) (by kernel_rfl) (fun _ _ _ h => h) (Or.inr ⟨by rfl, rfl⟩) (by assumption) ?_
    simp only [Act.put, List.setIfInBounds_toArray]; try simp only [List.set_cons_zero, List.set_cons_succ]
    refine wpAnyH_takesJ (i := 23) (v := undef) (some 50) rfl rfl (by kernel_rfl) (by kernel_rfl) (by kernel_rfl) (fun _ _ _ h => h) (Or.inr ⟨by rfl, rfl⟩) (by assumption) ?_
    simp only [Act.put, List.setIfInBounds_toArray]; try simp only [List.set_cons_zero, List.set_cons_succ]
    refine wpAnyH_takesJ (i := 24) (v := undef) (some 51) rfl rfl (by kernel_rfl) (by kernel_rfl) (by kernel_rfl) (fun _ _ _ h => h) (Or.inr ⟨by rfl, rfl⟩) (by assumption) ?_
    simp only [Act.put, List.setIfInBounds_toArray]; try simp only [List.set_cons_zero, List.set_cons_succ]
    refine wpAnyH_takesJ (i := 25) (v := undef) (some 52) rfl rfl (by kernel_rfl) (by kernel_rfl) (by kernel_rfl) (fun _ _ _ h => h) (Or.inr ⟨by rfl, rfl⟩) (by assumption) ?_
    simp only [Act.put, List.setIfInBounds_toArray]; try simp only [List.set_cons_zero, List.set_cons_succ]
    refine wpAnyH_takesJ (i := 26) (v := undef) (some 53) rfl rfl (by kernel_rfl) (by kernel_rfl) (by kernel_rfl) (fun _ _ _ h => h) (Or.inr ⟨by rfl, rfl⟩) (by assumption) ?_
    simp only [Act.put, List.setIfInBounds_toArray]; try simp only [List.set_cons_zero, List.set_cons_succ]
    refine wpAnyH_takesJ (i := 27) (v := undef) (some 54) rfl rfl (by kernel_rfl) (by kernel_rfl) (by kernel_rfl) (fun _ _ _ h => h) (Or.inr ⟨by rfl, rfl⟩) (by assumption) ?_
    simp only [Act.put, List.setIfInBounds_toArray]; try simp only [List.set_cons_zero, List.set_cons_succ]
    refine wpAnyH_takesJ (i := 28) (v := undef) (some 55) rfl rfl (by kernel_rfl) (by kernel_rfl) (by kernel_rfl) (fun _ _ _ h => h) (Or.inr ⟨by rfl, rfl⟩) (by assumption) ?_
    simp only [Act.put, List.setIfInBounds_toArray]; try simp only [List.set_cons_zero, List.set_cons_succ]
    refine wpAnyH_takesJ (i := 29) (v := undef) (some 56) rfl rfl (by kernel_rfl) (by kernel_rfl) (by kernel_rfl) (fun _ _ _ h => h) (Or.inr ⟨by rfl, rfl⟩) (by assumption) ?_
    simp only [Act.put, List.setIfInBounds_toArray]; try simp only [List.set_cons_zero, List.set_cons_succ]
    refine wpAnyH_takesJ (i := 30) (v := (.bool true)) (some 57) rfl rfl (by kernel_rfl) (by kernel_rfl) (by kernel_rfl) (fun _ _ _ h => h) (Or.inl ⟨by rfl, (by intro W9 hSw; (try dsimp only at hSw); go_simp; first | done | with_reducible rfl)⟩) (by assumption) ?_
    simp only [Act.put, List.setIfInBounds_toArray]; try simp only [List.set_cons_zero, List.set_cons_succ]
    refine wpAnyH_takesJ (i := 31) (v := (.bool true)) (some 58) rfl rfl (by kernel_rfl) (by kernel_rfl) (by kernel_rfl) (fun _ _ _ h => h) (Or.inl ⟨by rfl, (by intro W9 hSw; (try dsimp only at hSw); go_simp; first | done | with_reducible rfl)⟩) (by assumption) ?_
    simp only [Act.put, List.setIfInBounds_toArray]; try simp only [List.set_cons_zero, List.set_cons_succ]
    refine wpAnyH_takesJ (i := 32) (v := (.bool true)) (some 4) rfl rfl (by kernel_rfl) (by kernel_rfl) (by kernel_rfl) (fun _ _ _ h => h) (Or.inl ⟨by rfl, (by intro W9 hSw; (try dsimp only at hSw); go_simp; first | done | with_reducible rfl)⟩) (by assumption) ?_
    simp only [Act.put, List.setIfInBounds_toArray]; try simp only [List.set_cons_zero, List.set_cons_succ]
    refine wpAnyH_done (by kernel_rfl) ?_ _
    have BE := Lib.hid (held_trans B5'.out hb7)
    clear hb6 hb6' hb7 hb7'
    go_wp2_with fail
    go_ret
    exact ⟨rfl, BE.out⟩
  · rw [← HPN.out] at hnw
    have e0 : p.2 = 0 := by rw [hnw]
    have e3 : p.1 = Jp.made vs size := by rw [hnw]
    have e4 : p.1.size = size := by rw [e3]; rfl
    have e5 : (p.1.size == size) = true := by rw [beq_iff_eq]; exact e4
    have HMY := Lib.hid (show Jp.May p.1 by rw [e3]; exact hmy)
    have HAN := Lib.hid (show Jp.all p.1 = [] by rw [e3]; exact Jp.made_all vs size)
    have E0 := Lib.hid e0
    have hMY := fun W (hb : Below V5.heap.size V5 W) => runsMay_any ⟨A1, nt1, ct1, R1, nr1, cr1, S1, ns1, cs1⟩ p.1 true W (Lib.hid (by simp [HMY.out])) (M5.out.below hb) HLO.out (HTW.out.step (held_trans B5'.out hb))
    have hAL := fun W (hb : Below V5.heap.size V5 W) => runsAll_any ⟨A1, nt1, ct1, R1, nr1, cr1, S1, ns1, cs1⟩ p.1 W (M5.out.below hb) HLO.out
    unfold jv at hMY hAL
    simp only at hMY hAL
    have MY := Lib.hid hMY
    have AL := Lib.hid hAL
    rw [e0]
    clear hnw e0 e3 e4 hMY hAL hmy
    refine wpAnyH_takesJ (i := 14) (v := (.bool false)) (some 41) rfl rfl (by kernel_rfl) (by kernel_rfl) (by kernel_rfl) (fun _ _ _ h => h) (Or.inl ⟨by rfl, (by intro W9 hSw; (try dsimp only at hSw); go_simp; first | done | with_reducible rfl)⟩) (by assumption) ?_
    simp only [Act.put, List.setIfInBounds_toArray]; try simp only [List.set_cons_zero, List.set_cons_succ]
    refine wpAnyH_takesJ (i := 15) (v := (.bool false)) (some 42) rfl rfl (by kernel_rfl) (by kernel_rfl) (by kernel_rfl) (fun _ _ _ h => h) (Or.inl ⟨by rfl, (by intro W9 hSw; (try dsimp only at hSw); go_simp; first | done | with_reducible rfl)⟩) (by assumption) ?_
    simp only [Act.put, List.setIfInBounds_toArray]; try simp only [List.set_cons_zero, List.set_cons_succ]
    refine wpAnyH_takesJ (i := 16) (v := (.agg #[.slice A1 nt1 ct1, .int .i64 p.1.size, .slice R1 nr1 cr1, .slice S1 ns1 cs1, .int .u64 (p.1.on : Nat)])) (some 43) rfl rfl (by kernel_rfl) (by kernel_rfl) (by kernel_rfl) (fun _ _ _ h => h) (Or.inl ⟨by rfl, (by intro W9 hSw; (try dsimp only at hSw); go_simp; first | done | with_reducible rfl)⟩) (by assumption) ?_
    simp only [Act.put, List.setIfInBounds_toArray]; try simp only [List.set_cons_zero, List.set_cons_succ]
    refine wpAnyH_ready (rs := [17]) (by kernel_rfl) (by simp) ?_
    refine AllReadyH.cons rfl (fun K hK => ?_) AllReadyH.nil
    go_simp
    go_at_call 13
    refine (MY.out _ (by exact hb7)).mono ?_
    rintro e w8 ⟨rfl, hb8'⟩
    have hb8 := hb7.trans (hb8'.mono hb7.size)
    refine hK.out _ _ (by exact ⟨⟨keepcell hb8 t0, keepcell hb8 t1, keepcell hb8 t2, keepcell hb8 t3, keepcell hb8 t4⟩, keepcell hb8 z0, keepcell hb8 z1, keepcell hb8 z2, keepcell hb8 z3, keepcell hb8 z4⟩) (fun hHeld => ?_)
    clear hK K
    try dsimp only
    refine wpAnyH_takesJ (i := 18) (v := (.bool true)) (some 45) rfl rfl (by kernel_rfl) (by kernel_rfl) (by kernel_rfl) (fun _ _ _ h => h) (Or.inl ⟨by rfl, (by intro W9 hSw; (try dsimp only at hSw); go_simp; first | done | with_reducible rfl)⟩) (by assumption) ?_
    simp only [Act.put, List.setIfInBounds_toArray]; try simp only [List.set_cons_zero, List.set_cons_succ]
    refine wpAnyH_takesJ (i := 19) (v := (.agg #[.slice A1 nt1 ct1, .int .i64 p.1.size, .slice R1 nr1 cr1, .slice S1 ns1 cs1, .int .u64 (p.1.on : Nat)])) (some 46) rfl rfl (by kernel_rfl) (by kernel_rfl) (by kernel_rfl) (fun _ _ _ h => h) (Or.inl ⟨by rfl, (by intro W9 hSw; (try dsimp only at hSw); go_simp; first | done | with_reducible rfl)⟩) (by assumption) ?_
    simp only [Act.put, List.setIfInBounds_toArray]; try simp only [List.set_cons_zero, List.set_cons_succ]
    refine wpAnyH_ready (rs := [20]) (by kernel_rfl) (by simp) ?_
    refine AllReadyH.cons rfl (fun K hK => ?_) AllReadyH.nil
    go_simp
    go_at_call 14
    refine (AL.out _ (by exact hb8)).mono ?_
    rintro e w9 ⟨A9, n9, c9, rfl, hr9, _, hb9'⟩
    obtain rfl : n9 = 0 := by have := hr9.len; rw [HAN.out] at this; exact this.symm
    have hb9 := hb8.trans (hb9'.mono hb8.size)
    refine hK.out _ _ (by exact ⟨⟨keepcell hb9 t0, keepcell hb9 t1, keepcell hb9 t2, keepcell hb9 t3, keepcell hb9 t4⟩, keepcell hb9 z0, keepcell hb9 z1, keepcell hb9 z2, keepcell hb9 z3, keepcell hb9 z4⟩) (fun hHeld => ?_)
    clear hK K
    try dsimp only
    refine wpAnyH_takesJ (i := 21) (v := (.int .i64 0)) (some 48) rfl rfl (by kernel_rfl) (by kernel_rfl) (by kernel_rfl) (fun _ _ _ h => h) (Or.inl ⟨by rfl, (by intro W9 hSw; (try dsimp only at hSw); go_simp; first | done | with_reducible rfl)⟩) (by assumption) ?_
    simp only [Act.put, List.setIfInBounds_toArray]; try simp only [List.set_cons_zero, List.set_cons_succ]
    refine wpAnyH_takesJ (i := 22) (v := (.bool true)) (some 49) rfl rfl (by kernel_rfl) (by kernel_rfl) (by kernel_rfl) (fun _ _ _ h => h) (Or.inl ⟨by rfl, (by intro W9 hSw; (try dsimp only at hSw); go_simp; first | done | with_reducible rfl)⟩) (by assumption) ?_
    simp only [Act.put, List.setIfInBounds_toArray]; try simp only [List.set_cons_zero, List.set_cons_succ]
    refine wpAnyH_takesJ (i := 23) (v := (.bool true)) (some 50) rfl rfl (by kernel_rfl) (by kernel_rfl) (by kernel_rfl) (fun _ _ _ h => h) (Or.inl ⟨by rfl, (by intro W9 hSw; (try dsimp only at hSw); go_simp; first | done | with_reducible rfl)⟩) (by assumption) ?_
    simp only [Act.put, List.setIfInBounds_toArray]; try simp only [List.set_cons_zero, List.set_cons_succ]
    refine wpAnyH_takesJ (i := 24) (v := (.bool true)) (some 51) rfl rfl (by kernel_rfl) (by kernel_rfl) (by kernel_rfl) (fun _ _ _ h => h) (Or.inl ⟨by rfl, (by intro W9 hSw; (try dsimp only at hSw); go_simp; first | done | with_reducible rfl)⟩) (by assumption) ?_
    simp only [Act.put, List.setIfInBounds_toArray]; try simp only [List.set_cons_zero, List.set_cons_succ]
    refine wpAnyH_takesJ (i := 25) (v := (.pointer (some ⟨w2.heap.size, 1, none⟩))) (some 52) rfl rfl (by kernel_rfl) (by kernel_rfl) (by kernel_rfl) (fun _ _ _ h => h) (Or.inl ⟨by rfl, (by intro W9 hSw; (try dsimp only at hSw); go_simp; first | done | with_reducible rfl)⟩) (by assumption) ?_
    simp only [Act.put, List.setIfInBounds_toArray]; try simp only [List.set_cons_zero, List.set_cons_succ]
    refine wpAnyH_takesJ (i := 26) (v := (.int .i64 p.1.size)) (some 53) rfl rfl (by kernel_rfl) (by kernel_rfl) (by kernel_rfl) (fun _ _ _ h => h) (Or.inl ⟨by rfl, (by intro W9 hSw; (try dsimp only at hSw); go_simp; first | done | with_reducible rfl)⟩) (by assumption) ?_
    simp only [Act.put, List.setIfInBounds_toArray]; try simp only [List.set_cons_zero, List.set_cons_succ]
    refine wpAnyH_takesJ (i := 27) (v := (.int .i64 size)) (some 54) rfl rfl (by kernel_rfl) (by kernel_rfl) (by kernel_rfl) (fun _ _ _ h => h) (Or.inl ⟨by rfl, (by intro W9 hSw; (try dsimp only at hSw); go_simp; first | done | with_reducible rfl)⟩) (by assumption) ?_
    simp only [Act.put, List.setIfInBounds_toArray]; try simp only [List.set_cons_zero, List.set_cons_succ]
    refine wpAnyH_takesJ (i := 28) (v := (.bool true)) (some 55) rfl rfl (by kernel_rfl) (by kernel_rfl) (by kernel_rfl) (fun _ _ _ h => h) (Or.inl ⟨by rfl, (by intro W9 hSw; (try dsimp only at hSw); go_simp; first | done | with_reducible rfl)⟩) (by assumption) ?_
    simp only [Act.put, List.setIfInBounds_toArray]; try simp only [List.set_cons_zero, List.set_cons_succ]
    refine wpAnyH_takesJ (i := 29) (v := (.bool true)) (some 56) rfl rfl (by kernel_rfl) (by kernel_rfl) (by kernel_rfl) (fun _ _ _ h => h) (Or.inl ⟨by rfl, (by intro W9 hSw; (try dsimp only at hSw); go_simp; first | done | with_reducible rfl)⟩) (by assumption) ?_
    simp only [Act.put, List.setIfInBounds_toArray]; try simp only [List.set_cons_zero, List.set_cons_succ]
    refine wpAnyH_takesJ (i := 30) (v := (.bool true)) (some 57) rfl rfl (by kernel_rfl) (by kernel_rfl) (by kernel_rfl) (fun _ _ _ h => h) (Or.inl ⟨by rfl, (by intro W9 hSw; (try dsimp only at hSw); go_simp; first | done | with_reducible rfl)⟩) (by assumption) ?_
    simp only [Act.put, List.setIfInBounds_toArray]; try simp only [List.set_cons_zero, List.set_cons_succ]
    refine wpAnyH_takesJ (i := 31) (v := (.bool true)) (some 58) rfl rfl (by kernel_rfl) (by kernel_rfl) (by kernel_rfl) (fun _ _ _ h => h) (Or.inl ⟨by rfl, (by intro W9 hSw; (try dsimp only at hSw); go_simp; first | done | with_reducible rfl)⟩) (by assumption) ?_
    simp only [Act.put, List.setIfInBounds_toArray]; try simp only [List.set_cons_zero, List.set_cons_succ]
    refine wpAnyH_takesJ (i := 32) (v := (.bool true)) (some 4) rfl rfl (by kernel_rfl) (by kernel_rfl) (by kernel_rfl) (fun _ _ _ h => h) (Or.inl ⟨by rfl, (by intro W9 hSw; (try dsimp only at hSw); go_simp; first | done | with_reducible rfl)⟩) (by assumption) ?_
    simp only [Act.put, List.setIfInBounds_toArray]; try simp only [List.set_cons_zero, List.set_cons_succ]
    refine wpAnyH_done (by kernel_rfl) ?_ _
    have BE := Lib.hid (held_trans B5'.out hb9)
    clear hb6 hb6' hb7 hb7' hb8 hb8' hb9 hb9' hr9
    go_wp2_with fail
    go_ret
    exact ⟨rfl, BE.out⟩
set_option maxRecDepth 100000 in
theorem lifted (os : Os) (started : os.Started) (H : Type) (enc : TypeId × Value → H) :
    ReturnsInHanded {} Tryd.checked os 3 .any (fun w args => (Rows.runsNewSpec.pre enc Tryd.prog Tryd.f3 [] false w args ∧ laidMetH Tryd.prog laidList w) ∧ sizedMet enc Tryd.prog Tryd.f3 (OpenSpec.ofChange Rows.runsNewSpec) false w args)
      (Rows.runsNewSpec.post enc Tryd.prog Tryd.f3 false true false false) := by
  refine returnsInHanded_of_change_and (C := Tryd.checked) (X := fun w _ => laidMetH Tryd.prog laidList w) (fun _ _ _ hh h => h.of_heap hh) own started (by kernel_rfl) Tryd.func3
    (ChangeSpec.witness_shaped (enc := enc) (C := Tryd.checked) (os := os) (X := fun w _ => laidMetH Tryd.prog laidList w) false (World.doorLaid Tryd.prog 14 os) #[.slice none 0 0, .int .i64 0] 8 rfl (World.shaped_of_RefB (by kernel_rfl) (by kernel_rfl)) (by kernel_rfl) (by kernel_rfl) (by kernel_rfl) (door_met os _)) ?_
  intro W base args ds gs before hval0 hW _ _ hL _
  have hval : ∀ (j : Nat) t v, Tryd.f3.params[j]? = some t → args[j]? = some v → Value.okWide Tryd.prog W .any base t v := hval0
  have hW' := hW
  obtain ⟨p, q, hA0, hV, rfl, hfz, hnd⟩ := hW
  have hA : DataW.TrodAll enc Tryd.prog W 0 (fun _ => true) true Tryd.f3.params.toList args.toList ds p := hA0
  rw [Tryd.params3] at hA hval
  obtain ⟨v0, vs0, d0, ds0, p0, q0, hargs, rfl, rfl, h0, r0⟩ := trodAll_cons hA
  obtain ⟨v1, vs1, d1, ds1, p1, q1, rfl, rfl, rfl, h1, r1⟩ := trodAll_cons r0
  obtain ⟨rfl, rfl, rfl⟩ := trodAll_nil r1
  obtain rfl : args = #[v0, v1] := by cases args; simp_all
  obtain ⟨rfl, rfl⟩ := trodVars_none hV
  obtain ⟨a0, len0, cap0, rfl⟩ := okWide_slice Tryd.underlying22 (hval 0 22 v0 rfl rfl)
  have k0 := h0
  have lt0 : ∀ x ∈ p0, x.block < W.heap.size := by obtain ⟨m, hm⟩ := k0; exact DataW.trod_lt m _ _ _ hm
  obtain ⟨hl0, hc0, z0, hn0, hf0, hr0⟩ : len0 ≤ 9223372036854775807 ∧ (len0 ≤ cap0 ∧ cap0 ≤ 9223372036854775807) ∧ ∃ vs : List (Int × Int), vs.length = len0 ∧ Fit vs ∧ VRow W W.heap.size a0 vs := by
    obtain ⟨fuel, hf⟩ := h0
    exact open_vs (by simpa [Value.cells] using hf)
  obtain ⟨a1, rfl, rfl, rfl, w1⟩ := open_int Tryd.underlying3 (hval 1 3 v1 rfl rfl) h1
  clear hA0 hval0
  refine (walk a0 len0 cap0 z0 a1 W (Lib.hid hn0) hl0 (Lib.hid hf0) hr0 (in64_of_wf w1) (tab_of_laid hL)).mono fun e W' ⟨he, bel⟩ => ?_
  subst he
  exact ⟨_, rfl, _, _, _, [], _, [], hW', trodAll_mk1 (shut_bool Tryd.underlying4 _), (trodAll_cons_mk (Below.trod laidOut (by kernel_rfl) (of_decide_eq_true (by kernel_rfl)) k0 bel lt0) (trodAll_cons_mk (shut_int Tryd.underlying3 w1) trodAll_mk0)), rfl, bel.frame _, fun h => by cases h⟩
theorem over : Rows.RunsNewSaid :=
  OpenClaim.holds_of_wide 3 Tryd.f3 rfl rfl rfl rfl rfl rfl rfl ⟨rfl, rfl, rfl, rfl, rfl⟩ rfl rfl rfl rfl rfl (by kernel_rfl) Tryd.func3 (by kernel_rfl)
    (of_decide_eq_true (by kernel_rfl)) (by unfold Func.isWrapper; first | (rw [if_pos (by decide +kernel)]; kernel_rfl) | (rw [if_neg (by decide +kernel)]; exact ⟨rfl, rfl⟩))
    (fun os started H enc _ => lifted os started H enc)
theorem proved : Rows.RunsNewCardSaid :=
  Claim7.holds_tied_plain_at .later [] [.data] true Rows.runsNewCard.stood.harness false
    over (fun _ h => by cases h) (by kernel_rfl) (fun _ h => by cases h) runsNew_row_tie rfl ⟨rfl, rfl⟩ (by kernel_rfl) rfl
    (fun f fn hf hfn => by
      obtain rfl : f = 3 := Option.some.inj ((show Tryd.prog.funcNamed "catafalque/catafalquelaw15.RunsNew" = some 3 by kernel_rfl).symm.trans hf) |>.symm
      obtain rfl : fn = Tryd.f3 := (Option.some.inj (Tryd.func3.symm.trans hfn)).symm
      exact ⟨by kernel_rfl, fun j t ht => by
        rw [Tryd.params3] at ht
        have hm : t ∈ [22, 3] := by simpa using Array.mem_of_getElem? ht
        have hall : ([22, 3].all fun u => !Tryd.prog.wantsStandIn u) = true := by kernel_rfl
        exact (show Tryd.prog.wantsStandIn t = false by simpa using List.all_eq_true.1 hall t hm)⟩)
    (by kernel_rfl)
end Go.Proofs.YtgloibgmaiadfaaDoor.runsNew

