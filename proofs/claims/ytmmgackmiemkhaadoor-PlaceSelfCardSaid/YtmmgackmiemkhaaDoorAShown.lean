/- The document's example of layer 18, at the head of all statements. -/
import Derived.Test.YtmmgackmiemkhaaDoorAWake
import Derived.Test.YtmmgackmiemkhaaDoorJNewL
import Derived.Test.YtmmgackmiemkhaaDoorM5
import Derived.Test.YtmmgackmiemkhaaDoorM7
import Derived.Test.YtmmgackmiemkhaaDoorM6
namespace Go.Proofs.YtmmgackmiemkhaaDoor
open Go.RowKit
set_option linter.unusedVariables false

def exA : List (Int × Int) := [(-1, 0), (0, 1), (1, 2), (2, 3), (2, 3)]
def aR : Jp.Rn := ⟨exA, 4, [(0, []), (0, [])], [[]], 3⟩
theorem a_new : Jp.new exA 4 = (aR, 0) := by
  unfold Jp.new
  rw [if_neg (by decide), if_neg (by decide)]
  rfl
theorem a_may : Jp.May aR := by
  rcases Jp.new_is exA 4 with ⟨h, _⟩ | ⟨h, hm⟩
  · rw [a_new] at h; exact absurd rfl h
  · exact (show Jp.made exA 4 = aR from rfl) ▸ hm
theorem a_low : Low aR := by
  have fit : ∀ l : List Int, (∀ z ∈ l, 0 ≤ z ∧ z ≤ 9) → ∀ z ∈ l, In64 z := fun l h z hz => by have := h z hz; unfold In64; omega
  exact ⟨by decide, by decide, by decide, by decide, by decide, fit _ (by decide)⟩
theorem a_one : Jp.wake aR 2 0 = 1 := by
  rw [Jp.wake_near ⟨a_may, by decide, by decide⟩ (by decide)]
  decide
theorem a_self : Jp.wake aR 3 0 = 0 := Jp.wake_self ⟨a_may, by decide, by decide⟩ (by decide)
theorem exa_tree (w : World) (T : TypeId) : VRow (w.alloc (.cells #[.int .i64 (-1), .int .i64 0, .int .i64 0, .int .i64 1, .int .i64 1, .int .i64 2, .int .i64 2, .int .i64 3, .int .i64 2, .int .i64 3] T)) (w.alloc (.cells #[.int .i64 (-1), .int .i64 0, .int .i64 0, .int .i64 1, .int .i64 1, .int .i64 2, .int .i64 2, .int .i64 3, .int .i64 2, .int .i64 3] T)).heap.size (some ⟨w.heap.size, 0, none⟩) exA := by
  intro i x hx
  refine ⟨w.heap.size, 0, rfl, by simp, ?_⟩
  have hi : i < 5 := (List.getElem?_eq_some_iff.1 hx).1
  match i, hi with
  | 0, _ => simp [exA] at hx; subst hx; exact ⟨by rw [World.cell?_alloc_at _ _ _ _ rfl]; rfl, by rw [World.cell?_alloc_at _ _ _ _ rfl]; rfl⟩
  | 1, _ => simp [exA] at hx; subst hx; exact ⟨by rw [World.cell?_alloc_at _ _ _ _ rfl]; rfl, by rw [World.cell?_alloc_at _ _ _ _ rfl]; rfl⟩
  | 2, _ => simp [exA] at hx; subst hx; exact ⟨by rw [World.cell?_alloc_at _ _ _ _ rfl]; rfl, by rw [World.cell?_alloc_at _ _ _ _ rfl]; rfl⟩
  | 3, _ => simp [exA] at hx; subst hx; exact ⟨by rw [World.cell?_alloc_at _ _ _ _ rfl]; rfl, by rw [World.cell?_alloc_at _ _ _ _ rfl]; rfl⟩
  | 4, _ => simp [exA] at hx; subst hx; exact ⟨by rw [World.cell?_alloc_at _ _ _ _ rfl]; rfl, by rw [World.cell?_alloc_at _ _ _ _ rfl]; rfl⟩
set_option maxRecDepth 100000 in
set_option maxHeartbeats 2000000 in
theorem ashown_any (w : World) (hT : Tab w) : Calls Tryd.prog 5 #[] w fun e w' => e = .returned (.bool true) ∧ Below w.heap.size w w' := by
  have HT := Lib.hid hT
  obtain ⟨V1, h1⟩ : ∃ V1, V1 = w.alloc (.cells #[.int .i64 (-1), .int .i64 0, .int .i64 0, .int .i64 1, .int .i64 1, .int .i64 2, .int .i64 2, .int .i64 3, .int .i64 2, .int .i64 3] 42) := ⟨_, rfl⟩
  have hv := exa_tree w 42
  have b1 := below_new w (.cells #[.int .i64 (-1), .int .i64 0, .int .i64 0, .int .i64 1, .int .i64 1, .int .i64 2, .int .i64 2, .int .i64 3, .int .i64 2, .int .i64 3] 42)
  have s1 : V1.heap.size = w.heap.size + 1 := by rw [h1]; simp
  rw [← h1] at hv b1
  have hnw := runsNew_any (F := fun b => b < V1.heap.size) (some ⟨w.heap.size, 0, none⟩) 5 5 exA 4 V1 (Lib.hid rfl) (by decide) (Lib.hid (by intro x hx; simp [exA] at hx; rcases hx with rfl | rfl | rfl | rfl <;> exact ⟨⟨by decide, by decide⟩, ⟨by decide, by decide⟩⟩)) hv (fun _ ad e => by injection e with e; subst e; simp only; omega) (fun b hb => hb) ⟨by decide, by decide⟩ (HT.out.step b1)
  rw [a_new] at hnw
  have NW := Lib.hid hnw
  have E1 := Lib.hid h1
  have B1 := Lib.hid b1
  clear h1 hv b1 s1 hnw hT
  go_enter Tryd.func5, Tryd.ntmps5
  go_wp2_with (rw [← E1.out])
  refine NW.out.mono ?_
  rintro e w2 ⟨⟨A1, nt1, ct1, R1, nr1, cr1, S1, ns1, cs1⟩, rfl, hm2, hb2⟩
  unfold jv
  simp only
  have hbn := below_new w2 (.cells #[.slice A1 nt1 ct1, .int .i64 4, .slice R1 nr1 cr1, .slice S1 ns1 cs1, .int .u64 3] 33)
  have hY := B5.new w2 (.slice A1 nt1 ct1) (.int .i64 4) (.slice R1 nr1 cr1) (.slice S1 ns1 cs1) (.int .u64 3) 33
  obtain ⟨V3, hV3⟩ : ∃ V3, V3 = w2.alloc (.cells #[.slice A1 nt1 ct1, .int .i64 4, .slice R1 nr1 cr1, .slice S1 ns1 cs1, .int .u64 3] 33) := ⟨_, rfl⟩
  rw [← hV3] at hbn hY
  have E3 := Lib.hid hV3
  have B3 := Lib.hid (held_trans (held_trans B1.out hb2) hbn)
  have hM := hm2.below hbn
  have W1 := Lib.hid (fun W (hb : Below V3.heap.size V3 W) => by have h := placeWake_any _ aR 2 0 W (hM.below hb) a_low (by decide) ⟨by decide, by decide⟩ (HT.out.step (held_trans B3.out hb)); rw [a_one] at h; exact h)
  have W2 := Lib.hid (fun W (hb : Below V3.heap.size V3 W) => by have h := placeWake_any _ aR 3 0 W (hM.below hb) a_low (by decide) ⟨by decide, by decide⟩ (HT.out.step (held_trans B3.out hb)); rw [a_self] at h; exact h)
  unfold jv at W1 W2
  simp only at W1 W2
  have t0 := hY.c0
  have t1 := hY.c1
  have t2 := hY.c2
  have t3 := hY.c3
  have t4 := hY.c4
  have HMS := Lib.hid (show aR.size = 4 ∧ ((aR.on : Nat) : Int) = 3 from ⟨rfl, rfl⟩)
  clear NW E1 hm2 hb2 hbn hY hV3 hM
  simp only [HMS.out.1, HMS.out.2] at W1 W2 ⊢
  go_wp2_with (rw [← E3.out])
  clear E3
  refine wp_region_held_drew (S := fun w' => w'.cell? ⟨w2.heap.size, 0, none⟩ = some (.slice A1 nt1 ct1) ∧ w'.cell? ⟨w2.heap.size, 1, none⟩ = some (.int .i64 4) ∧ w'.cell? ⟨w2.heap.size, 2, none⟩ = some (.slice R1 nr1 cr1) ∧ w'.cell? ⟨w2.heap.size, 3, none⟩ = some (.slice S1 ns1 cs1) ∧ w'.cell? ⟨w2.heap.size, 4, none⟩ = some (.int .u64 3)) (by kernel_rfl) ⟨t0, t1, t2, t3, t4⟩ (fun hHeld => ?_)
  have hb1 := (Below.refl V3.heap.size V3).drew
  obtain ⟨x1, hx1⟩ : ∃ x1, x1 = V3.drew := ⟨_, rfl⟩
  rw [← hx1] at hb1 hHeld ⊢
  clear hx1
  refine wpAnyH_takesJ (i := 0) (v := (.int .i64 0)) (some 15) rfl rfl (by kernel_rfl) (by kernel_rfl) (by kernel_rfl) (fun _ _ _ h => h) (Or.inl ⟨by rfl, (by intro W9 hSw; (try dsimp only at hSw); go_simp; first | done | with_reducible rfl)⟩) (by assumption) ?_
  simp only [Act.put, List.setIfInBounds_toArray]; try simp only [List.set_cons_zero, List.set_cons_succ]
  refine wpAnyH_takesJ (i := 1) (v := (.bool true)) (some 16) rfl rfl (by kernel_rfl) (by kernel_rfl) (by kernel_rfl) (fun _ _ _ h => h) (Or.inl ⟨by rfl, (by intro W9 hSw; (try dsimp only at hSw); go_simp; first | done | with_reducible rfl)⟩) (by assumption) ?_
  simp only [Act.put, List.setIfInBounds_toArray]; try simp only [List.set_cons_zero, List.set_cons_succ]
  refine wpAnyH_takesJ (i := 2) (v := (.bool true)) (some 17) rfl rfl (by kernel_rfl) (by kernel_rfl) (by kernel_rfl) (fun _ _ _ h => h) (Or.inl ⟨by rfl, (by intro W9 hSw; (try dsimp only at hSw); go_simp; first | done | with_reducible rfl)⟩) (by assumption) ?_
  simp only [Act.put, List.setIfInBounds_toArray]; try simp only [List.set_cons_zero, List.set_cons_succ]
  refine wpAnyH_takesJ (i := 3) (v := (.agg #[.slice A1 nt1 ct1, .int .i64 4, .slice R1 nr1 cr1, .slice S1 ns1 cs1, .int .u64 3])) (some 18) rfl rfl (by kernel_rfl) (by kernel_rfl) (by kernel_rfl) (fun _ _ _ h => h) (Or.inl ⟨by rfl, (by intro W9 hSw; (try dsimp only at hSw); go_simp; first | done | with_reducible rfl)⟩) (by assumption) ?_
  simp only [Act.put, List.setIfInBounds_toArray]; try simp only [List.set_cons_zero, List.set_cons_succ]
  refine wpAnyH_ready (rs := [4]) (by kernel_rfl) (by simp) ?_
  refine AllReadyH.cons rfl (fun K hK => ?_) AllReadyH.nil
  go_simp
  have hbl := below_new x1 (.cells (#[.int .i64 1]) 3)
  have OL := Lib.hid (row_lit x1 ([1]) (by simp))
  have hb2 := hb1.trans (hbl.mono hb1.size)
  obtain ⟨x2, hx⟩ : ∃ y, y = x1.alloc (.cells (#[.int .i64 1]) 3) := ⟨_, rfl⟩
  rw [show (.cells (([1]).map (Value.int .i64)).toArray 3 : Obj) = .cells (#[.int .i64 1]) 3 from rfl] at OL
  rw [← hx] at OL hb2 ⊢
  obtain ⟨L2, hL⟩ : ∃ L, L = x1.heap.size := ⟨_, rfl⟩
  rw [← hL] at OL ⊢
  clear hx hL hbl
  refine hK.out _ _ (by exact ⟨keepcell hb2 t0, keepcell hb2 t1, keepcell hb2 t2, keepcell hb2 t3, keepcell hb2 t4⟩) (fun hHeld => ?_)
  clear hK K
  try dsimp only
  refine wpAnyH_ready (rs := [5]) (by kernel_rfl) (by simp) ?_
  refine AllReadyH.cons rfl (fun K hK => ?_) AllReadyH.nil
  go_simp
  go_at_call 16
  refine (of_any _ _ _ ([1]) _ (by exact OL.out)).mono ?_
  rintro e y ⟨rfl, rfl⟩
  rw [show Zp.ofL ([1]) = 2 from by decide]
  refine hK.out _ _ (by exact ⟨keepcell hb2 t0, keepcell hb2 t1, keepcell hb2 t2, keepcell hb2 t3, keepcell hb2 t4⟩) (fun hHeld => ?_)
  clear hK K OL
  try dsimp only
  refine wpAnyH_ready (rs := [6]) (by kernel_rfl) (by simp) ?_
  refine AllReadyH.cons rfl (fun K hK => ?_) AllReadyH.nil
  go_simp
  go_at_call 9
  refine (W1.out _ (by exact hb2)).mono ?_
  rintro e x3 ⟨rfl, hbx⟩
  have hb3 := hb2.trans (hbx.mono hb2.size)
  refine hK.out _ _ (by exact ⟨keepcell hb3 t0, keepcell hb3 t1, keepcell hb3 t2, keepcell hb3 t3, keepcell hb3 t4⟩) (fun hHeld => ?_)
  clear hK K hbx
  try dsimp only
  refine wpAnyH_takesJ (i := 7) (v := (.bool true)) (some 22) rfl rfl (by kernel_rfl) (by kernel_rfl) (by kernel_rfl) (fun _ _ _ h => h) (Or.inl ⟨by rfl, (by intro W9 hSw; (try dsimp only at hSw); go_simp; first | done | with_reducible rfl)⟩) (by assumption) ?_
  simp only [Act.put, List.setIfInBounds_toArray]; try simp only [List.set_cons_zero, List.set_cons_succ]
  refine wpAnyH_takesJ (i := 8) (v := (.bool true)) (some 23) rfl rfl (by kernel_rfl) (by kernel_rfl) (by kernel_rfl) (fun _ _ _ h => h) (Or.inl ⟨by rfl, (by intro W9 hSw; (try dsimp only at hSw); go_simp; first | done | with_reducible rfl)⟩) (by assumption) ?_
  simp only [Act.put, List.setIfInBounds_toArray]; try simp only [List.set_cons_zero, List.set_cons_succ]
  refine wpAnyH_takesJ (i := 9) (v := (.bool true)) (some 24) rfl rfl (by kernel_rfl) (by kernel_rfl) (by kernel_rfl) (fun _ _ _ h => h) (Or.inl ⟨by rfl, (by intro W9 hSw; (try dsimp only at hSw); go_simp; first | done | with_reducible rfl)⟩) (by assumption) ?_
  simp only [Act.put, List.setIfInBounds_toArray]; try simp only [List.set_cons_zero, List.set_cons_succ]
  refine wpAnyH_takesJ (i := 10) (v := (.agg #[.slice A1 nt1 ct1, .int .i64 4, .slice R1 nr1 cr1, .slice S1 ns1 cs1, .int .u64 3])) (some 25) rfl rfl (by kernel_rfl) (by kernel_rfl) (by kernel_rfl) (fun _ _ _ h => h) (Or.inl ⟨by rfl, (by intro W9 hSw; (try dsimp only at hSw); go_simp; first | done | with_reducible rfl)⟩) (by assumption) ?_
  simp only [Act.put, List.setIfInBounds_toArray]; try simp only [List.set_cons_zero, List.set_cons_succ]
  refine wpAnyH_ready (rs := [11]) (by kernel_rfl) (by simp) ?_
  refine AllReadyH.cons rfl (fun K hK => ?_) AllReadyH.nil
  go_simp
  have hbl := below_new x3 (.cells (#[.int .i64 0, .int .i64 1]) 3)
  have OL := Lib.hid (row_lit x3 ([0, 1]) (by simp))
  have hb4 := hb3.trans (hbl.mono hb3.size)
  obtain ⟨x4, hx⟩ : ∃ y, y = x3.alloc (.cells (#[.int .i64 0, .int .i64 1]) 3) := ⟨_, rfl⟩
  rw [show (.cells (([0, 1]).map (Value.int .i64)).toArray 3 : Obj) = .cells (#[.int .i64 0, .int .i64 1]) 3 from rfl] at OL
  rw [← hx] at OL hb4 ⊢
  obtain ⟨L4, hL⟩ : ∃ L, L = x3.heap.size := ⟨_, rfl⟩
  rw [← hL] at OL ⊢
  clear hx hL hbl
  refine hK.out _ _ (by exact ⟨keepcell hb4 t0, keepcell hb4 t1, keepcell hb4 t2, keepcell hb4 t3, keepcell hb4 t4⟩) (fun hHeld => ?_)
  clear hK K
  try dsimp only
  refine wpAnyH_ready (rs := [12]) (by kernel_rfl) (by simp) ?_
  refine AllReadyH.cons rfl (fun K hK => ?_) AllReadyH.nil
  go_simp
  go_at_call 16
  refine (of_any _ _ _ ([0, 1]) _ (by exact OL.out)).mono ?_
  rintro e y ⟨rfl, rfl⟩
  rw [show Zp.ofL ([0, 1]) = 3 from by decide]
  refine hK.out _ _ (by exact ⟨keepcell hb4 t0, keepcell hb4 t1, keepcell hb4 t2, keepcell hb4 t3, keepcell hb4 t4⟩) (fun hHeld => ?_)
  clear hK K OL
  try dsimp only
  refine wpAnyH_ready (rs := [13]) (by kernel_rfl) (by simp) ?_
  refine AllReadyH.cons rfl (fun K hK => ?_) AllReadyH.nil
  go_simp
  go_at_call 9
  refine (W2.out _ (by exact hb4)).mono ?_
  rintro e x5 ⟨rfl, hbx⟩
  have hb5 := hb4.trans (hbx.mono hb4.size)
  refine hK.out _ _ (by exact ⟨keepcell hb5 t0, keepcell hb5 t1, keepcell hb5 t2, keepcell hb5 t3, keepcell hb5 t4⟩) (fun hHeld => ?_)
  clear hK K hbx
  try dsimp only
  refine wpAnyH_takesJ (i := 14) (v := (.bool true)) (some 29) rfl rfl (by kernel_rfl) (by kernel_rfl) (by kernel_rfl) (fun _ _ _ h => h) (Or.inl ⟨by rfl, (by intro W9 hSw; (try dsimp only at hSw); go_simp; first | done | with_reducible rfl)⟩) (by assumption) ?_
  simp only [Act.put, List.setIfInBounds_toArray]; try simp only [List.set_cons_zero, List.set_cons_succ]
  refine wpAnyH_takesJ (i := 15) (v := (.bool true)) (some 30) rfl rfl (by kernel_rfl) (by kernel_rfl) (by kernel_rfl) (fun _ _ _ h => h) (Or.inl ⟨by rfl, (by intro W9 hSw; (try dsimp only at hSw); go_simp; first | done | with_reducible rfl)⟩) (by assumption) ?_
  simp only [Act.put, List.setIfInBounds_toArray]; try simp only [List.set_cons_zero, List.set_cons_succ]
  refine wpAnyH_takesJ (i := 16) (v := (.bool true)) (some 0) rfl rfl (by kernel_rfl) (by kernel_rfl) (by kernel_rfl) (fun _ _ _ h => h) (Or.inl ⟨by rfl, (by intro W9 hSw; (try dsimp only at hSw); go_simp; first | done | with_reducible rfl)⟩) (by assumption) ?_
  simp only [Act.put, List.setIfInBounds_toArray]; try simp only [List.set_cons_zero]
  refine wpAnyH_done (by kernel_rfl) ?_ _
  have BE := Lib.hid (held_trans B3.out hb5)
  clear hb1 hb2 hb3 hb4 hb5 hHeld
  go_wp2_with fail
  go_ret
  exact ⟨rfl, BE.out⟩
end Go.Proofs.YtmmgackmiemkhaaDoor

