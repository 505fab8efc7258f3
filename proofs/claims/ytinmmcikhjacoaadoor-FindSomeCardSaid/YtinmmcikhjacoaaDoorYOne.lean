/- The example of the law's own: Runs of one processor. -/
import Derived.Test.YtinmmcikhjacoaaDoorM5
import Derived.Test.YtinmmcikhjacoaaDoorM6
import Derived.Test.YtinmmcikhjacoaaDoorJRefMay
namespace Go.Proofs.YtinmmcikhjacoaaDoor
open Go.RowKit
set_option linter.unusedVariables false

theorem xr_one {cs : El → List Value} {sz : Nat} {w : World} {b : Nat} {e : El} (hb : b < w.heap.size) (hc : ∀ j u, (cs e)[j]? = some u → w.cell? ⟨b, j, none⟩ = some u) (hr : Row w e.A e.n e.c e.l) : XR cs sz w (some ⟨b, 0, none⟩) 1 1 [e] := by
  refine ⟨rfl, Nat.le_refl _, by decide, (fun h => by cases h), fun i e' hi => ?_, fun e' he => ?_⟩
  · cases i with
    | zero =>
      simp at hi
      subst hi
      exact ⟨b, 0, rfl, hb, fun j u hj => by rw [Nat.zero_mul, Nat.add_zero, Nat.zero_add]; exact hc j u hj⟩
    | succ i => simp at hi
  · rw [List.mem_singleton] at he
    subst he
    exact hr
theorem ex_tree (w : World) (T : TypeId) : VRow (w.alloc (.cells #[.int .i64 (-1), .int .i64 0, .int .i64 0, .int .i64 1, .int .i64 1, .int .i64 2, .int .i64 2, .int .i64 3] T)) (w.alloc (.cells #[.int .i64 (-1), .int .i64 0, .int .i64 0, .int .i64 1, .int .i64 1, .int .i64 2, .int .i64 2, .int .i64 3] T)).heap.size (some ⟨w.heap.size, 0, none⟩) Jp.exT := by
  intro i x hx
  refine ⟨w.heap.size, 0, rfl, by simp, ?_⟩
  have hi : i < 4 := (List.getElem?_eq_some_iff.1 hx).1
  match i, hi with
  | 0, _ => simp [Jp.exT] at hx; subst hx; exact ⟨by rw [World.cell?_alloc_at _ _ _ _ rfl]; rfl, by rw [World.cell?_alloc_at _ _ _ _ rfl]; rfl⟩
  | 1, _ => simp [Jp.exT] at hx; subst hx; exact ⟨by rw [World.cell?_alloc_at _ _ _ _ rfl]; rfl, by rw [World.cell?_alloc_at _ _ _ _ rfl]; rfl⟩
  | 2, _ => simp [Jp.exT] at hx; subst hx; exact ⟨by rw [World.cell?_alloc_at _ _ _ _ rfl]; rfl, by rw [World.cell?_alloc_at _ _ _ _ rfl]; rfl⟩
  | 3, _ => simp [Jp.exT] at hx; subst hx; exact ⟨by rw [World.cell?_alloc_at _ _ _ _ rfl]; rfl, by rw [World.cell?_alloc_at _ _ _ _ rfl]; rfl⟩
def oneR : Jp.Rn := ⟨Jp.exT, 2, [(4, [2])], [[1]], 1⟩
set_option maxRecDepth 100000 in
set_option maxHeartbeats 1000000 in
theorem yone_any (w : World) : Calls Tryd.prog 25 #[] w (TellJ (fun _ => False) w oneR) := by
  go_enter Tryd.func25, Tryd.ntmps25
  go_wp2_with fail
  obtain ⟨V0, h0⟩ : ∃ V0, V0 = w.alloc (.cells #[.slice (some ⟨w.heap.size + 1, 0, none⟩) 4 4, .int .i64 2, .slice (some ⟨w.heap.size + 1 + 1 + 1, 0, none⟩) 1 1, .slice (some ⟨w.heap.size + 1 + 1 + 1 + 1 + 1, 0, none⟩) 1 1, .int .u64 1] 33) := ⟨_, rfl⟩
  have Y0 := C5.new w (.slice (some ⟨w.heap.size + 1, 0, none⟩) 4 4) (.int .i64 2) (.slice (some ⟨w.heap.size + 1 + 1 + 1, 0, none⟩) 1 1) (.slice (some ⟨w.heap.size + 1 + 1 + 1 + 1 + 1, 0, none⟩) 1 1) (.int .u64 1) 33
  have b0 := below_new w (.cells #[.slice (some ⟨w.heap.size + 1, 0, none⟩) 4 4, .int .i64 2, .slice (some ⟨w.heap.size + 1 + 1 + 1, 0, none⟩) 1 1, .slice (some ⟨w.heap.size + 1 + 1 + 1 + 1 + 1, 0, none⟩) 1 1, .int .u64 1] 33)
  have s0 : V0.heap.size = w.heap.size + 1 := by rw [h0]; simp
  rw [← h0] at Y0 b0 ⊢
  clear h0
  obtain ⟨V1, h1⟩ : ∃ V1, V1 = V0.alloc (.cells #[.int .i64 (-1), .int .i64 0, .int .i64 0, .int .i64 1, .int .i64 1, .int .i64 2, .int .i64 2, .int .i64 3] 85) := ⟨_, rfl⟩
  have hv := ex_tree V0 85
  have b1 := below_new V0 (.cells #[.int .i64 (-1), .int .i64 0, .int .i64 0, .int .i64 1, .int .i64 1, .int .i64 2, .int .i64 2, .int .i64 3] 85)
  have s1 : V1.heap.size = V0.heap.size + 1 := by rw [h1]; simp
  rw [← h1] at hv b1 ⊢
  clear h1
  obtain ⟨V2, h2⟩ : ∃ V2, V2 = V1.alloc (.cells #[.int .i64 2] 3) := ⟨_, rfl⟩
  have r2 := row_at V1 2 V1.heap.size rfl
  have b2 := below_new V1 (.cells #[.int .i64 2] 3)
  have s2 : V2.heap.size = V1.heap.size + 1 := by rw [h2]; simp
  rw [← h2] at r2 b2 ⊢
  clear h2
  obtain ⟨V3, h3⟩ : ∃ V3, V3 = V2.alloc (.cells #[.int .i64 4, .slice (some ⟨w.heap.size + 1 + 1, 0, none⟩) 1 1] 48) := ⟨_, rfl⟩
  have c3 : V3.cell? ⟨V2.heap.size, 0, none⟩ = some (.int .i64 4) := by rw [h3, World.cell?_alloc_at _ _ _ _ rfl]; rfl
  have c3' : V3.cell? ⟨V2.heap.size, 1, none⟩ = some (.slice (some ⟨w.heap.size + 1 + 1, 0, none⟩) 1 1) := by rw [h3, World.cell?_alloc_at _ _ _ _ rfl]; rfl
  have b3 := below_new V2 (.cells #[.int .i64 4, .slice (some ⟨w.heap.size + 1 + 1, 0, none⟩) 1 1] 48)
  have s3 : V3.heap.size = V2.heap.size + 1 := by rw [h3]; simp
  rw [← h3] at b3 ⊢
  clear h3
  obtain ⟨V4, h4⟩ : ∃ V4, V4 = V3.alloc (.cells #[.int .i64 1] 3) := ⟨_, rfl⟩
  have r4 := row_at V3 1 V3.heap.size rfl
  have b4 := below_new V3 (.cells #[.int .i64 1] 3)
  have s4 : V4.heap.size = V3.heap.size + 1 := by rw [h4]; simp
  rw [← h4] at r4 b4 ⊢
  clear h4
  obtain ⟨V5, h5⟩ : ∃ V5, V5 = V4.alloc (.cells #[.slice (some ⟨w.heap.size + 1 + 1 + 1 + 1, 0, none⟩) 1 1] 45) := ⟨_, rfl⟩
  have c5 : V5.cell? ⟨V4.heap.size, 0, none⟩ = some (.slice (some ⟨w.heap.size + 1 + 1 + 1 + 1, 0, none⟩) 1 1) := by rw [h5, World.cell?_alloc_at _ _ _ _ rfl]; rfl
  have b5 := below_new V4 (.cells #[.slice (some ⟨w.heap.size + 1 + 1 + 1 + 1, 0, none⟩) 1 1] 45)
  have s5 : V5.heap.size = V4.heap.size + 1 := by rw [h5]; simp
  rw [← h5] at b5 ⊢
  clear h5
  have q45 := b5
  have q35 := held_trans b4 q45
  have q25 := held_trans b3 q35
  have q15 := held_trans b2 q25
  have q05 := held_trans b1 q15
  have qw5 := held_trans b0 q05
  have e1 : V0.heap.size = w.heap.size + 1 := s0
  have e2 : V1.heap.size = w.heap.size + 1 + 1 := by omega
  have e3 : V2.heap.size = w.heap.size + 1 + 1 + 1 := by omega
  have e4 : V3.heap.size = w.heap.size + 1 + 1 + 1 + 1 := by omega
  have e5 : V4.heap.size = w.heap.size + 1 + 1 + 1 + 1 + 1 := by omega
  have Y5 := Y0.step q05
  have k0 := Y5.b5.c0
  have k1 := Y5.b5.c1
  have k2 := Y5.b5.c2
  have k3 := Y5.b5.c3
  have k4 := Y5.b5.c4
  have hv5 := (hv.below q15).more q15.size
  have R2 := r2.below q25
  have R4 := r4.below q45
  have C3 := keepcell q35 c3
  have C3' := keepcell q35 c3'
  have hM : RM (More (fun _ => False) w) V5 ⟨some ⟨w.heap.size + 1, 0, none⟩, 4, 4, some ⟨w.heap.size + 1 + 1 + 1, 0, none⟩, 1, 1, some ⟨w.heap.size + 1 + 1 + 1 + 1 + 1, 0, none⟩, 1, 1⟩ oneR := by
    refine ⟨rfl, by show 4 ≤ 9223372036854775807; decide, (by intro x hx; simp [oneR, Jp.exT] at hx; rcases hx with rfl | rfl | rfl | rfl <;> exact ⟨⟨by decide, by decide⟩, ⟨by decide, by decide⟩⟩), by rw [← e1]; exact hv5, fun _ ad e => ?_, ⟨[⟨4, [2], some ⟨w.heap.size + 1 + 1, 0, none⟩, 1, 1⟩], ?_, rfl, ?_⟩, ⟨[⟨0, [1], some ⟨w.heap.size + 1 + 1 + 1 + 1, 0, none⟩, 1, 1⟩], ?_, rfl, ?_⟩, by decide, ⟨by decide, by decide⟩⟩
    · injection e with e; subst e; exact .inr (by simp only; omega)
    · refine xr_one (by omega) (fun j u hj => ?_) (by rw [← e2]; exact R2)
      match j, hj with
      | 0, hj => simp [csG] at hj; subst hj; rw [← e3]; exact C3
      | 1, hj => simp [csG] at hj; subst hj; rw [← e3]; exact C3'
    · refine ⟨fun _ ad e => ?_, fun e he _ ad h => ?_⟩
      · injection e with e; subst e; exact .inr (by simp only; omega)
      · rw [List.mem_singleton] at he; subst he; injection h with h; subst h; exact .inr (by simp only; omega)
    · refine xr_one (by omega) (fun j u hj => ?_) (by rw [← e4]; exact R4)
      match j, hj with
      | 0, hj => simp [csL] at hj; subst hj; rw [← e5]; exact c5
    · refine ⟨fun _ ad e => ?_, fun e he _ ad h => ?_⟩
      · injection e with e; subst e; exact .inr (by simp only; omega)
      · rw [List.mem_singleton] at he; subst he; injection h with h; subst h; exact .inr (by simp only; omega)
  refine bodyPost_ret ?_ rfl ⟨_, rfl, hM, qw5⟩
  simp [results, Tryd.results25, go_sem, k0, k1, k2, k3, k4, jv, oneR]
end Go.Proofs.YtinmmcikhjacoaaDoor

