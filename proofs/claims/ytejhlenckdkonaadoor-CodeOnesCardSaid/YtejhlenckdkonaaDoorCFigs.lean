/- The document's Figures, by its contract. -/
import Derived.Test.YtejhlenckdkonaaDoorCName
namespace Go.Proofs.YtejhlenckdkonaaDoor
open Go.RowKit
set_option maxRecDepth 100000
set_option linter.unusedVariables false

theorem dig_toNat (d : Nat) (h : d < 10) : (48 : Int) + (d : Int) = ((UInt8.ofNat (48 + d)).toNat : Int) := by
  have all : ∀ d : Nat, d < 10 → (48 : Int) + (d : Int) = ((UInt8.ofNat (48 + d)).toNat : Int) := by decide
  exact all d h
theorem conv_at (W : World) (b : Nat) (c : UInt8) (z : Int) (hz : z = (c.toNat : Int)) (h : W.cell? ⟨b, 0, none⟩ = some (.int .u8 z)) : (convert 54 9 (.slice (some ⟨b, 0, none⟩) 1 1)).run Tryd.prog W = .ok (.string (str [c])) W := by
  subst hz
  refine run_convert_bytes_back _ _ _ _ ⟨b, 0, none⟩ 1 [c] Tryd.underlying54 Tryd.underlying5 Tryd.underlying9 ?_
  intro j hj
  have h0 : j = 0 := by simp at hj; omega
  subst h0
  exact h
set_option maxHeartbeats 4000000 in
theorem refFigs_low (z : Int) (w : World) (h1 : -10 < z) (h2 : z < 0) :
    Calls Tryd.prog 37 #[.int .i64 z] w fun e w' => e = .returned (.string (str (Cp.figs z))) ∧ Below w.heap.size w w' := by
  obtain ⟨c, hc⟩ : ∃ c : UInt8, c = UInt8.ofNat (48 + z.natAbs) := ⟨_, rfl⟩
  have HF := Lib.hid (show Cp.figs z = [45, c] by rw [figs_low h1 h2, hc])
  have hz : 48 - z = (c.toNat : Int) := by rw [hc, ← dig_toNat z.natAbs (by omega)]; omega
  have hconv := one_byte w c (48 - z) hz
  have hadd : ∀ W, (Op.stringOp .add ⟨#[45]⟩ (str [c])).run Tryd.prog W = .ok (.string (str [45, c])) W := fun W => str_add W [45] [c] (by simp)
  have hb := below_new w (.cells #[.int .u8 (48 - z)] 5)
  clear hc hz
  go_enter Tryd.func37, Tryd.ntmps37
  go_wp2_with fail
  go_ret
  exact ⟨by rw [HF.out]; rfl, hb⟩
set_option maxHeartbeats 4000000 in
theorem refFigs_mid (z : Int) (w : World) (h1 : 0 ≤ z) (h2 : z < 10) :
    Calls Tryd.prog 37 #[.int .i64 z] w fun e w' => e = .returned (.string (str (Cp.figs z))) ∧ Below w.heap.size w w' := by
  obtain ⟨c, hc⟩ : ∃ c : UInt8, c = UInt8.ofNat (48 + z.natAbs) := ⟨_, rfl⟩
  have HF := Lib.hid (show Cp.figs z = [c] by rw [figs_mid h1 h2, hc])
  have hz : 48 + z = (c.toNat : Int) := by rw [hc, ← dig_toNat z.natAbs (by omega)]; omega
  have hconv := one_byte w c (48 + z) hz
  have hb := below_new w (.cells #[.int .u8 (48 + z)] 5)
  have t0 : ¬ z < 0 := by omega
  have t1 : -10 < z := by omega
  clear hc hz
  go_enter Tryd.func37, Tryd.ntmps37
  go_wp2_with fail
  go_ret
  exact ⟨by rw [HF.out]; rfl, hb⟩
/-- What the call of itself is known to leave. -/
def FigsAt (y : Int) : Prop := ∀ w : World, Calls Tryd.prog 37 #[.int .i64 y] w fun e w' => e = .returned (.string (str (Cp.figs y))) ∧ Below w.heap.size w w'
set_option maxHeartbeats 4000000 in
theorem refFigs_round (z y : Int) (d : Nat) (c : UInt8) (w : World) (IH : Hid (FigsAt y)) (hy : z.tdiv 10 = y) (HF : Hid (Cp.figs z = Cp.figs y ++ [c])) (HZ : Hid ((48 : Int) + (d : Int) = (c.toNat : Int))) (hfit : Cp.In64 y) (q1 : IntKind.i64.wrap y = y) (hd10 : d < 10)
    (t1 : ¬ -10 < z) (hmod : z.tmod 10 = (d : Int)) (t3 : ¬ (d : Int) < 0) :
    Calls Tryd.prog 37 #[.int .i64 z] w fun e w' => e = .returned (.string (str (Cp.figs z))) ∧ Below w.heap.size w w' := by
  go_enter Tryd.func37, Tryd.ntmps37
  have q2 : IntKind.i64.wrap (48 + (d : Int)) = 48 + (d : Int) := IntWalk.i64_in _ ⟨by omega, by omega⟩
  have q3 : IntKind.u8.wrap (48 + (d : Int)) = 48 + (d : Int) := IntWalk.u8_in _ (by omega)
  have hconvA := one_byte w.drew c ((48 : Int) + (d : Int)) HZ.out
  have hconvB := one_byte_drew w c ((48 : Int) + (d : Int)) HZ.out
  have hadd : ∀ W, (Op.stringOp .add (str (Cp.figs y)) (str [c])).run Tryd.prog W = .ok (.string (str (Cp.figs y ++ [c]))) W := fun W => str_add W _ _ (by have := Cp.figs_len hfit; simp; omega)
  have HCA := Lib.hid (show (w.drew.alloc (.cells #[.int .u8 (48 + (d : Int))] 5)).cell? ⟨w.heap.size, 0, none⟩ = some (.int .u8 (48 + (d : Int))) by rw [World.cell?_alloc_at _ _ _ _ (by simp)]; rfl)
  clear hfit
  go_wp2_with fail
  go_region_with ((go_at_call 37; refine (IH.out _).mono ?_; rintro e w1 ⟨rfl, hb3⟩; (first | (have hcell : w1.cell? ⟨w.heap.size, 0, none⟩ = some (.int .u8 (48 + (d : Int))) := keepcell hb3 HCA.out; have hconv1 := conv_at w1 w.heap.size c _ HZ.out hcell; have hbb : Below w.heap.size w w1 := (below_of_drew (below_new w.drew (.cells #[.int .u8 (48 + (d : Int))] 5))).trans (hb3.mono (by simp))) | (have hconv1 := one_byte w1 c _ HZ.out; have hbb : Below w.heap.size w w1 := below_of_drew hb3))))
  all_goals
    clear IH hb3 hconv1 hconvA hconvB hadd
    go_wp2_with fail
    go_ret
    exact ⟨ret_str (by rw [HF.out]), by first | exact hbb | exact hbb.alloc hbb.size _⟩
set_option maxHeartbeats 4000000 in
theorem refFigs_neg (z y : Int) (d : Nat) (c : UInt8) (w : World) (IH : Hid (FigsAt y)) (hy : z.tdiv 10 = y) (HF : Hid (Cp.figs z = Cp.figs y ++ [c])) (HZ : Hid ((48 : Int) + (d : Int) = (c.toNat : Int))) (hfit : Cp.In64 y) (q1 : IntKind.i64.wrap y = y) (hd10 : d < 10)
    (t1 : ¬ -10 < z) (hmod : z.tmod 10 = -(d : Int)) (hdn : -(d : Int) < 0) (q4 : IntKind.i64.wrap (d : Int) = (d : Int)) :
    Calls Tryd.prog 37 #[.int .i64 z] w fun e w' => e = .returned (.string (str (Cp.figs z))) ∧ Below w.heap.size w w' := by
  go_enter Tryd.func37, Tryd.ntmps37
  have q2 : IntKind.i64.wrap (48 + (d : Int)) = 48 + (d : Int) := IntWalk.i64_in _ ⟨by omega, by omega⟩
  have q3 : IntKind.u8.wrap (48 + (d : Int)) = 48 + (d : Int) := IntWalk.u8_in _ (by omega)
  have hconvA := one_byte w.drew c ((48 : Int) + (d : Int)) HZ.out
  have hconvB := one_byte_drew w c ((48 : Int) + (d : Int)) HZ.out
  have hadd : ∀ W, (Op.stringOp .add (str (Cp.figs y)) (str [c])).run Tryd.prog W = .ok (.string (str (Cp.figs y ++ [c]))) W := fun W => str_add W _ _ (by have := Cp.figs_len hfit; simp; omega)
  have HCA := Lib.hid (show (w.drew.alloc (.cells #[.int .u8 (48 + (d : Int))] 5)).cell? ⟨w.heap.size, 0, none⟩ = some (.int .u8 (48 + (d : Int))) by rw [World.cell?_alloc_at _ _ _ _ (by simp)]; rfl)
  clear hfit
  go_wp2_with fail
  go_region_with ((go_at_call 37; refine (IH.out _).mono ?_; rintro e w1 ⟨rfl, hb3⟩; (first | (have hcell : w1.cell? ⟨w.heap.size, 0, none⟩ = some (.int .u8 (48 + (d : Int))) := keepcell hb3 HCA.out; have hconv1 := conv_at w1 w.heap.size c _ HZ.out hcell; have hbb : Below w.heap.size w w1 := (below_of_drew (below_new w.drew (.cells #[.int .u8 (48 + (d : Int))] 5))).trans (hb3.mono (by simp))) | (have hconv1 := one_byte w1 c _ HZ.out; have hbb : Below w.heap.size w w1 := below_of_drew hb3))))
  all_goals
    clear IH hb3 hconv1 hconvA hconvB hadd
    go_wp2_with fail
    go_ret
    exact ⟨ret_str (by rw [HF.out]), by first | exact hbb | exact hbb.alloc hbb.size _⟩
set_option maxHeartbeats 4000000 in
theorem refFigs_pos (z y : Int) (d : Nat) (c : UInt8) (w : World) (IH : Hid (FigsAt y)) (hy : z.tdiv 10 = y) (HF : Hid (Cp.figs z = Cp.figs y ++ [c])) (HZ : Hid ((48 : Int) + (d : Int) = (c.toNat : Int))) (hfit : Cp.In64 y) (q1 : IntKind.i64.wrap y = y) (hd10 : d < 10)
    (t1 : -10 < z) (t2 : ¬ z < 10) (hmod : z.tmod 10 = (d : Int)) (t3 : ¬ (d : Int) < 0) :
    Calls Tryd.prog 37 #[.int .i64 z] w fun e w' => e = .returned (.string (str (Cp.figs z))) ∧ Below w.heap.size w w' := by
  go_enter Tryd.func37, Tryd.ntmps37
  have q2 : IntKind.i64.wrap (48 + (d : Int)) = 48 + (d : Int) := IntWalk.i64_in _ ⟨by omega, by omega⟩
  have q3 : IntKind.u8.wrap (48 + (d : Int)) = 48 + (d : Int) := IntWalk.u8_in _ (by omega)
  have hconvA := one_byte w.drew c ((48 : Int) + (d : Int)) HZ.out
  have hconvB := one_byte_drew w c ((48 : Int) + (d : Int)) HZ.out
  have hadd : ∀ W, (Op.stringOp .add (str (Cp.figs y)) (str [c])).run Tryd.prog W = .ok (.string (str (Cp.figs y ++ [c]))) W := fun W => str_add W _ _ (by have := Cp.figs_len hfit; simp; omega)
  have HCA := Lib.hid (show (w.drew.alloc (.cells #[.int .u8 (48 + (d : Int))] 5)).cell? ⟨w.heap.size, 0, none⟩ = some (.int .u8 (48 + (d : Int))) by rw [World.cell?_alloc_at _ _ _ _ (by simp)]; rfl)
  clear hfit
  go_wp2_with fail
  go_region_with ((go_at_call 37; refine (IH.out _).mono ?_; rintro e w1 ⟨rfl, hb3⟩; (first | (have hcell : w1.cell? ⟨w.heap.size, 0, none⟩ = some (.int .u8 (48 + (d : Int))) := keepcell hb3 HCA.out; have hconv1 := conv_at w1 w.heap.size c _ HZ.out hcell; have hbb : Below w.heap.size w w1 := (below_of_drew (below_new w.drew (.cells #[.int .u8 (48 + (d : Int))] 5))).trans (hb3.mono (by simp))) | (have hconv1 := one_byte w1 c _ HZ.out; have hbb : Below w.heap.size w w1 := below_of_drew hb3))))
  all_goals
    clear IH hb3 hconv1 hconvA hconvB hadd
    go_wp2_with fail
    go_ret
    exact ⟨ret_str (by rw [HF.out]), by first | exact hbb | exact hbb.alloc hbb.size _⟩
set_option maxHeartbeats 4000000 in
theorem refFigs_any (k : Nat) : ∀ (z : Int) (w : World), z.natAbs < k → Cp.In64 z →
    Calls Tryd.prog 37 #[.int .i64 z] w fun e w' => e = .returned (.string (str (Cp.figs z))) ∧ Below w.heap.size w w' := by
  induction k with
  | zero => intro z w h; omega
  | succ k ih =>
    intro z w hk hz64
    by_cases hs : -10 < z ∧ z < 10
    · by_cases h0 : z < 0
      · exact refFigs_low z w hs.1 h0
      · exact refFigs_mid z w (by omega) hs.2
    · obtain ⟨d, hd⟩ : ∃ d, d = z.natAbs % 10 := ⟨_, rfl⟩
      obtain ⟨c, hc⟩ : ∃ c : UInt8, c = UInt8.ofNat (48 + d) := ⟨_, rfl⟩
      have hz : (48 : Int) + (d : Int) = (c.toNat : Int) := by rw [hc]; exact dig_toNat d (by omega)
      obtain ⟨y, hy⟩ : ∃ y, z.tdiv 10 = y := ⟨_, rfl⟩
      have HF := Lib.hid (show Cp.figs z = Cp.figs y ++ [c] by rw [figs_high hs, hc, hd, hy])
      have hb1 := hz64.1
      have hb2 := hz64.2
      have hd10 : d < 10 := by omega
      have hyv : (0 ≤ z → y = ((z.natAbs / 10 : Nat) : Int)) ∧ (z < 0 → y = -((z.natAbs / 10 : Nat) : Int)) := by
        constructor
        · intro h; rw [← hy, Int.tdiv_eq_ediv_of_nonneg h]; omega
        · intro h
          obtain ⟨n, rfl⟩ : ∃ n : Nat, z = -(n : Int) := ⟨z.natAbs, by omega⟩
          rw [← hy, Int.neg_tdiv, Int.tdiv_eq_ediv_of_nonneg (by omega)]; omega
      have hlt : y.natAbs < k := by rcases Int.lt_or_le z 0 with h | h; have := hyv.2 h; omega; have := hyv.1 h; omega
      have hfit : Cp.In64 y := by unfold Cp.In64; rcases Int.lt_or_le z 0 with h | h; have := hyv.2 h; omega; have := hyv.1 h; omega
      have q1 : IntKind.i64.wrap y = y := IntWalk.i64_in y hfit
      have IH : Hid (FigsAt y) := Lib.hid fun w => ih y w hlt hfit
      by_cases hneg : z < 0
      · have hmod : z.tmod 10 = -(d : Int) := by
          obtain ⟨n, rfl⟩ : ∃ n : Nat, z = -(n : Int) := ⟨z.natAbs, by omega⟩
          rw [Int.neg_tmod, Int.tmod_eq_emod_of_nonneg (by omega), hd]; omega
        by_cases hd0 : d = 0
        · exact refFigs_round z y d c w IH hy HF (Lib.hid hz) hfit q1 hd10 (by omega) (by omega) (by omega)
        · exact refFigs_neg z y d c w IH hy HF (Lib.hid hz) hfit q1 hd10 (by omega) hmod (by omega) (IntWalk.i64_in _ ⟨by omega, by omega⟩)
      · exact refFigs_pos z y d c w IH hy HF (Lib.hid hz) hfit q1 hd10 (by omega) (by omega) (by rw [Int.tmod_eq_emod_of_nonneg (by omega), hd]; omega) (by omega)
end Go.Proofs.YtejhlenckdkonaaDoor

