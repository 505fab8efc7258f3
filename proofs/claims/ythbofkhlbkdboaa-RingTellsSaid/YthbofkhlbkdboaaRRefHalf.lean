/- The document's Half, by its contract. -/
import Derived.Test.YthbofkhlbkdboaaRRef
namespace Go.Proofs.Ythbofkhlbkdboaa
open Go.RowKit
set_option linter.unusedVariables false

theorem told_rl {w W2 : World} {r : (Int × List Int) × List Int} {A B : Option Addr} {n c m d : Nat} {x : Int} {u v : Value} (ha : Row w A n c r.1.2) (hB : Row W2 B m d r.2) (fB : From (w.heap.size + 2) B) (hbe : Below w.heap.size w W2) (hx : x = r.1.1) :
    TellRL w r (.returned (.tuple #[.agg #[.int .i64 x, .slice A n c], .slice B m d])) ((W2.setCell ⟨w.heap.size + 1, 0, none⟩ u).setCell ⟨w.heap.size + 1, 1, none⟩ v) := by
  subst hx
  have hb := (hbe.setCell (p := ⟨w.heap.size + 1, 0, none⟩) (by simp) u).setCell (p := ⟨w.heap.size + 1, 1, none⟩) (by simp) v
  exact ⟨A, n, c, B, m, d, rfl, ha.below hb, (hB.set fB).set fB, hb⟩
set_option maxHeartbeats 1000000 in
theorem refHalf_any (x : Int) (A : Option Addr) (n c : Nat) (zs : List Int) (w : World) (h : Row w A n c zs) (hn : n ≤ 100000) :
    Calls Try.prog 22 #[.agg #[.int .i64 x, .slice A n c]] w (TellRL w (Rp.half (x, zs))) := by
  have h1 := h.cap
  have h2 := h.most
  have H := Lib.hid h
  clear h
  obtain ⟨W0, hW0, hX0⟩ := Bx.start w (.int .i64 x) (.slice A n c) (.int .i64 0) (.slice none 0 0) 24 24
  have c0 := hX0.c0
  have c1 := hX0.c1
  have X0 := Lib.hid hX0
  have E0 := Lib.hid hW0
  clear hX0 hW0
  by_cases h0 : n = 0
  · subst h0
    have hz : zs = [] := List.length_eq_zero_iff.1 H.out.len
    subst hz
    have hb := Lib.hid ((below_new w (.cells #[.int .i64 x, .slice A 0 c] 24)).trans ((below_new _ (.cells #[.int .i64 x, .slice A 0 c] 24)).mono (by simp)))
    by_cases hx : x = 0
    · subst hx
      have HR := Lib.hid (show Rp.half (0, []) = ((0, []), []) from rfl)
      go_enter Try.func22, Try.ntmps22
      go_wp2_with fail
      refine bodyPost_ret (v := .tuple #[.agg #[.int .i64 0, .slice A 0 c], .slice none 0 0]) (by simp [results, Try.results22, go_sem]) rfl ?_
      rw [HR.out]
      exact ⟨A, 0, c, none, 0, 0, rfl, H.out.below hb.out, Row.nothing _, hb.out⟩
    · have t1 : (x == 0) = false := by rw [beq_eq_false_iff_ne]; exact hx
      have HR := Lib.hid (show Rp.half (x, []) = ((0, []), [x]) by unfold Rp.half Rp.all; simp [hx])
      go_enter Try.func22, Try.ntmps22
      go_wp2_with fail
      rw [← E0.out]
      clear E0
      have d2 := X0.out.r0
      have d3 := X0.out.r1
      have d4 := X0.out.f0
      have d5 := X0.out.f1
      have e2 := keepcell (below_new W0 (.cells #[.int .i64 x] 3)) d2
      have e3 := keepcell (below_new W0 (.cells #[.int .i64 x] 3)) d3
      have e4 := keepfree (below_new W0 (.cells #[.int .i64 x] 3)) d2 d4
      have e5 := keepfree (below_new W0 (.cells #[.int .i64 x] 3)) d3 d5
      have e0 := keepcell (below_new W0 (.cells #[.int .i64 x] 3)) c0
      have e1 := keepcell (below_new W0 (.cells #[.int .i64 x] 3)) c1
      go_region_held3 (fun w' => w'.cell? ⟨w.heap.size, 0, none⟩ = some (.int .i64 x) ∧ w'.cell? ⟨w.heap.size, 1, none⟩ = some (.slice A 0 c))
        (first | (refine ⟨?_, ?_⟩ <;> assumption) | go_keep) (fail)
      all_goals
        have MB := Lib.hid (told_rl (A := none) (n := 0) (c := 0) (r := ((0, []), [x])) (x := 0) (u := .int .i64 0) (v := .slice none 0 0) (Row.nothing w) (row_lit W0 [x] (by simp)) (fun ad e => by injection e with e; subst e; exact X0.out.size) (X0.out.below.alloc X0.out.below.size _) rfl)
        have MA : TellRL w ((0, []), [x]) (.returned (.tuple #[.agg #[.int .i64 0, .slice none 0 0], .slice (some ⟨W0.heap.size, 0, none⟩) 1 1])) (((W0.setCell ⟨w.heap.size + 1, 0, none⟩ (.int .i64 0)).setCell ⟨w.heap.size + 1, 1, none⟩ (.slice none 0 0)).alloc (.cells #[.int .i64 x] 3)) := by
          have hr := row_lit ((W0.setCell ⟨w.heap.size + 1, 0, none⟩ (.int .i64 0)).setCell ⟨w.heap.size + 1, 1, none⟩ (.slice none 0 0)) [x] (by simp)
          refine ⟨none, 0, 0, _, _, _, rfl, Row.nothing _, by simpa [World.setCell] using hr, ((X0.out.below.setCell (by simp) _).setCell (by simp) _).alloc (by have := X0.out.size; simp [World.setCell]; omega) _⟩
        have MA := Lib.hid MA
        obtain ⟨k0, k1⟩ := told2 (u := .int .i64 0) (v := .slice none 0 0) d2 d3
        obtain ⟨k2, k3⟩ := told2 (u := .int .i64 0) (v := .slice none 0 0) e2 e3
        have k4 := keepcell (below_new _ (.cells #[.int .i64 x] 3)) k0
        have k5 := keepcell (below_new _ (.cells #[.int .i64 x] 3)) k1
        clear d2 d3 d4 d5 e2 e3 e4 e5 e0 e1 c0 c1
        go_wp2_with fail
        refine bodyPost_ret (v := .tuple #[.agg #[.int .i64 0, .slice none 0 0], .slice (some ⟨W0.heap.size, 0, none⟩) 1 1]) ?_ rfl ?_
        · first
            | (simp [results, Try.results22, go_sem, k2, k3]; done)
            | (simp [results, Try.results22, go_sem, k4, k5]; done)
        rw [HR.out]
        first | exact MB.out.drew | exact MA.out.drew
  · obtain ⟨k, hk⟩ : ∃ k, k = Rp.hf zs := ⟨_, rfl⟩
    have hkn : k = n - n / 2 := by rw [hk]; unfold Rp.hf; rw [H.out.len]
    have HR := Lib.hid (show Rp.half (x, zs) = ((x, zs.drop k), zs.take k) by unfold Rp.half; rw [if_neg (by rw [H.out.len]; exact h0), hk])
    have t9 : IntKind.i64.wrap ((n : Int) - (n : Int) / 2) = (k : Int) := by rw [IntWalk.i64_in _ (by omega)]; omega
    have t0 : (0 : Int) ≤ (k : Int) := by omega
    have t1 : (k : Int) ≤ (n : Int) := by omega
    have t2 : (k : Int) ≤ (c : Int) := by omega
    have t4 : k ≤ n := by omega
    have tn : ((n : Int) == 0) = false := by rw [beq_eq_false_iff_ne]; omega
    obtain ⟨b, off, rfl, hbk, hcs⟩ := H.out.cells (by omega)
    have HS := (H.out.slice k t4)
    have HT := Lib.hid (H.out.take k t4)
    generalize hA' : (if c = k then some (⟨b, off, none⟩ : Addr) else some ⟨b, off + k, none⟩) = A' at HS
    have HA := Lib.hid hA'
    have HS' := Lib.hid HS
    have HK := Lib.hid hkn
    have hown := Lib.hid (World.ownsRow_made (w := W0) (base := w.heap.size + 2) (e := 3) (size := 1) #[] 0 X0.out.size (by unfold maxLen; omega) rfl)
    clear hA' HS hk hkn hcs
    go_enter Try.func22, Try.ntmps22
    go_wp2_with fail
    rw [← E0.out]
    clear E0
    go_region_held3 (fun w' => w'.cell? ⟨w.heap.size, 0, none⟩ = some (.int .i64 x) ∧ w'.cell? ⟨w.heap.size, 1, none⟩ = some (.slice (some ⟨b, off, none⟩) n c))
      (first | (refine ⟨?_, ?_⟩ <;> assumption) | go_keep)
      ((refine step_append_row (by rfl) (.tmp 32) (.tmp 36) (by rfl) (w.heap.size + 2) _ 0 [] (by rfl) hown.out.drew (some ⟨b, off, none⟩) k c (zs.take k) (by rfl) (HT.out.below (X0.out.below.alloc X0.out.below.size _).drew) (by omega) (by have := X0.out.size; simp; omega) ?_; intro v1 w1 ho1 hg1; have hb1 : Below W0.heap.size W0 w1 := (((Below.refl _ _).alloc (Nat.le_refl _) _).drew.grown hg1 (by simp) (fun k hk => by simp [Value.ownBlock] at hk; omega)); rw [Nat.zero_add, List.nil_append] at ho1; obtain ⟨A1, q1, rfl, hr1, hf1⟩ := Row.of_own' ho1; have X1 := X0.out.step hb1; have d0 := X1.c0; have d1 := X1.c1; have d2 := X1.r0; have d3 := X1.r1; have d4 := X1.f0; have d5 := X1.f1))
    simp only [HA.out]
    obtain ⟨k0, k1⟩ := told2 (u := .int .i64 x) (v := .slice A' (n - k) (c - k)) d2 d3
    have HM := Lib.hid (told_rl (r := ((x, zs.drop k), zs.take k)) (x := x) (u := .int .i64 x) (v := .slice A' (n - k) (c - k)) HS'.out hr1 hf1 X1.below rfl)
    clear hg1 hb1 ho1 hr1 d0 d1 d2 d3 d4 d5 c0 c1
    go_wp2_with fail
    refine bodyPost_ret (v := .tuple #[.agg #[.int .i64 x, .slice A' (n - k) (c - k)], .slice A1 k q1]) ?_ rfl ?_
    · simp [results, Try.results22, go_sem, k0, k1]
    rw [HR.out]
    exact HM.out
end Go.Proofs.Ythbofkhlbkdboaa

