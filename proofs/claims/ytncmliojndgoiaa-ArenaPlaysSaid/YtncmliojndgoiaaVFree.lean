/- Free and New, by their contracts. -/
import Derived.Test.YtncmliojndgoiaaVTake
namespace Go.Proofs.Ytncmliojndgoiaa
open Go.RowKit
set_option linter.unusedVariables false

theorem one_new (w : World) (x : Int) : ∀ j u, [Value.int .i64 x][j]? = some u → (w.alloc (.cells #[.int .i64 x] 3)).cell? ((⟨w.heap.size, 0, none⟩ : Addr).add j) = some u := cell_one_new _ _ _
theorem free_nil (g : Int) (w : World) : Calls Try.prog 14 #[.pointer none, .int .i64 g] w fun e w' => e = .returned (.bool false) ∧ w = w' := by
  go_enter Try.func14, Try.ntmps14
  go_wp2_with fail
  refine (live_nil g w).mono ?_
  rintro e w' ⟨rfl, rfl⟩
  go_wp2_with fail
  go_ret
  exact ⟨rfl, rfl⟩
set_option maxHeartbeats 1600000 in
theorem free_any (b : Nat) (F : Nat → Prop) (a : Vp.Ar) (t g : Int) (w : World) (h : VAr w b F a t) (hg : In64 g) :
    Calls Try.prog 14 #[.pointer (some ⟨b, 0, none⟩), .int .i64 g] w (VTurn b F (Vp.free a g).1 t w (.bool (a.live.contains g))) := by
  have HC := Lib.hid (live_any b F a t g w h hg)
  have H := Lib.hid h
  clear h
  cases hl : a.live.contains g with
  | false =>
    rw [hl] at HC
    have HA := Lib.hid (show (Vp.free a g).1 = a by rw [Vp.free_none (by rw [← Bool.not_eq_true, List.contains_iff_mem] at hl; exact hl)])
    clear hl
    go_enter Try.func14, Try.ntmps14
    go_wp2_with fail
    refine HC.out.mono ?_
    rintro e w1 ⟨rfl, hb⟩
    go_wp2_with fail
    go_ret
    exact ⟨rfl, F, by rw [HA.out]; exact H.out.step hb, Kept.of_below hb, fun k hk => .inl hk⟩
  | true =>
    rw [hl] at HC
    have hin : g ∈ a.live := List.contains_iff_mem.1 hl
    have HA := Lib.hid (show (Vp.free a g).1 = ⟨a.room, Vp.without a.live g, a.freed ++ [g], a.gens⟩ by rw [Vp.free_some hin])
    have HIN := Lib.hid hin
    have hkey := key_of hg
    obtain ⟨i0, hi, hz0, hz1, hz2⟩ := info_parts info_int
    clear hl hin
    go_enter Try.func14, Try.ntmps14
    go_wp2_with fail
    refine HC.out.mono ?_
    rintro e w1 ⟨rfl, hb⟩
    have HB := Lib.hid hb
    have H1 := Lib.hid (H.out.step hb)
    obtain ⟨k, m, v, G, h1, h2, h3, h4, h5, h6, h7, h8, h9⟩ := H1.out.mem
    obtain ⟨D, hD, hh, hs⟩ := h3
    have h3' : LiveM w1 m a.live := ⟨D, hD, hh, hs⟩
    have hbm := block_ne h2 h3'
    have hvm := own_ne h4 h3'
    have hlen : a.freed.length ≤ 64 := by have := h1.count; have := h1.most; have := H1.out.room64; omega
    have hlive : a.live.length ≤ 64 := by have := h1.count; have := h1.most; have := H1.out.room64; omega
    have c2 := h2.f
    have c3 := h2.m
    have f2 := h2.z 2
    have hblt := h2.lt
    have hL := Lib.hid (fun (w2 : World) (hown : w2.ownsMap Try.prog 3 unitElem m 64 (D.del (.int .i64 g))) => LiveM.del hh hs (hD.tidy keyint) HIN.out h1.live hlive hown)
    have R1 := Lib.hid h2
    have O1 := Lib.hid h4
    have OK := Lib.hid h1
    have G1 := Lib.hid h6
    have hlt1 := Lib.hid H1.out.lt
    clear hh hs h1 h2 h3' h4 h6 hb HC
    go_wp2_with (first
      | (at_delete; refine wpList_delete_own _ rfl _ _ 49 3 rfl 53 keyint Try.underlying49 unitElem m 64 D rfl hD _ _ rfl hkey ?_; intro w2 hown2 hturn2; have hg2 := hturn2.grown; have R2 := R1.out.keep (hg2.block b hblt (fun e => hbm (by injection e with e; exact e.symm))); have d2 := R2.f; have O2 := own_keep O1.out (w' := w2) (fun g hgg => hg2.block g (O1.out.lt g hgg).2 (fun e => hvm (by rw [hgg]; exact e))))
      | (at_builtin; refine wpList_append_lies _ rfl _ _ 22 rfl 0 3 i0 (.int .i64 0) 1 8 Try.underlying22 hi hz0 hz1 hz2 rfl (by decide) v a.freed.length (a.freed.map (Value.int .i64)) rfl (O2.alloc _) ⟨w2.heap.size, 0, none⟩ 1 1 [.int .i64 g] rfl rfl (one_new _ _) (ints_oneCell .i64 [g]) (by decide) (by unfold maxLen; omega) (by omega) (Nat.zero_le _) _ rfl ?_; intro gg cap w3 ho3 hg3 hat hlt3; have R3 := (R2.keep (Below.heap_alloc w2 (.cells #[.int .i64 g] 3) b R2.lt)).keep (hg3.block b (by have := R2.lt; simp; omega) (fun e => h5 e.symm)); have f3 := R3.z 2; have d3 := R3.f)
      | go_in)
    have hm2 : w2.heap[m]? = w2.heap[m]? := rfl
    have L3 : LiveM w3 m (Vp.without a.live g) := ((hL.out w2 hown2).keep (Below.heap_alloc w2 (.cells #[.int .i64 g] 3) m hown2.lt)).keep (hg3.block m (by have := hown2.lt; simp; omega) (fun e => hvm e.symm))
    have K3 : Kept F w w3 := ((((Kept.of_below HB.out).trans (kept_map hg2 h8)).trans (Kept.of_below (below_new w2 (.cells #[.int .i64 g] 3)))).trans (Kept.of_grown hg3 h9))
    have hgb : gg ≠ b := by
      rintro rfl
      rcases hat with e | e
      · exact h5 e
      · have := R2.lt; simp at e; omega
    have hfin : F gg ∨ w.heap.size ≤ gg := by
      rcases hat with e | e
      · exact .inl (h9 _ e)
      · have := HB.out.size; have := hg2.size; simp at e; omega
    go_ret
    refine ⟨rfl, fun j => F j ∨ j = gg, ?_, K3.setCell b 2 h7 _, fun j hj => ?_⟩
    · rw [HA.out]
      refine ⟨H1.out.room1, H1.out.room64, H1.out.top, fun j hj => ?_, k, m, _, G, ?_, R3.setF _, L3.setCell (p := ⟨b, 2, none⟩) hbm _, ?_, ?_, G1.out, .inl h7, .inl h8, fun j hj => ?_⟩
      · have := hg3.size
        have := hg2.size
        simp at *
        rcases hj with hj | rfl
        · have := hlt1.out j hj; simp; omega
        · simpa [World.setCell] using hlt3
      · have := OK.out.free g
        rw [HA.out] at this
        exact this
      · have := own_setCell (p := ⟨b, 2, none⟩) ho3 (by intro e; injection e with e; exact hgb e) (.slice (some ⟨gg, 0, none⟩) (a.freed.length + 1) cap)
        simpa using this
      · intro e; injection e with e; exact hgb e
      · injection hj with hj; exact .inr hj.symm
    · rcases hj with hj | rfl
      · exact .inl hj
      · exact hfin
theorem new_no (r : Int) (w : World) (h : ¬ (1 ≤ r ∧ r ≤ 64)) :
    Calls Try.prog 10 #[.int .i64 r] w fun e w' => e = .returned (.tuple #[.pointer none, .int .i64 1]) ∧ w = w' := by
  by_cases h1 : r < 1
  · clear h
    go_enter Try.func10, Try.ntmps10
    go_wp2_with fail
    go_ret2
    exact ⟨rfl, rfl⟩
  · have h2 : 64 < r := by omega
    clear h
    go_enter Try.func10, Try.ntmps10
    go_wp2_with fail
    go_ret2
    exact ⟨rfl, rfl⟩
/-- What New leaves: an arena in new memory, in which nobody lives. -/
def NewV (n : Nat) (w : World) (e : Ending) (w' : World) : Prop :=
  e = .returned (.tuple #[.pointer (some ⟨w.heap.size + 1, 0, none⟩), .int .i64 0]) ∧ VAr w' (w.heap.size + 1) (fun k => k = w.heap.size ∨ k = w.heap.size + 1) (Vp.new n) 0 ∧ Below w.heap.size w w'
def zeros : Array Value := #[.int .i64 0, .int .i64 0, .slice none 0 0, .map none] ++ Array.replicate 65 (.int .i64 0)
theorem zero_run (w : World) : Sem.run Try.prog (zeroValue 52) w = .ok (.agg zeros) w := by kernel_rfl
theorem zeros_size : zeros.size = 69 := by unfold zeros; simp
set_option maxRecDepth 100000 in
theorem new_yes (n : Nat) (w : World) (h1 : 1 ≤ n) (h2 : n ≤ 64) : Calls Try.prog 10 #[.int .i64 n] w (NewV n w) := by
  obtain ⟨zs, hzs⟩ : ∃ zs, zs = zeros := ⟨_, rfl⟩
  have hr := zero_run
  rw [← hzs] at hr
  have hs : zs.size = 69 := by rw [hzs]; exact zeros_size
  have hne : ¬ zs = #[] := by intro e; rw [e] at hs; cases hs
  have HZ := Lib.hid hzs
  have hmm := @run_makeMap Try.prog
  clear hzs
  go_enter Try.func10, Try.ntmps10
  go_wp2_with fail
  go_ret2
  refine ⟨rfl, ?_, ?_⟩
  · obtain rfl := HZ.out
    have hd : ∀ o, ((w.alloc (.map #[] 0)).alloc (.cells ((zeros.setIfInBounds 0 (.int .i64 n)).setIfInBounds 3 (.map (some w.heap.size))) 52)).cell? ⟨w.heap.size + 1, o, none⟩ = ((zeros.setIfInBounds 0 (.int .i64 n)).setIfInBounds 3 (.map (some w.heap.size)))[o]? := fun o => by rw [World.cell?_alloc_at _ _ _ _ (by simp)]
    have hz : ∀ o, 4 ≤ o → o < 69 → ((w.alloc (.map #[] 0)).alloc (.cells ((zeros.setIfInBounds 0 (.int .i64 n)).setIfInBounds 3 (.map (some w.heap.size))) 52)).cell? ⟨w.heap.size + 1, o, none⟩ = some (.int .i64 0) := by
      intro o ho ho'
      rw [hd, Array.getElem?_setIfInBounds, if_neg (by omega), Array.getElem?_setIfInBounds, if_neg (by omega)]
      unfold zeros
      rw [Array.getElem?_append_right (by simp; omega), Array.getElem?_replicate, if_pos (by simp; omega)]
    have hL : LiveM ((w.alloc (.map #[] 0)).alloc (.cells ((zeros.setIfInBounds 0 (.int .i64 n)).setIfInBounds 3 (.map (some w.heap.size))) 52)) w.heap.size [] := (LiveM.made w).keep (Below.heap_alloc _ _ _ (by simp))
    refine ⟨h1, h2, fun j => ?_, fun j hj => by simp; omega, 0, w.heap.size, .slice none 0 0, fun _ => 0, Vp.Ok.new n, ?_, hL, World.ownsRow_nil _ _ _ _, (by intro e; cases e), fun j hj => ?_, .inr rfl, .inl rfl, (fun g e => by cases e)⟩
    · simp only [Vp.new, List.getD_eq_getElem?_getD, List.getElem?_replicate]
      split <;> simp
    · refine ⟨?_, ?_, ?_, ?_, fun j hj => hz _ (by omega) (by omega), fun o => by rw [World.frozen?_alloc_at _ _ _ _ (by simp)]⟩
      · rw [hd, Array.getElem?_setIfInBounds, if_neg (by omega), Array.getElem?_setIfInBounds, if_pos rfl, if_pos (by rw [zeros_size]; omega)]; rfl
      · rw [hd, Array.getElem?_setIfInBounds, if_neg (by omega), Array.getElem?_setIfInBounds, if_neg (by omega)]; rfl
      · rw [hd, Array.getElem?_setIfInBounds, if_neg (by omega), Array.getElem?_setIfInBounds, if_neg (by omega)]; rfl
      · rw [hd, Array.getElem?_setIfInBounds, if_pos rfl, if_pos (by rw [Array.size_setIfInBounds, zeros_size]; omega)]
    · simp only [Vp.new, List.getD_eq_getElem?_getD, List.getElem?_replicate]
      split <;> simp
  · exact (below_new w _).alloc (by simp) _
end Go.Proofs.Ytncmliojndgoiaa

