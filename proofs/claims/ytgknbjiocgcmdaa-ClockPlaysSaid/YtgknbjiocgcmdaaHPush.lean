/- Push, by its contract: one timer more, a heap again. -/
import Derived.Test.YtgknbjiocgcmdaaHRise
import Derived.Deep.AppendLies
import Derived.Deep.RegionLaw
namespace Go.Proofs.Ytgknbjiocgcmdaa
open Go.RowKit
set_option linter.unusedVariables false
variable {R : Nat → Value → Prop}

theorem info_parts3 {T : TypeId} {z : Value} {s b : Nat} (h : (Try.prog.info? T).map (fun i => (i.zero, i.size, i.bytes)) = some (some z, s, b)) : ∃ i, Try.prog.info? T = some i ∧ i.zero = some z ∧ i.size = s ∧ i.bytes = b := by
  cases hi : Try.prog.info? T with
  | none => rw [hi] at h; cases h
  | some i =>
    rw [hi] at h
    simp only [Option.map_some, Option.some.injEq, Prod.mk.injEq] at h
    exact ⟨i, rfl, h.1, h.2.1, h.2.2⟩
theorem info_tm : (Try.prog.info? 62).map (fun i => (i.zero, i.size, i.bytes)) = some (some (.agg #[.int .i64 0, .int .i64 0, .int .i64 0]), 3, 24) := by kernel_rfl
theorem three_cells (w : World) (x1 x2 x3 : Int) (e : TypeId) : ∀ j x, (tcells [(x1, x2, x3)])[j]? = some x → (w.alloc (.cells #[.int .i64 x1, .int .i64 x2, .int .i64 x3] e)).cell? ((⟨w.heap.size, 0, none⟩ : Addr).add j) = some x := by
  intro j x hj
  match j, hj with
  | 0, hj => simp [tcells] at hj; subst hj; simp [Addr.add]
  | 1, hj => simp [tcells] at hj; subst hj; simp [Addr.add]
  | 2, hj => simp [tcells] at hj; subst hj; simp [Addr.add]
  | j + 3, hj => simp [tcells] at hj
theorem push_nil (t1 t2 t3 : Int) (w : World) : Calls Try.prog 23 #[.pointer none, .agg #[.int .i64 t1, .int .i64 t2, .int .i64 t3]] w fun e w' => e = .returned (.tuple #[]) ∧ Below w.heap.size w w' := by
  go_enter Try.func23, Try.ntmps23
  go_wp2_with fail
  (try simp only [Exit.inBlock, Exit.then])
  refine bodyPost_ret (results_none rfl _ _ _) rfl ?_
  exact ⟨rfl, below_new _ _⟩
/-- What a method leaves that turns the heap alone. -/
def HPut (R : Nat → Value → Prop) (b : Nat) (F : Nat → Prop) (m : List Hp.Tm) (w w' : World) : Prop :=
  ∃ (F' : Nat → Prop) (l : List Hp.Tm), l.Perm m ∧ Hp.Heap l ∧ HM R w' b F' l ∧ Kept F w w' ∧ (∀ k, F' k → F k ∨ w.heap.size ≤ k)
/-- One timer more stands behind the others. -/
theorem HM.more {w w1 w2 : World} {b g cap : Nat} {F : Nat → Prop} {l : List Hp.Tm} {A : Option Addr} {c : Nat} {t : Hp.Tm} {n : Nat} (h : HM R w b F l) (hn : n = l.length) (hb : w.cell? ⟨b, 0, none⟩ = some (.slice A n c)) (hA : ∀ ad, A = some ad → ad.block ≠ b ∧ F ad.block)
    (hw : Below w.heap.size w w1) (ho : w2.ownsRow 0 62 3 (.slice (some ⟨g, 0, none⟩) (n + 1) cap) (n + 1) (tcells l ++ tcells [t])) (hg : w1.grownBy w2 (Value.slice A n c).ownBlock) (hat : (Value.slice A n c).ownBlock = some g ∨ g = w1.heap.size) (hlt : g < w2.heap.size) :
    (w2.cell? ⟨b, 0, none⟩ = some (.slice A n c) ∧ w2.frozen? ⟨b, 0, none⟩ = false) ∧ HM R (w2.setCell ⟨b, 0, none⟩ (.slice (some ⟨g, 0, none⟩) (n + 1) cap)) b (fun k => F k ∨ k = g) (l ++ [t]) ∧ Kept F w (w2.setCell ⟨b, 0, none⟩ (.slice (some ⟨g, 0, none⟩) (n + 1) cap)) ∧ (∀ k, (F k ∨ k = g) → F k ∨ w.heap.size ≤ k) := by
  have hbw : b < w.heap.size := World.block_lt_of_cell? w ⟨b, 0, none⟩ hb
  have hsz := hw.size
  have hne : (Value.slice A n c).ownBlock ≠ some b := by
    cases A with
    | none => intro e; cases e
    | some ad => intro e; injection e with e; exact (hA ad rfl).1 e
  have hgb : g ≠ b := by
    rcases hat with e | e
    · intro e'; subst e'; exact hne e
    · omega
  have hgF : F g ∨ w.heap.size ≤ g := by
    rcases hat with e | e
    · cases A with
      | none => cases e
      | some ad => injection e with e; subst e; exact .inl (hA ad rfl).2
    · exact .inr (by omega)
  have hcell : w2.cell? ⟨b, 0, none⟩ = some (.slice A n c) := (World.cell?_of_block (w := w1) (hg.block b (by omega) (fun e => hne e.symm))).trans (keepcell hw hb)
  have hfree : w2.frozen? ⟨b, 0, none⟩ = false := (World.frozen?_of_block (w := w1) (hg.block b (by omega) (fun e => hne e.symm))).trans (keepfree hw hb h.free)
  have hl : (l ++ [t]).length = n + 1 := by simp [hn]
  have hK : Kept F w w2 := (Kept.of_below (F := F) hw).trans (Kept.of_grown hg (fun k e => by
    cases A with
    | none => cases e
    | some ad => injection e with e; subst e; exact (hA ad rfl).2))
  refine ⟨⟨hcell, hfree⟩, ⟨⟨some ⟨g, 0, none⟩, cap, ?_, ?_, fun ad e => ?_⟩, ?_, .inl h.inb, fun j hj => ?_, Rest.head ((Rest.block h.rest (hw.block b hbw)).block (hg.block b (by omega) (fun e => hne e.symm)))⟩, hK.setCell ⟨b, 0, none⟩ h.inb _, fun k hk => hk.elim .inl (fun e => by subst e; exact hgF)⟩
  · rw [hl]; exact World.cell?_setCell_same' _ _ _ (by rw [hcell]; rfl)
  · rw [hl, tcells_append]
    exact own_keep ho (fun k e => Below.heap_setCell w2 ⟨b, 0, none⟩ _ k (fun e' => by injection e with e; subst e; exact hgb e'))
  · injection e with e; subst e; exact ⟨hgb, .inr rfl⟩
  · rw [World.frozen?_setCell]; exact hfree
  · have h1 := hg.size
    have h2 : (w2.setCell ⟨b, 0, none⟩ (.slice (some ⟨g, 0, none⟩) (n + 1) cap)).heap.size = w2.heap.size := by simp [World.setCell]
    rw [h2]
    rcases hj with hj | hj
    · have := h.lt j hj; omega
    · subst hj; exact hlt
set_option maxHeartbeats 2000000 in
theorem push_any (b : Nat) (F : Nat → Prop) (l : List Hp.Tm) (t1 t2 t3 : Int) (w : World) (h : HM R w b F l) (hh : Hid (Hp.Heap l)) (hl : l.length ≤ 100000) :
    Calls Try.prog 23 #[.pointer (some ⟨b, 0, none⟩), .agg #[.int .i64 t1, .int .i64 t2, .int .i64 t3]] w fun e w' => e = .returned (.tuple #[]) ∧ HPut R b F (l ++ [(t1, t2, t3)]) w w' := by
  obtain ⟨A, c, h1, h2, h3⟩ := h.mem
  obtain ⟨n, hn⟩ : ∃ n, n = l.length := ⟨_, rfl⟩
  rw [← hn] at h1 h2 hl
  obtain ⟨i0, hi, hz0, hz1, hz2⟩ := info_parts3 info_tm
  have hb0 := below_new w (.cells #[.int .i64 t1, .int .i64 t2, .int .i64 t3] 62)
  have HB0 := Lib.hid hb0
  have c0 := keepcell hb0 h1
  have f0 := keepfree hb0 h1 h.free
  have HO := Lib.hid h2
  have H := Lib.hid h
  have H1 := Lib.hid h1
  have H3 := Lib.hid h3
  have HN := Lib.hid hn
  have hbw : b < w.heap.size := World.block_lt_of_cell? w ⟨b, 0, none⟩ h1
  clear hb0 h h2 h3 hn h1
  go_enter Try.func23, Try.ntmps23
  go_wp2_with fail
  go_region_law ((refine step_append_lies _ (by rfl) _ _ _ (by rfl) 0 62 i0 _ 3 24 Try.underlying25 hi hz0 hz1 hz2 rfl (by omega) (.slice A n c) n (tcells l) (by rfl) (own_below HO.out (HB0.out.alloc (by simp) _).drew) ⟨w.heap.size + 1, 0, none⟩ 1 1 (tcells [(t1, t2, t3)]) (by rfl) (by rfl) (by exact fun j x hj => by have := three_cells (w.alloc (.cells #[.int .i64 t1, .int .i64 t2, .int .i64 t3] 62)) t1 t2 t3 62 j x hj; simpa using this) (tcells_one _) (by omega) (by unfold maxLen; omega) (by omega) (by omega) (w.heap.size + 2) (by simp) ?_; intro gg cap w2 ho2 hg hat hlt5; have HMO := Lib.hid (H.out.more (t := (t1, t2, t3)) HN.out H1.out H3.out (HB0.out.alloc (by simp) _).drew ho2 hg (hat.imp id (fun e => e.trans (by simp [World.drew]))) hlt5); have k1 := HMO.out.1.1; have k2 := HMO.out.1.2))
  all_goals
    obtain ⟨_, hm, hk, hf⟩ := HMO.out
    have k3 := World.cell?_setCell_same' w2 ⟨b, 0, none⟩ (.slice (some ⟨gg, 0, none⟩) (n + 1) cap) (by rw [k1]; rfl)
    have HM1 := Lib.hid hm
    have HK1 := Lib.hid hk
    have HF1 := Lib.hid hf
    clear hm hk hf HMO k1 k2 ho2 hg hat hlt5 c0 f0
    generalize w2.setCell ⟨b, 0, none⟩ (.slice (some ⟨gg, 0, none⟩) (n + 1) cap) = w3 at *
    have w1 : IntKind.i64.wrap (((n + 1 : Nat) : Int) - 1) = (n : Int) := by rw [show ((n + 1 : Nat) : Int) - 1 = n by omega]; exact IntWalk.i64_in _ (by omega)
    have e1 : ((n + 1 : Nat) : Int) - 1 = (n : Int) := by omega
    have hU := Hp.up_push hh.out (t1, t2, t3)
    rw [← HN.out] at hU
    have hR := rise_any b _ (l ++ [(t1, t2, t3)]) n w3 HM1.out (by rw [List.length_append, ← HN.out]; simp) (by rw [List.length_append, ← HN.out]; simp; omega) (Lib.hid hU)
    have HR := Lib.hid hR
    clear hR hU
    go_wp2_with fail
    refine HR.out.mono ?_
    rintro e w4 ⟨rfl, l', hp, hh', hm', hk'⟩
    go_wp2_with fail
    go_end0
    exact ⟨rfl, _, l', hp, hh', hm', HK1.out.trans' hk' HF1.out, HF1.out⟩
end Go.Proofs.Ytgknbjiocgcmdaa

