/- All, by its contract: slices.Clone and slices.SortFunc: all timers, in order, in new memory. -/
import Derived.Test.YtgknbjiocgcmdaaHPop
import Derived.Test.YtgknbjiocgcmdaaHLay
import Derived.Shelf.SlSortCmp.NoneTotal
namespace Go.Proofs.Ytgknbjiocgcmdaa
open Go.RowKit Go.Sort Go.Shelf Go.Lib
set_option linter.unusedVariables false
variable {R : Nat → Value → Prop}

/-- .. with the memory that it owns. -/
def MadeV (w0 : World) (ts : List Hp.Tm) (e : Ending) (w' : World) : Prop :=
  ∃ v n, e = .returned v ∧ w'.ownsRow w0.heap.size 62 3 v n (tcells ts) ∧ Below w0.heap.size w0 w'
theorem own_three (w : World) : (w.alloc (.cells #[] 62)).ownsRow w.heap.size 62 3 (.slice (some ⟨w.heap.size, 0, none⟩) 0 0) 0 [] :=
  World.ownsRow_made _ _ _ (Nat.le_refl _) (by unfold maxLen; omega) rfl
set_option maxHeartbeats 1000000 in
theorem clone_any (A : Option Addr) (n c : Nat) (ts : List Hp.Tm) (w : World) (h : TR w A n c ts) (hl : n ≤ 1000000) :
    Calls Try.prog 36 #[.slice A n c] w (MadeV w ts) := by
  cases A with
  | none =>
    have hc := h.nil rfl
    have h1 := h.cap
    have h2 := h.len
    obtain rfl : n = 0 := by omega
    obtain rfl := List.length_eq_zero_iff.1 h2
    subst hc
    clear h
    have hE : ∀ W, (binOp .eql 25 (.slice none 0 0) (.slice none 0 0)).run Try.prog W = .ok (.bool true) W := fun W => by kernel_rfl
    go_enter Try.func36, Try.ntmps36
    go_wp2_with fail
    go_ret
    exact ⟨_, _, rfl, World.ownsRow_nil _ _ _ _, Below.refl _ _⟩
  | some ad =>
    obtain ⟨i0, hi, hz0, hz1, hz2⟩ := info_parts3 info_tm
    have hO := own_three w
    have h1 := h.step (below_new w (.cells #[] 62))
    have hcells : ∀ j u, (tcells ts)[j]? = some u → (w.alloc (.cells #[] 62)).cell? (ad.add j) = some u := by
      cases ts with
      | nil => intro j u hj; simp [tcells] at hj
      | cons y ys =>
        obtain ⟨b, off, e, _⟩ := h1.row 0 y rfl
        injection e with e
        subst e
        exact h1.tcells
    have hlen : (tcells ts).length = n * 3 := by rw [tcells_length, h.len]
    have HL := Lib.hid hlen
    have HC := Lib.hid hcells
    clear h h1 hlen hcells
    have hE : ∀ W, (binOp .eql 25 (.slice (some ad) n c) (.slice none 0 0)).run Try.prog W = .ok (.bool false) W := fun W => by kernel_rfl
    go_enter Try.func36, Try.ntmps36
    go_wp2_with (refine wpList_append_own _ (by rfl) _ _ _ (by rfl) w.heap.size 62 i0 _ 3 24 Try.underlying25 hi hz0 hz1 hz2 rfl (by decide) (.slice (some ⟨w.heap.size, 0, none⟩) 0 0) 0 [] (by rfl) hO ad n c (tcells ts) (by rfl) HL.out HC.out (tcells_one ts) (by unfold maxLen; omega) (by omega) (by simp) ?_; intro v' w' ho hg _)
    go_ret
    have hb := ((below_new w (.cells #[] 62)).grown hg (by simp) (fun k e => by simp [Value.ownBlock] at e; omega))
    rw [List.nil_append, Nat.zero_add] at ho
    exact ⟨_, _, rfl, ho, hb⟩
def encT (x : Hp.Tm) : List Value := [.int .i64 x.1, .int .i64 x.2.1, .int .i64 x.2.2]
theorem cmpLays (blk off size : Nat) (w : World) : CmpLays Try.prog 38 #[] encT 3 Hp.cmp blk off size w :=
  fun _ _ _ _ x y => compare_any x y _
theorem ltOf_cmp (x y : Hp.Tm) : ltOf Hp.cmp x y = decide (Hp.Lt x y) := by
  unfold ltOf
  rw [Bool.eq_iff_iff]
  simp [Hp.cmp_neg]
theorem swo_cmp : SWO (ltOf Hp.cmp) where
  irrefl x := by rw [ltOf_cmp]; simp [Hp.lt_irrefl]
  trans x y z h1 h2 := by rw [ltOf_cmp] at *; simp at *; exact Hp.lt_trans h1 h2
  ntrans x y z h1 h2 := by
    rw [ltOf_cmp] at *
    simp at *
    exact fun h => (Hp.le_trans (a := z) (b := y) (c := x) h2 h1) h
theorem total_cmp (x y : Hp.Tm) (h : ltOf Hp.cmp x y = false) (k : ltOf Hp.cmp y x = false) : x = y := by
  rw [ltOf_cmp] at *
  simp at *
  exact Hp.lt_total h k
theorem merged (l : List Hp.Tm) : (l.mergeSort fun x y => !ltOf Hp.cmp y x) = Hp.srt l := by
  unfold Hp.srt
  congr 1
  funext x y
  rw [ltOf_cmp]
  unfold Hp.lb Hp.Le
  by_cases h : Hp.Lt y x <;> simp [h]
theorem flat_at (ts : List Hp.Tm) (j : Nat) (x : Hp.Tm) (h : ts[j]? = some x) : (flatK encT 3 ts.toArray)[j * 3]! = .int .i64 x.1 ∧ (flatK encT 3 ts.toArray)[j * 3 + 1]! = .int .i64 x.2.1 ∧ (flatK encT 3 ts.toArray)[j * 3 + 2]! = .int .i64 x.2.2 := by
  have hl := (List.getElem?_eq_some_iff.1 h).1
  have hs : ts.toArray.size = ts.length := rfl
  have hx : ts.toArray[j]! = x := by
    rw [getElem!_pos _ _ (by simpa using hl)]
    have := (List.getElem?_eq_some_iff.1 h).2
    simpa using this
  refine ⟨?_, ?_, ?_⟩
  · rw [get_flatK _ _ _ _ (by rw [hs]; omega), show j * 3 / 3 = j from by omega, show j * 3 % 3 = 0 from by omega, hx]; rfl
  · rw [get_flatK _ _ _ _ (by rw [hs]; omega), show (j * 3 + 1) / 3 = j from by omega, show (j * 3 + 1) % 3 = 1 from by omega, hx]; rfl
  · rw [get_flatK _ _ _ _ (by rw [hs]; omega), show (j * 3 + 2) / 3 = j from by omega, show (j * 3 + 2) % 3 = 2 from by omega, hx]; rfl
theorem heap_sortWorldK (w : World) (blk off m : Nat) (dk : Array Hp.Tm) (os : Array Obj) (k : Nat) (h : k ≠ blk) (hl : k < w.heap.size) : (sortWorldK encT 3 w blk off m dk os).heap[k]? = w.heap[k]? := by
  unfold sortWorldK
  rw [heap_grow_old _ _ (by rw [size_putRowK]; exact hl)]
  show ((Sort.ahead w m).heap.modify blk _)[k]? = _
  rw [Array.getElem?_modify, if_neg (by omega)]
  rfl
theorem below_sortWorldK (w : World) (blk off m : Nat) (dk : Array Hp.Tm) (os : Array Obj) (base : Nat) (h : base ≤ blk) (hl : blk < w.heap.size) : Below base w (sortWorldK encT 3 w blk off m dk os) :=
  ⟨rfl, rfl, rfl, size_sortWorldK_c encT 3 w blk off m dk os, fun k hk => heap_sortWorldK w blk off m dk os k (by omega) (by omega)⟩
theorem sort_any (v : Value) (n : Nat) (ts : List Hp.Tm) (w : World) (base : Nat) (h : w.ownsRow base 62 3 v n (tcells ts)) (hn : n ≤ 1000000) :
    Calls Try.prog 37 #[v, .func (.func 38) #[] #[]] w fun e w' =>
      e = .returned (.tuple #[]) ∧ ∃ A c, v = .slice A n c ∧ TR w' A n c (Hp.srt ts) ∧ From base A ∧ Below base w w' := by
  obtain ⟨A, c, rfl, hr, hf⟩ := TR.of_own h
  by_cases h0 : n = 0
  · subst h0
    obtain rfl := List.length_eq_zero_iff.1 hr.len
    refine (AnyF.slices_SortFunc_none (P := Try.prog) (ρ := sortLaid_ren) { sortLaid with } A c _ w).mono ?_
    rintro e w' ⟨rfl, rfl⟩
    exact ⟨rfl, A, c, rfl, by rw [show Hp.srt [] = [] from List.mergeSort_nil]; exact hr, hf, Below.refl _ _⟩
  · obtain ⟨blk, off, rfl, hblk, hc⟩ := hr.cells (by omega)
    have hoff : off = 0 := by
      rcases h.2 with ⟨e, _⟩ | ⟨g', cap, cur, e, _⟩
      · cases e
      · injection e with e
        injection e with e
        injection e with _ e
    subst hoff
    have hbase := hf _ rfl
    simp only at hbase
    have hds : ts.toArray.size = n := hr.len
    have hH : HoldsK encT 3 w blk 0 ts.toArray := by
      intro t ht
      rw [size_flatK, hds] at ht
      obtain ⟨x, hx⟩ : ∃ x, ts[t / 3]? = some x := ⟨_, List.getElem?_eq_getElem (by rw [hr.len]; omega)⟩
      obtain ⟨g0, g1, g2⟩ := flat_at ts _ x hx
      obtain ⟨c0, c1, c2⟩ := hc _ x hx
      refine ⟨?_, by rw [Nat.zero_add]; exact own_free h t⟩
      have hm : t % 3 = 0 ∨ t % 3 = 1 ∨ t % 3 = 2 := by omega
      rcases hm with e | e | e
      · rw [show t / 3 * 3 = t from by omega] at g0 c0
        rw [g0]; exact c0
      · rw [show t / 3 * 3 + 1 = t from by omega] at g1
        rw [show 0 + t / 3 * 3 + 1 = 0 + t from by omega] at c1
        rw [g1]; exact c1
      · rw [show t / 3 * 3 + 2 = t from by omega] at g2
        rw [show 0 + t / 3 * 3 + 2 = 0 + t from by omega] at c2
        rw [g2]; exact c2
    have eg : ∀ args w, (callFunc 38 args).run Try.prog w = .ok (.enter 38 args) w := fun _ _ => by kernel_rfl
    have hcon := AnyQ.slices_SortFunc_total (P := Try.prog) sortLaid 3 Try.isAgg62 Try.sizeOf62 encT (fun _ => rfl) (fun x v hv => by simp [encT] at hv; rcases hv with rfl | rfl | rfl <;> rfl) Hp.cmp swo_cmp 38 #[] blk 0 c ts.toArray w eg (cmpLays blk 0 _ w) hH hblk (by omega) total_cmp
    rw [hds] at hcon
    refine hcon.mono ?_
    rintro e w' ⟨rfl, nq, os, rfl⟩
    rw [merged]
    have hlen : (Hp.srt ts).length = n := by rw [Hp.srt_length]; exact hr.len
    refine ⟨rfl, some ⟨blk, 0, none⟩, c, rfl, ⟨hlen, hr.cap, hr.most, hr.nil, fun i x hi => ?_⟩, hf, below_sortWorldK w blk 0 nq _ os base hbase hblk⟩
    have hR : Holds id (sortWorldK encT 3 w blk 0 nq (Hp.srt ts).toArray os) blk 0 (flatK encT 3 (Hp.srt ts).toArray) := holds_sortWorld id w blk 0 nq (flatK encT 3 ts.toArray) (flatK encT 3 (Hp.srt ts).toArray) os hblk hH (by simp [Hp.srt_length])
    have hil := (List.getElem?_eq_some_iff.1 hi).1
    obtain ⟨g0, g1, g2⟩ := flat_at (Hp.srt ts) i x hi
    have hsz : (flatK encT 3 (Hp.srt ts).toArray).size = n * 3 := by rw [size_flatK]; show (Hp.srt ts).length * 3 = n * 3; rw [hlen]
    have q0 := (hR (i * 3) (by omega)).1
    have q1 := (hR (i * 3 + 1) (by omega)).1
    have q2 := (hR (i * 3 + 2) (by omega)).1
    rw [g0] at q0
    rw [g1] at q1
    rw [g2] at q2
    exact ⟨blk, 0, rfl, lt_sortWorldK encT 3 w blk 0 nq _ os hblk, q0, by rw [Nat.add_assoc]; exact q1, by rw [Nat.add_assoc]; exact q2⟩
theorem all_nil (w : World) : Calls Try.prog 27 #[.pointer none] w fun e w' => e = .returned (.slice none 0 0) ∧ w' = w := by
  go_enter Try.func27, Try.ntmps27
  go_wp2_with fail
  go_ret
  exact ⟨rfl, rfl⟩
set_option maxHeartbeats 1000000 in
theorem all_any (b : Nat) (F : Nat → Prop) (l : List Hp.Tm) (w : World) (h : HM R w b F l) (hl : l.length ≤ 1000000) :
    Calls Try.prog 27 #[.pointer (some ⟨b, 0, none⟩)] w (MadeT w (Hp.srt l)) := by
  obtain ⟨A, c, h1, h2, h3⟩ := h.mem
  obtain ⟨A', c', e, hr, _⟩ := TR.of_own h2
  injection e with e1 e2 e3
  subst e1 e3
  obtain ⟨n, hn⟩ : ∃ n, n = l.length := ⟨_, rfl⟩
  rw [← hn] at h1 hr hl
  have HC := Lib.hid (clone_any A n c l w hr hl)
  have HN := Lib.hid hn
  clear h h2 h3 hr hn
  go_enter Try.func27, Try.ntmps27
  go_wp2_with fail
  refine HC.out.mono ?_
  rintro e w1 ⟨v, m, rfl, ho, hb⟩
  have hm : m = n := by have h1 := ho.1; rw [tcells_length, ← HN.out] at h1; omega
  subst hm
  have HS := Lib.hid (sort_any v m l w1 _ ho hl)
  have HB := Lib.hid hb
  clear ho hb HC
  go_wp2_with fail
  refine HS.out.mono ?_
  rintro e w2 ⟨rfl, A1, c1, rfl, hr, hf, hb⟩
  go_wp2_with fail
  go_ret
  exact ⟨_, _, _, rfl, hr, hf, HB.out.trans hb⟩
end Go.Proofs.Ytgknbjiocgcmdaa

