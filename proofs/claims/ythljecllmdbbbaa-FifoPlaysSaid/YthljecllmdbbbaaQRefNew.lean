/- The document's New, by its contract. -/
import Derived.Test.YthljecllmdbbbaaQRefPush
import Derived.Test.YthljecllmdbbbaaQNew
namespace Go.Proofs.Ythljecllmdbbbaa
open Go.RowKit
set_option linter.unusedVariables false

theorem refNew_no (r n : Int) (w : World) (h : mayB r n = false) :
    Calls Try.prog 11 #[.int .i64 r, .int .i64 n] w fun e w' => e = .returned (.tuple #[.agg #[.int .i64 0, .slice none 0 0], .int .i64 1]) ∧ Below w.heap.size w w' := by
  unfold mayB at h
  have h' : ¬ (1 ≤ r ∧ r ≤ 64 ∧ 1 ≤ n ∧ n ≤ 64) := by simpa using h
  clear h
  by_cases h1 : r < 1
  · clear h'
    go_enter Try.func11, Try.ntmps11
    go_wp2_with fail
    have C := Cel5.new w (.int .i64 0) (.slice none 0 0) 30
    have k0 := C.c0
    have k1 := C.c1
    refine bodyPost_ret (v := .tuple #[.agg #[.int .i64 0, .slice none 0 0], .int .i64 1]) ?_ rfl ?_
    · simp [results, Try.results11, go_sem, k0, k1]
    exact ⟨rfl, below_new _ _⟩
  · by_cases h2 : 64 < r
    · clear h'
      go_enter Try.func11, Try.ntmps11
      go_wp2_with fail
      have C := Cel5.new w (.int .i64 0) (.slice none 0 0) 30
      have k0 := C.c0
      have k1 := C.c1
      refine bodyPost_ret (v := .tuple #[.agg #[.int .i64 0, .slice none 0 0], .int .i64 1]) ?_ rfl ?_
      · simp [results, Try.results11, go_sem, k0, k1]
      exact ⟨rfl, below_new _ _⟩
    · by_cases h3 : n < 1
      · clear h'
        go_enter Try.func11, Try.ntmps11
        go_wp2_with fail
        have C := Cel5.new w (.int .i64 0) (.slice none 0 0) 30
        have k0 := C.c0
        have k1 := C.c1
        refine bodyPost_ret (v := .tuple #[.agg #[.int .i64 0, .slice none 0 0], .int .i64 1]) ?_ rfl ?_
        · simp [results, Try.results11, go_sem, k0, k1]
        exact ⟨rfl, below_new _ _⟩
      · have h4 : 64 < n := by omega
        clear h'
        go_enter Try.func11, Try.ntmps11
        go_wp2_with fail
        have C := Cel5.new w (.int .i64 0) (.slice none 0 0) 30
        have k0 := C.c0
        have k1 := C.c1
        refine bodyPost_ret (v := .tuple #[.agg #[.int .i64 0, .slice none 0 0], .int .i64 1]) ?_ rfl ?_
        · simp [results, Try.results11, go_sem, k0, k1]
        exact ⟨rfl, below_new _ _⟩
/-- What the loop carries: k queues, none with a member. -/
structure Ni (w wr : World) (P : Nat → Prop) (m : Int) (v : Value) (k : Nat) : Prop where
  res : Cel5 wr w.heap.size (.int .i64 0) (.slice none 0 0)
  cel : Cel5 wr (w.heap.size + 1) (.int .i64 m) v
  own : wr.ownsRow (w.heap.size + 2) 44 1 v k (List.replicate k (.slice none 0 0))
  below : Below w.heap.size w wr
theorem Ni.more {w wr w2 : World} {P : Nat → Prop} {k : Nat} {m : Int} {v v' : Value} {o : Obj} (h : Ni w wr P m v k) (ho : w2.ownsRow (w.heap.size + 2) 44 1 v' (k + 1) (List.replicate k (.slice none 0 0) ++ [.slice none 0 0])) (hg : (wr.alloc o).grownBy w2 v.ownBlock) :
    Cel5 w2 (w.heap.size + 1) (.int .i64 m) v ∧ Ni w (w2.setCell ⟨w.heap.size + 1, 1, none⟩ v') P m v' (k + 1) := by
  have hv : ∀ j, v.ownBlock = some j → w.heap.size + 2 ≤ j := fun j e => (h.own.lt j e).1
  have hc := (h.cel.step (below_new wr o)).grown hg (fun e => by have := hv _ e.symm; omega)
  have hr := (h.res.step (below_new wr o)).grown hg (fun e => by have := hv _ e.symm; omega)
  have hlt := h.cel.lt
  refine ⟨hc, ?_, ?_, ?_, ?_⟩
  · exact ⟨by rw [World.cell?_setCell_other _ _ _ _ (fun e => by injection e with e; omega)]; exact hr.c0, by rw [World.cell?_setCell_other _ _ _ _ (fun e => by injection e with e; omega)]; exact hr.c1, by rw [World.frozen?_setCell]; exact hr.f0, by rw [World.frozen?_setCell]; exact hr.f1⟩
  · exact ⟨by rw [World.cell?_setCell_other _ _ _ _ (fun e => by injection e with _ e; omega)]; exact hc.c0, World.cell?_setCell_same' _ _ _ (by rw [hc.c1]; rfl), by rw [World.frozen?_setCell]; exact hc.f0, by rw [World.frozen?_setCell]; exact hc.f1⟩
  · have := ownsRow_setCell_below ho (a := ⟨w.heap.size + 1, 1, none⟩) (by simp only; omega) v'
    rw [List.replicate_succ']
    exact this
  · have hs := h.below.size
    exact ((h.below.alloc h.below.size o).grown hg (by simp; omega) (fun j e => by have := hv j e; omega)).setCell (p := ⟨w.heap.size + 1, 1, none⟩) (by simp only; omega) v'
theorem parts_none (w : World) (P : Nat → Prop) (n : Nat) : Parts w P (List.replicate n []) (List.replicate n (.slice none 0 0)) := by
  refine ⟨by simp, fun i l hi => ?_⟩
  rw [List.getElem?_replicate] at hi
  split at hi
  · injection hi with hi
    subst hi
    rename_i hlt
    exact ⟨none, 0, by rw [List.getElem?_replicate, if_pos hlt]; rfl, Row.nothing _, FromP.nothing _ _⟩
  · cases hi
set_option maxHeartbeats 4000000 in
set_option maxRecDepth 100000 in
theorem refNew_yes (m n : Nat) (P : Nat → Prop) (w : World) (hB : ∀ b, w.heap.size ≤ b → P b) (h1 : 1 ≤ m) (h2 : m ≤ 64) (h3 : 1 ≤ n) (h4 : n ≤ 64) :
    Calls Try.prog 11 #[.int .i64 m, .int .i64 n] w (MadeXI P m (List.replicate n [], 0) w) := by
  obtain ⟨i1, hi1, hy0, hy1, hy2⟩ := info_parts info_ints
  have N0 := Lib.hid (show Ni w ((w.alloc (.cells #[.int .i64 0, .slice none 0 0] 30)).alloc (.cells #[.int .i64 m, .slice none 0 0] 30)) P m (.slice none 0 0) 0 from
    ⟨(Cel5.new w _ _ _).step (below_new _ _), by have := Cel5.new (w.alloc (.cells #[.int .i64 0, .slice none 0 0] 30)) (.int .i64 m) (.slice none 0 0) 30; simpa using this, World.ownsRow_nil _ _ _ _, (below_new _ _).alloc (by simp) _⟩)
  go_enter Try.func11, Try.ntmps11
  go_wp2_with fail
  go_loopw [7] (fun i wr => ∃ (k : Nat) (v : Value), k ≤ n ∧ i = .int .i64 k ∧ Hid (Ni w wr P m v k)) (fun i _ => n - (intOf i).toNat)
  case atStart => exact ⟨0, _, Nat.zero_le _, rfl, N0⟩
  case round =>
    obtain ⟨k, v, hk, rfl, HN⟩ := hrel
    have ho := HN.out.own
    obtain ⟨Av, cv, rfl⟩ := own_form ho
    have e0 := HN.out.cel.c0
    have e1 := HN.out.cel.c1
    have f1 := HN.out.cel.f1
    have hcl := HN.out.cel.lt
    by_cases hlt : k < n
    · go_wp2_with (at_builtin; refine wpList_append_own _ rfl _ _ 28 rfl (w.heap.size + 2) 44 i1 (.slice none 0 0) 1 24 Try.underlying28 hi1 hy0 hy1 hy2 rfl (by decide) _ _ _ rfl (ho.alloc _) ⟨wr.heap.size, 0, none⟩ 1 1 [.slice none 0 0] rfl rfl ?c1 ?c2 ?c3 ?c4 ?c5 ?_)
      case c1 => exact ints_cell _ _
      case c2 => intro u hu; simp at hu; subst hu; rfl
      case c3 => unfold maxLen; omega
      case c4 => omega
      case c5 => simp; omega
      intro v' w2 ho2 hg _
      obtain ⟨A2, c2, rfl⟩ := own_form ho2
      obtain ⟨y, hN⟩ := HN.out.more ho2 hg
      have HN2 := Lib.hid hN
      have y0 := y.c1
      have y1 := y.f1
      clear hN ho2 hg y ho e0 e1 f1
      go_wp2_with fail
      go_roundw
      case rel => exact ⟨k + 1, _, by omega, by go_num, HN2⟩
      case measure => simp [intOf]; omega
    · obtain rfl : k = n := by omega
      have r0 := HN.out.res.c0
      have r1 := HN.out.res.c1
      have f0 := HN.out.res.f0
      have f2 := HN.out.res.f1
      obtain ⟨k0, k1⟩ := told2 (u := .int .i64 m) (v := .slice Av k cv) r0 r1
      have ho' := ownsRow_setCell_below (ownsRow_setCell_below ho (a := ⟨w.heap.size, 0, none⟩) (by simp only; omega) (.int .i64 m)) (a := ⟨w.heap.size, 1, none⟩) (by simp only; omega) (.slice Av k cv)
      have hbw := (HN.out.below.setCell (p := ⟨w.heap.size, 0, none⟩) (by simp only; omega) (.int .i64 m)).setCell (p := ⟨w.heap.size, 1, none⟩) (by simp only; omega) (.slice Av k cv)
      have HM := Lib.hid (show MadeXI P m (List.replicate k [], 0) w (.returned (.tuple #[.agg #[.int .i64 m, .slice Av k cv], .int .i64 0])) _ from ⟨Av, k, cv, rfl, rws_of ho' (parts_none w P k) hbw (fun b hb => hB b (by omega)), hbw⟩)
      clear hbw ho' ho
      go_wp2_with fail
      refine bodyPost_ret (v := .tuple #[.agg #[.int .i64 m, .slice Av k cv], .int .i64 0]) ?_ rfl ?_
      · simp [results, Try.results11, go_sem, k0, k1]
      exact HM.out
end Go.Proofs.Ythljecllmdbbbaa

