/- due: the timers whose time has come, one by one, by its contract. -/
import Derived.Test.YtgknbjiocgcmdaaKGs
namespace Go.Proofs.Ytgknbjiocgcmdaa
open Go.RowKit
set_option linter.unusedVariables false
variable {R : Nat → Value → Prop}

/-- The cells of a timer's box of the call's own. -/
structure T3 (w : World) (T : Nat) (x : Hp.Tm) : Prop where
  c0 : w.cell? ⟨T, 0, none⟩ = some (.int .i64 x.1)
  c1 : w.cell? ⟨T, 1, none⟩ = some (.int .i64 x.2.1)
  c2 : w.cell? ⟨T, 2, none⟩ = some (.int .i64 x.2.2)
  f0 : w.frozen? ⟨T, 0, none⟩ = false
  f1 : w.frozen? ⟨T, 1, none⟩ = false
  f2 : w.frozen? ⟨T, 2, none⟩ = false
theorem T3.step {w w' : World} {T : Nat} {x : Hp.Tm} (h : T3 w T x) (hb : Below w.heap.size w w') : T3 w' T x :=
  ⟨keepcell hb h.c0, keepcell hb h.c1, keepcell hb h.c2, keepfree hb h.c0 h.f0, keepfree hb h.c1 h.f1, keepfree hb h.c2 h.f2⟩
theorem T3.kept {F : Nat → Prop} {w w' : World} {T : Nat} {x : Hp.Tm} (h : T3 w T x) (hk : Kept F w w') (hn : ¬ F T) : T3 w' T x :=
  ⟨hk.cell h.c0 hn, hk.cell h.c1 hn, hk.cell h.c2 hn, hk.free h.c0 hn h.f0, hk.free h.c1 hn h.f1, hk.free h.c2 hn h.f2⟩
theorem T3.new (w : World) (x1 x2 x3 : Int) (T : TypeId) : T3 (w.alloc (.cells #[.int .i64 x1, .int .i64 x2, .int .i64 x3] T)) w.heap.size (x1, x2, x3) := by
  refine ⟨?_, ?_, ?_, ?_, ?_, ?_⟩ <;> first | (rw [World.cell?_alloc_at _ _ _ _ rfl]; rfl) | rw [World.frozen?_alloc_at _ _ _ _ rfl]
theorem T3.lt {w : World} {T : Nat} {x : Hp.Tm} (h : T3 w T x) : T < w.heap.size := World.block_lt_of_cell? w ⟨T, 0, none⟩ h.c0
theorem T3.put {w : World} {T : Nat} {x : Hp.Tm} (h : T3 w T x) (y : Hp.Tm) : T3 (((w.setCell ⟨T, 0, none⟩ (.int .i64 y.1)).setCell ⟨T, 1, none⟩ (.int .i64 y.2.1)).setCell ⟨T, 2, none⟩ (.int .i64 y.2.2)) T y := by
  obtain ⟨k0, k1, k2⟩ := told3 (u := .int .i64 y.1) (v := .int .i64 y.2.1) (z := .int .i64 y.2.2) h.c0 h.c1 h.c2
  refine ⟨k0, k1, k2, ?_, ?_, ?_⟩ <;> simp only [World.frozen?_setCell]
  · exact h.f0
  · exact h.f1
  · exact h.f2
/-- What due has when it comes to its test: some timers told, the others a heap, the first of which lies in the box. -/
structure Du (R : Nat → Value → Prop) (now : Int) (w wr : World) (b : Nat) (F : Nat → Prop) (l l' D : List Hp.Tm) (v : Value) (n T : Nat) : Prop where
  srt : Hp.srt l = D ++ Hp.srt l'
  done : ∀ x ∈ D, x.1 ≤ now
  heap : Hp.Heap l'
  hm : HM R wr b F l'
  kept : Kept F w wr
  own : wr.ownsRow w.heap.size 62 3 v n (tcells D)
  box : T3 wr T (l'.headD (0, 0, 0))
  ge : w.heap.size ≤ T
  apart : v.ownBlock ≠ some T
def lenOf : Value → Nat
  | .slice _ n _ => n
  | _ => 0
theorem Du.len {R : Nat → Value → Prop} {now : Int} {w wr : World} {b : Nat} {F : Nat → Prop} {l l' D : List Hp.Tm} {v : Value} {n T : Nat} (h : Du R now w wr b F l l' D v n T) : n + l'.length = l.length := by
  have h1 := h.own.1
  rw [tcells_length] at h1
  have h2 := congrArg List.length h.srt
  rw [List.length_append, Hp.srt_length, Hp.srt_length] at h2
  omega
/-- What due leaves. -/
def DueD (R : Nat → Value → Prop) (now : Int) (b : Nat) (F : Nat → Prop) (l : List Hp.Tm) (w : World) (e : Ending) (w' : World) : Prop :=
  ∃ D l', Hp.srt l = D ++ Hp.srt l' ∧ (∀ x ∈ D, x.1 ≤ now) ∧ (∀ x ∈ l', now < x.1) ∧ Hp.Heap l' ∧ HM R w' b F l' ∧ Kept F w w' ∧ ∃ A n c, e = .returned (.slice A n c) ∧ TR w' A n c D ∧ From w.heap.size A
theorem Du.over {R : Nat → Value → Prop} {now : Int} {w wr : World} {b : Nat} {F : Nat → Prop} {l l' D : List Hp.Tm} {v : Value} {n T : Nat} (h : Du R now w wr b F l l' D v n T) (hl : ∀ x ∈ l', now < x.1) (q : Nat) : DueD R now b F l w (.returned v) (wr.drewN q) := by
  obtain ⟨A, c, rfl, hr, hf⟩ := TR.of_own h.own
  exact ⟨D, l', h.srt, h.done, hl, h.heap, h.hm.drewN q, h.kept.drewN q, A, n, c, rfl, ⟨hr.len, hr.cap, hr.most, hr.nil, hr.row⟩, hf⟩
theorem T3.grown {w w' : World} {T : Nat} {x : Hp.Tm} {row : Option Nat} (h : T3 w T x) (hg : w.grownBy w' row) (hr : row ≠ some T) : T3 w' T x := by
  have hk : w'.heap[T]? = w.heap[T]? := hg.block T h.lt (fun e => hr e.symm)
  exact ⟨(World.cell?_of_block (w := w) (a := ⟨T, 0, none⟩) hk).trans h.c0, (World.cell?_of_block (w := w) (a := ⟨T, 1, none⟩) hk).trans h.c1, (World.cell?_of_block (w := w) (a := ⟨T, 2, none⟩) hk).trans h.c2, (World.frozen?_of_block (w := w) (a := ⟨T, 0, none⟩) hk).trans h.f0, (World.frozen?_of_block (w := w) (a := ⟨T, 1, none⟩) hk).trans h.f1, (World.frozen?_of_block (w := w) (a := ⟨T, 2, none⟩) hk).trans h.f2⟩
/-- What due has behind a Pop. -/
structure Dv (R : Nat → Value → Prop) (now : Int) (w wr : World) (b : Nat) (F : Nat → Prop) (l l' D : List Hp.Tm) (x : Hp.Tm) (v : Value) (n T : Nat) : Prop where
  srt : Hp.srt l = D ++ x :: Hp.srt l'
  done : ∀ y ∈ D ++ [x], y.1 ≤ now
  heap : Hp.Heap l'
  hm : HM R wr b F l'
  kept : Kept F w wr
  own : wr.ownsRow w.heap.size 62 3 v n (tcells D)
  box : T3 wr T x
  ge : w.heap.size ≤ T
  apart : v.ownBlock ≠ some T
theorem Du.pop {R : Nat → Value → Prop} {now : Int} {w wr w2 : World} {b : Nat} {F : Nat → Prop} {l t l2 D : List Hp.Tm} {x : Hp.Tm} {v : Value} {n T : Nat} (h : Du R now w wr b F l (x :: t) D v n T) (hx : x.1 ≤ now) (hF : ∀ j, F j → j < w.heap.size) (q : Nat)
    (hp : (x :: l2).Perm (x :: t)) (hh : Hp.Heap l2) (hm : HM R w2 b F l2) (hk : Kept F (wr.drewN q) w2) : Dv R now w w2 b F l l2 D x v n T := by
  have hk' : Kept F wr w2 := ⟨hk.os, hk.tape, hk.output, hk.size, hk.block⟩
  refine ⟨by rw [h.srt, Kp.srt_pop h.heap rfl hp], fun y hy => ?_, hh, hm, h.kept.trans hk', own_keep h.own (fun g hg => hk'.block g (h.own.lt g hg).2 (fun f => by have := hF g f; have := (h.own.lt g hg).1; omega)), h.box.kept hk' (fun f => by have := hF T f; have := h.ge; omega), h.ge, h.apart⟩
  rcases List.mem_append.1 hy with h1 | h1
  · exact h.done y h1
  · rw [List.mem_singleton] at h1; subst h1; exact hx
/-- .. one told more, its box anew. -/
theorem Dv.more {R : Nat → Value → Prop} {now : Int} {w wr wa w3 : World} {b : Nat} {F : Nat → Prop} {l l' D : List Hp.Tm} {x1 x2 x3 : Int} {v v' : Value} {n T : Nat} (h : Dv R now w wr b F l l' D (x1, x2, x3) v n T) (hF : ∀ j, F j → j < w.heap.size) (hb : Below wr.heap.size wr wa)
    (ho : w3.ownsRow w.heap.size 62 3 v' (n + 1) (tcells (D ++ [(x1, x2, x3)]))) (hg : wa.grownBy w3 v.ownBlock) : T3 w3 T (x1, x2, x3) ∧ HM R w3 b F l' ∧ Kept F w w3 ∧ n + 1 ≤ maxLen := by
  have hv : ∀ k, v.ownBlock = some k → w.heap.size ≤ k := fun k e => (h.own.lt k e).1
  refine ⟨(h.box.step hb).grown hg h.apart, (h.hm.step hb).kept (Kept.of_grown (F := fun k => v.ownBlock = some k) hg (fun k e => e)) (fun j f e => by have := hF j f; have := hv j e; omega), (h.kept.trans (Kept.of_below hb)).trans' (Kept.of_grown (F := fun k => v.ownBlock = some k) hg (fun k e => e)) (fun j e => .inr (hv j e)), ?_⟩
  rcases ho.2 with ⟨_, h0⟩ | ⟨g, cap, cur, _, _, _, h1, h2, _⟩
  · omega
  · omega
theorem late {l' : List Hp.Tm} {x : Hp.Tm} {now : Int} (h : Hp.Heap l') (hx : l'[0]? = some x) (hn : ¬ x.1 ≤ now) : ∀ y ∈ l', now < y.1 := by
  intro y hy
  obtain ⟨i, hi⟩ := List.mem_iff_getElem?.1 hy
  have := Hp.heap_first h hx i y hi
  unfold Hp.Le Hp.Lt at this
  omega
set_option maxRecDepth 100000 in
set_option maxHeartbeats 1000000 in
theorem due_any (b : Nat) (F : Nat → Prop) (l : List Hp.Tm) (now : Int) (w : World) (h : HM R w b F l) (hh : Hid (Hp.Heap l)) (hR : Hid (R 1 (.int .i64 now))) (hl : l.length ≤ 100000) :
    Calls Try.prog 25 #[.pointer (some ⟨b, 0, none⟩)] w (DueD R now b F l w) := by
  have H := Lib.hid h
  have HF := Lib.hid (first_any b F l w h (by omega))
  clear h
  go_enter Try.func25, Try.ntmps25
  go_wp2_with fail
  refine HF.out.mono ?_
  rintro e w1 ⟨rfl, hb1⟩
  obtain ⟨x, hx⟩ : ∃ x, x = l.headD (0, 0, 0) := ⟨_, rfl⟩
  obtain ⟨ok, hok⟩ : ∃ ok, ok = decide (0 < l.length) := ⟨_, rfl⟩
  unfold told tv
  rw [← hx, ← hok]
  have hbn := below_new w1 (.cells #[.int .i64 x.1, .int .i64 x.2.1, .int .i64 x.2.2] 62)
  have D0 := Lib.hid (show Du R now w (w1.alloc (.cells #[.int .i64 x.1, .int .i64 x.2.1, .int .i64 x.2.2] 62)) b F l l [] (.slice none 0 0) 0 w1.heap.size from
    ⟨rfl, fun _ h => by simp at h, hh.out, (H.out.step hb1).step hbn, Kept.of_below (hb1.trans (hbn.mono hb1.size)), World.ownsRow_nil _ _ _ _, by rw [← hx]; exact T3.new w1 x.1 x.2.1 x.2.2 _, hb1.size, by simp [Value.ownBlock]⟩)
  have HX := Lib.hid hx
  clear hb1 hbn HF hx
  go_wp2_with fail
  obtain ⟨T0, hT0⟩ : ∃ T0, T0 = w1.heap.size := ⟨_, rfl⟩
  rw [← hT0] at D0 ⊢
  generalize w1.alloc (.cells #[.int .i64 x.1, .int .i64 x.2.1, .int .i64 x.2.2] 62) = V at *
  clear hT0 HX hok
  go_loopw [3, 4, 5] (fun v t o wr => ∃ (l' D : List Hp.Tm) (A : Option Addr) (n c T : Nat), v = .slice A n c ∧ t = .pointer (some ⟨T, 0, none⟩) ∧ o = .bool (decide (0 < l'.length)) ∧ Hid (Du R now w wr b F l l' D (.slice A n c) n T)) (fun v _ _ _ => l.length - lenOf v)
  case atStart => exact ⟨l, [], none, 0, 0, T0, rfl, rfl, rfl, D0⟩
  case round =>
    clear D0
    obtain ⟨l', D, A, n, c, T, rfl, rfl, rfl, DU⟩ := hrel
    cases l' with
    | nil =>
      have HE := Lib.hid (DU.out.over (fun x h => by simp at h))
      rw [show decide (0 < ([] : List Hp.Tm).length) = false from rfl]
      go_wp2_with fail
      go_quiet (fail)
      go_wp2_with fail
      go_ret
      exact HE.out _
    | cons x t =>
      have d0 := DU.out.box.c0
      have dn := (DU.out.hm.rest 1 _ hR.out).2.1
      simp only [List.headD_cons] at d0
      rw [show decide (0 < (x :: t).length) = true from by simp]
      by_cases hx : x.1 ≤ now
      · go_wp2_with fail
        go_quiet (fail)
        have HP := Lib.hid (pop_any b F (x :: t) x (wr.drewN nq) (DU.out.hm.drewN nq) (Lib.hid DU.out.heap) rfl (by have := DU.out.len; omega))
        have HPop := Lib.hid (fun w2 l2 => DU.out.pop (w2 := w2) (l2 := l2) hx H.out.lt nq)
        have hnl : n + (t.length + 1) = l.length := DU.out.len
        clear d0 dn DU hx
        go_wp2_with fail
        refine HP.out.mono ?_
        rintro e w2 ⟨rfl, l2, hp, hh2, hm2, hk2⟩
        have DV := Lib.hid (HPop.out w2 l2 hp hh2 hm2 hk2)
        have hl2 : l2.length = t.length := by have := hp.length_eq; simpa using this
        clear hp hh2 hm2 hk2 HP HPop
        obtain ⟨x1, x2, x3⟩ := x
        have d0 := DV.out.box.c0
        have d1 := DV.out.box.c1
        have d2 := DV.out.box.c2
        simp only at d0 d1 d2
        have hO := own_below DV.out.own (below_new w2 (.cells #[.int .i64 x1, .int .i64 x2, .int .i64 x3] 62))
        have HO := Lib.hid hO
        have hs2 := DV.out.kept.size
        clear hO
        go_wp2_with (at_builtin; refine wpList_append_ht (by rfl) _ _ (by rfl) w.heap.size (.slice A n c) n D (by rfl) HO.out (some ⟨w2.heap.size, 0, none⟩) 1 1 [(x1, x2, x3)] (by rfl) (tr_new w2 x1 x2 x3 _) (by omega) (by simp; omega) ?_; intro v' w3 ho hg; obtain ⟨k3, hm3, hk3, _⟩ := DV.out.more H.out.lt (below_new w2 _) ho hg; have K3 := Lib.hid k3; have HM3 := Lib.hid hm3; have HK3 := Lib.hid hk3; have HO3 := Lib.hid ho; have d0 := k3.c0; have d1 := k3.c1; have d2 := k3.c2; simp only at d0 d1 d2; clear k3 hm3 hk3 ho hg)
        have hbn := below_new w3 (.cells #[.int .i64 x1, .int .i64 x2, .int .i64 x3] 62)
        have B4 := T3.new w3 x1 x2 x3 62
        have HM4 := Lib.hid (HM3.out.step hbn)
        have HK4 := Lib.hid (HK3.out.trans (Kept.of_below (F := F) hbn))
        have HO4 := Lib.hid (own_below HO3.out hbn)
        have hT4 : w.heap.size ≤ w3.heap.size := HK3.out.size
        have HN4 := Lib.hid (show ∀ k, v'.ownBlock = some k → k < w3.heap.size from fun k e => (HO3.out.lt k e).2)
        have HF4 := Lib.hid (first_any b F l2 _ HM4.out (by omega))
        have HSR := Lib.hid (show Hp.srt l = (D ++ [(x1, x2, x3)]) ++ Hp.srt l2 by rw [List.append_assoc]; exact DV.out.srt)
        have HDN := Lib.hid DV.out.done
        have HHP := Lib.hid DV.out.heap
        have K4 := Lib.hid B4
        clear hbn B4 DV HM3 HK3 HO3 K3 d0 d1 d2 HO hs2
        generalize w3.alloc (.cells #[.int .i64 x1, .int .i64 x2, .int .i64 x3] 62) = W4 at *
        refine HF4.out.mono ?_
        rintro e w5 ⟨rfl, hb5⟩
        have K5 := K4.out.step hb5
        have d0 := K5.c0
        have d1 := K5.c1
        have d2 := K5.c2
        have f0 := K5.f0
        have f1 := K5.f1
        have f2 := K5.f2
        obtain ⟨A5, c5, hv5, _, _⟩ := TR.of_own HO4.out
        have hFT : ¬ F w3.heap.size := fun f => by have := H.out.lt _ f; omega
        obtain ⟨y, hy⟩ : ∃ y, y = l2.headD (0, 0, 0) := ⟨_, rfl⟩
        have HM6 := ((HM4.out.step hb5).setFar ⟨w3.heap.size, 0, none⟩ hFT (.int .i64 y.1)).setFar ⟨w3.heap.size, 1, none⟩ hFT (.int .i64 y.2.1) |>.setFar ⟨w3.heap.size, 2, none⟩ hFT (.int .i64 y.2.2)
        have HK6 := ((HK4.out.trans (Kept.of_below (F := F) hb5)).setNew ⟨w3.heap.size, 0, none⟩ hT4 (.int .i64 y.1)).setNew ⟨w3.heap.size, 1, none⟩ hT4 (.int .i64 y.2.1) |>.setNew ⟨w3.heap.size, 2, none⟩ hT4 (.int .i64 y.2.2)
        have far : ∀ (W : World) o u k, v'.ownBlock = some k → (W.setCell ⟨w3.heap.size, o, none⟩ u).heap[k]? = W.heap[k]? := fun W o u k e => Below.heap_setCell W ⟨w3.heap.size, o, none⟩ u k (fun e' => by have := HN4.out k e; simp only at e'; omega)
        have HO6 := own_keep (own_keep (own_keep (own_below HO4.out hb5) (far _ 0 (.int .i64 y.1))) (far _ 1 (.int .i64 y.2.1))) (far _ 2 (.int .i64 y.2.2))
        have DU2 := Lib.hid (show Du R now w (((w5.setCell ⟨w3.heap.size, 0, none⟩ (.int .i64 y.1)).setCell ⟨w3.heap.size, 1, none⟩ (.int .i64 y.2.1)).setCell ⟨w3.heap.size, 2, none⟩ (.int .i64 y.2.2)) b F l l2 (D ++ [(x1, x2, x3)]) v' (n + 1) w3.heap.size from
          ⟨HSR.out, HDN.out, HHP.out, HM6, HK6, HO6, by rw [← hy]; exact K5.put y, hT4, fun e => by have := HN4.out _ e; omega⟩)
        subst hv5
        simp only at d0 d1 d2
        clear HM6 HK6 far HO6 K5 hb5 HM4 HK4 HO4 HN4 HF4 HSR HDN HHP K4 hFT
        unfold told tv
        rw [← hy]
        clear hy
        obtain ⟨y1, y2, y3⟩ := y
        simp only at DU2
        go_wp2_with fail
        go_roundw
        case rel => exact ⟨l2, _, A5, n + 1, c5, w3.heap.size, rfl, rfl, by rw [hl2], DU2⟩
        case measure => simp only [lenOf]; omega
      · have HE := Lib.hid (DU.out.over (late DU.out.heap rfl hx))
        go_wp2_with fail
        go_quiet (fail)
        go_wp2_with fail
        go_ret
        exact HE.out _
end Go.Proofs.Ytgknbjiocgcmdaa

