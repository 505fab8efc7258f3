/- Sum, by its contract: of the zero cost, with each added, in turn. -/
import Derived.Test.YtceboejhdgjgoaaGAdd
import Derived.Test.YtceboejhdgjgoaaRApp
import Derived.Test.YtceboejhdgjgoaaCel2
namespace Go.Proofs.Ytceboejhdgjgoaa
open Go.RowKit
set_option linter.unusedVariables false

/-- A variable of the call's own, and the result's place ahead of it. -/
structure Sg (w W : World) (c : Gp.Cst) : Prop where
  res : Cel2 W w.heap.size (.int .i64 0) (.int .i64 0)
  var : Cel2 W (w.heap.size + 1) (.int .i64 c.1) (.int .i64 c.2)
  below : Below w.heap.size w W
theorem Sg.start (w : World) (T : TypeId) : Sg w ((w.alloc (.cells #[.int .i64 0, .int .i64 0] T)).alloc (.cells #[.int .i64 0, .int .i64 0] T)) (0, 0) := by
  have h1 := Cel2.new (w.alloc (.cells #[.int .i64 0, .int .i64 0] T)) (.int .i64 0) (.int .i64 0) T
  rw [show (w.alloc (.cells #[.int .i64 0, .int .i64 0] T)).heap.size = w.heap.size + 1 by simp] at h1
  exact ⟨(Cel2.new w _ _ T).step (below_new _ _), h1, ((Below.refl _ w).alloc (Nat.le_refl _) _).alloc (by simp) _⟩
theorem Sg.step {w W W' : World} {c : Gp.Cst} (h : Sg w W c) (hb : Below W.heap.size W W') : Sg w W' c := ⟨h.res.step hb, h.var.step hb, h.below.trans (hb.mono h.below.size)⟩
theorem Sg.put {w W : World} {c : Gp.Cst} (h : Sg w W c) (d : Gp.Cst) : Sg w ((W.setCell ⟨w.heap.size + 1, 0, none⟩ (.int .i64 d.1)).setCell ⟨w.heap.size + 1, 1, none⟩ (.int .i64 d.2)) d :=
  ⟨(h.res.far (by simp only; omega)).far (by simp only; omega), h.var.put _ _, (h.below.setCell (p := ⟨w.heap.size + 1, 0, none⟩) (by simp only; omega) _).setCell (p := ⟨w.heap.size + 1, 1, none⟩) (by simp only; omega) _⟩
set_option maxHeartbeats 1000000 in
theorem sum_any (A : Option Addr) (n c : Nat) (zs : List Int) (w : World) (h : Row w A n c zs) (hz : Hid (∀ z ∈ zs, In64 z)) :
    Calls Try.prog 16 #[.slice A n c] w (TellC w (Gp.sum zs)) := by
  have H := Lib.hid h
  have hlen := h.len
  have hcap := h.cap
  have hmost := h.most
  have S0 := Lib.hid (Sg.start w 25)
  clear h
  go_enter Try.func16, Try.ntmps16
  go_wp2_with fail
  generalize (w.alloc (.cells #[.int .i64 0, .int .i64 0] 25)).alloc (.cells #[.int .i64 0, .int .i64 0] 25) = V at *
  go_loopw [8] (fun i wr => ∃ k : Nat, k ≤ n ∧ i = .int .i64 k ∧ Hid (Sg w wr (Gp.sum (zs.take k)))) (fun i _ => n - (intOf i).toNat)
  case atStart => exact ⟨0, Nat.zero_le _, rfl, S0⟩
  case round =>
    clear S0
    obtain ⟨k, hk, rfl, SG⟩ := hrel
    have d0 := SG.out.var.c0
    have d1 := SG.out.var.c1
    by_cases hlt : k < n
    · obtain ⟨x, hx⟩ : ∃ x, zs[k]? = some x := ⟨_, List.getElem?_eq_getElem (by omega)⟩
      obtain ⟨g, off, rfl, _, hc⟩ := (H.out.below SG.out.below).cells (by omega)
      have c0 := hc k x hx
      have HT := Lib.hid (Gp.sum_take hx)
      have hm := Gp.sum_may (zs.take k)
      obtain ⟨⟨a, b⟩, hab⟩ : ∃ ab, ab = Gp.sum (zs.take k) := ⟨_, rfl⟩
      rw [← hab] at d0 d1 hm HT SG
      simp only at d0 d1
      have HA := Lib.hid (add_any a b x wr hm (hz.out x (List.mem_of_getElem? hx)))
      have i0 : (0 : Int) ≤ (k : Int) := by omega
      have i1 : (k : Int) < (n : Int) := by omega
      clear hc hx hab hm
      go_wp2_with fail
      refine HA.out.mono ?_
      rintro e w2 ⟨rfl, hb2⟩
      have S2 := Lib.hid (SG.out.step hb2)
      have e0 := S2.out.var.c0
      have e1 := S2.out.var.c1
      have f0 := S2.out.var.f0
      have f1 := S2.out.var.f1
      obtain ⟨⟨u, v⟩, huv⟩ : ∃ uv, uv = Gp.add (a, b) x := ⟨_, rfl⟩
      have S3 := Lib.hid (S2.out.put (u, v))
      have HU := Lib.hid huv
      rw [← huv]
      unfold cv
      simp only at e0 e1 S3
      clear hb2 huv HA d0 d1 c0 S2
      go_wp2_with fail
      go_roundw
      case rel => exact ⟨k + 1, by omega, by go_num, Lib.hid (by rw [HT.out, ← HU.out]; exact S3.out)⟩
      case measure => simp [intOf]; omega
    · obtain rfl : k = n := by omega
      have hS := SG.out
      rw [List.take_of_length_le (by omega)] at hS d0 d1
      have r0 := hS.res.c0
      have r1 := hS.res.c1
      have f0 := hS.res.f0
      have f1 := hS.res.f1
      obtain ⟨⟨u, v⟩, huv⟩ : ∃ uv, uv = Gp.sum zs := ⟨_, rfl⟩
      rw [← huv] at d0 d1
      simp only at d0 d1
      obtain ⟨k0, k1⟩ := told2 (u := .int .i64 u) (v := .int .i64 v) r0 r1
      have HM := Lib.hid (show TellC w (Gp.sum zs) (.returned (.agg #[.int .i64 u, .int .i64 v])) _ from by rw [← huv]; exact ⟨rfl, (hS.below.setCell (p := ⟨w.heap.size, 0, none⟩) (by simp) (.int .i64 u)).setCell (p := ⟨w.heap.size, 1, none⟩) (by simp) (.int .i64 v)⟩)
      clear hS huv SG
      go_wp2_with fail
      refine bodyPost_ret ?_ rfl HM.out
      simp [results, Try.results16, go_sem, k0, k1]
end Go.Proofs.Ytceboejhdgjgoaa

