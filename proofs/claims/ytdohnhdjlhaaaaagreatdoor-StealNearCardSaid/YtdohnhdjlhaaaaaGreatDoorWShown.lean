/- The document's example of layer 17, at the head of all statements. -/
import Derived.Test.YtdohnhdjlhaaaaaGreatDoorWSteal
import Derived.Test.YtdohnhdjlhaaaaaGreatDoorM7
import Derived.Test.YtdohnhdjlhaaaaaGreatDoorM6
import Derived.Test.YtdohnhdjlhaaaaaGreatDoorM0
namespace Go.Proofs.YtdohnhdjlhaaaaaGreatDoor
open Go.RowKit
set_option linter.unusedVariables false

def exW : List (Int × Int) := [(-1, 0), (0, 1), (1, 2), (2, 3), (2, 3)]
def twoR : Jp.Rn := ⟨exW, 4, [(0, []), (0, [1, 2, 3])], [[]], 3⟩
def twoT : Jp.Rn := ⟨exW, 4, [(0, [2]), (0, [3])], [[]], 3⟩
theorem two_may : Jp.May twoR := by
  refine ⟨by decide, by decide, by decide, by decide, by decide, by decide, by decide, fun p x hx => ?_, by decide⟩
  match p, hx with
  | 0, hx => simp [twoR] at hx; subst hx; exact ⟨by decide, .inl rfl⟩
  | 1, hx => simp [twoR] at hx; subst hx; exact ⟨by decide, .inr (by decide)⟩
theorem two_low : Low twoR := by
  have fit : ∀ l : List Int, (∀ z ∈ l, 0 ≤ z ∧ z ≤ 9) → ∀ z ∈ l, In64 z := fun l h z hz => by have := h z hz; unfold In64; omega
  exact ⟨by decide, by decide, by decide, by decide, by decide, fit _ (by decide)⟩
theorem two_thief : Jp.Thief twoR ((0 : Nat) : Int) := ⟨two_may, by decide, by decide, by decide⟩
theorem two_steal : Jp.steal twoR 0 1 = (twoT, 1, 1) := by
  rw [show (0 : Int) = ((0 : Nat) : Int) from rfl, Jp.steal_on two_thief]
  have hv : Jp.victims twoR ((0 : Nat) : Int) 1 = [1] := by
    rw [Jp.victims_may two_may]
    decide
  have hf : Dp.far twoR.tree ((0 : Nat) : Int) 1 = 1 := by decide
  unfold Jp.stealOn
  rw [hv]
  simp only
  rw [hf]
  rfl
theorem xr_two {cs : El → List Value} {sz : Nat} {w : World} {b : Nat} {e f : El} (hb : b < w.heap.size) (hc : ∀ j u, (cs e)[j]? = some u → w.cell? ⟨b, j, none⟩ = some u) (hd : ∀ j u, (cs f)[j]? = some u → w.cell? ⟨b, sz + j, none⟩ = some u) (hr : Row w e.A e.n e.c e.l) (hs : Row w f.A f.n f.c f.l) : XR cs sz w (some ⟨b, 0, none⟩) 2 2 [e, f] := by
  refine ⟨rfl, Nat.le_refl _, by decide, (fun h => by cases h), fun i e' hi => ?_, fun e' he => ?_⟩
  · match i, hi with
    | 0, hi => simp at hi; subst hi; exact ⟨b, 0, rfl, hb, fun j u hj => by rw [Nat.zero_mul, Nat.add_zero, Nat.zero_add]; exact hc j u hj⟩
    | 1, hi => simp at hi; subst hi; exact ⟨b, 0, rfl, hb, fun j u hj => by rw [Nat.one_mul, Nat.zero_add]; exact hd j u hj⟩
  · rcases List.mem_cons.1 he with rfl | he
    · exact hr
    · rw [List.mem_singleton] at he; subst he; exact hs
theorem xr_one' {cs : El → List Value} {sz : Nat} {w : World} {b : Nat} {e : El} (hb : b < w.heap.size) (hc : ∀ j u, (cs e)[j]? = some u → w.cell? ⟨b, j, none⟩ = some u) (hr : Row w e.A e.n e.c e.l) : XR cs sz w (some ⟨b, 0, none⟩) 1 1 [e] := by
  refine ⟨rfl, Nat.le_refl _, by decide, (fun h => by cases h), fun i e' hi => ?_, fun e' he => ?_⟩
  · match i, hi with
    | 0, hi => simp at hi; subst hi; exact ⟨b, 0, rfl, hb, fun j u hj => by rw [Nat.zero_mul, Nat.add_zero, Nat.zero_add]; exact hc j u hj⟩
  · rw [List.mem_singleton] at he
    subst he
    exact hr
theorem exw_tree (w : World) (T : TypeId) : VRow (w.alloc (.cells #[.int .i64 (-1), .int .i64 0, .int .i64 0, .int .i64 1, .int .i64 1, .int .i64 2, .int .i64 2, .int .i64 3, .int .i64 2, .int .i64 3] T)) (w.alloc (.cells #[.int .i64 (-1), .int .i64 0, .int .i64 0, .int .i64 1, .int .i64 1, .int .i64 2, .int .i64 2, .int .i64 3, .int .i64 2, .int .i64 3] T)).heap.size (some ⟨w.heap.size, 0, none⟩) exW := by
  intro i x hx
  refine ⟨w.heap.size, 0, rfl, by simp, ?_⟩
  have hi : i < 5 := (List.getElem?_eq_some_iff.1 hx).1
  match i, hi with
  | 0, _ => simp [exW] at hx; subst hx; exact ⟨by rw [World.cell?_alloc_at _ _ _ _ rfl]; rfl, by rw [World.cell?_alloc_at _ _ _ _ rfl]; rfl⟩
  | 1, _ => simp [exW] at hx; subst hx; exact ⟨by rw [World.cell?_alloc_at _ _ _ _ rfl]; rfl, by rw [World.cell?_alloc_at _ _ _ _ rfl]; rfl⟩
  | 2, _ => simp [exW] at hx; subst hx; exact ⟨by rw [World.cell?_alloc_at _ _ _ _ rfl]; rfl, by rw [World.cell?_alloc_at _ _ _ _ rfl]; rfl⟩
  | 3, _ => simp [exW] at hx; subst hx; exact ⟨by rw [World.cell?_alloc_at _ _ _ _ rfl]; rfl, by rw [World.cell?_alloc_at _ _ _ _ rfl]; rfl⟩
  | 4, _ => simp [exW] at hx; subst hx; exact ⟨by rw [World.cell?_alloc_at _ _ _ _ rfl]; rfl, by rw [World.cell?_alloc_at _ _ _ _ rfl]; rfl⟩
theorem wints_row (A B : Option Addr) (n m c d : Nat) (zs ys : List Int) (w : World) (he : zs = ys) (h : Row w A n c zs) (hb : Row w B m d ys) :
    Calls Tryz.prog 16 #[.slice A n c, .slice B m d] w fun e w' => e = .returned (.bool true) ∧ Below w.heap.size w w' := by
  subst he
  obtain rfl : n = m := h.len.symm.trans hb.len
  exact ints_same A B n c d zs w (Lib.hid h.len) (by have := h.cap; have := h.most; omega) h.row hb.row
set_option maxRecDepth 100000 in
set_option maxHeartbeats 2000000 in
theorem wshown_any (w : World) (hT : Tab w) : Calls Tryz.prog 9 #[] w fun e w' => e = .returned (.bool true) ∧ Below w.heap.size w w' := by
  have HT := Lib.hid hT
  clear hT
  go_enter Tryz.func9, Tryz.ntmps9
  go_wp2_with fail
  obtain ⟨V1, h1⟩ : ∃ V1, V1 = w.alloc (.cells #[.int .i64 (-1), .int .i64 0, .int .i64 0, .int .i64 1, .int .i64 1, .int .i64 2, .int .i64 2, .int .i64 3, .int .i64 2, .int .i64 3] 57) := ⟨_, rfl⟩
  have hv := exw_tree w 57
  have b1 := below_new w (.cells #[.int .i64 (-1), .int .i64 0, .int .i64 0, .int .i64 1, .int .i64 1, .int .i64 2, .int .i64 2, .int .i64 3, .int .i64 2, .int .i64 3] 57)
  have s1 : V1.heap.size = w.heap.size + 1 := by rw [h1]; simp
  rw [← h1] at hv b1 ⊢
  clear h1
  obtain ⟨V2, h2⟩ : ∃ V2, V2 = V1.alloc (.cells #[.int .i64 1, .int .i64 2, .int .i64 3] 3) := ⟨_, rfl⟩
  have r2 := row_lit V1 [1, 2, 3] (by simp)
  rw [show (.cells ([1, 2, 3].map (Value.int .i64)).toArray 3 : Obj) = .cells #[.int .i64 1, .int .i64 2, .int .i64 3] 3 from rfl] at r2
  have b2 := below_new V1 (.cells #[.int .i64 1, .int .i64 2, .int .i64 3] 3)
  have s2 : V2.heap.size = V1.heap.size + 1 := by rw [h2]; simp
  rw [← h2] at r2 b2 ⊢
  clear h2
  obtain ⟨V3, h3⟩ : ∃ V3, V3 = V2.alloc (.cells #[.int .i64 0, .slice none 0 0, .int .i64 0, .slice (some ⟨w.heap.size + 1, 0, none⟩) 3 3] 54) := ⟨_, rfl⟩
  have c0 : V3.cell? ⟨V2.heap.size, 0, none⟩ = some (.int .i64 0) := by rw [h3, World.cell?_alloc_at _ _ _ _ rfl]; rfl
  have c1 : V3.cell? ⟨V2.heap.size, 1, none⟩ = some (.slice none 0 0) := by rw [h3, World.cell?_alloc_at _ _ _ _ rfl]; rfl
  have c2 : V3.cell? ⟨V2.heap.size, 2, none⟩ = some (.int .i64 0) := by rw [h3, World.cell?_alloc_at _ _ _ _ rfl]; rfl
  have c3 : V3.cell? ⟨V2.heap.size, 3, none⟩ = some (.slice (some ⟨w.heap.size + 1, 0, none⟩) 3 3) := by rw [h3, World.cell?_alloc_at _ _ _ _ rfl]; rfl
  have b3 := below_new V2 (.cells #[.int .i64 0, .slice none 0 0, .int .i64 0, .slice (some ⟨w.heap.size + 1, 0, none⟩) 3 3] 54)
  have s3 : V3.heap.size = V2.heap.size + 1 := by rw [h3]; simp
  rw [← h3] at b3 ⊢
  clear h3
  obtain ⟨V4, h4⟩ : ∃ V4, V4 = V3.alloc (.cells #[.slice none 0 0] 42) := ⟨_, rfl⟩
  have d0 : V4.cell? ⟨V3.heap.size, 0, none⟩ = some (.slice none 0 0) := by rw [h4, World.cell?_alloc_at _ _ _ _ rfl]; rfl
  have b4 := below_new V3 (.cells #[.slice none 0 0] 42)
  have s4 : V4.heap.size = V3.heap.size + 1 := by rw [h4]; simp
  rw [← h4] at b4 ⊢
  clear h4
  have e1 : V1.heap.size = w.heap.size + 1 := s1
  have e2 : V2.heap.size = w.heap.size + 1 + 1 := by omega
  have e3 : V3.heap.size = w.heap.size + 1 + 1 + 1 := by omega
  have q24 := held_trans b3 b4
  have q14 := held_trans b2 q24
  have qw4 := held_trans b1 q14
  have hM : RM (fun b => b < V4.heap.size) V4 ⟨some ⟨w.heap.size, 0, none⟩, 5, 5, some ⟨w.heap.size + 1 + 1, 0, none⟩, 2, 2, some ⟨w.heap.size + 1 + 1 + 1, 0, none⟩, 1, 1⟩ twoR := by
    refine ⟨rfl, by show 5 ≤ 9223372036854775807; decide, (by intro x hx; simp [twoR, exW] at hx; rcases hx with rfl | rfl | rfl | rfl <;> exact ⟨⟨by decide, by decide⟩, ⟨by decide, by decide⟩⟩), (hv.below q14).more q14.size, fun _ ad e => ?_, ⟨[⟨0, [], none, 0, 0⟩, ⟨0, [1, 2, 3], some ⟨w.heap.size + 1, 0, none⟩, 3, 3⟩], ?_, rfl, ?_⟩, ⟨[⟨0, [], none, 0, 0⟩], ?_, rfl, ?_⟩, by decide, ⟨by decide, by decide⟩⟩
    · injection e with e; subst e; simp only; omega
    · refine xr_two (by omega) (fun j u hj => ?_) (fun j u hj => ?_) (Row.nothing _) (by rw [← e1]; exact r2.below q24)
      · match j, hj with
        | 0, hj => simp [csG] at hj; subst hj; rw [← e2]; exact keepcell b4 c0
        | 1, hj => simp [csG] at hj; subst hj; rw [← e2]; exact keepcell b4 c1
      · match j, hj with
        | 0, hj => simp [csG] at hj; subst hj; rw [← e2]; exact keepcell b4 c2
        | 1, hj => simp [csG] at hj; subst hj; rw [← e2]; exact keepcell b4 c3
    · refine ⟨fun _ ad e => ?_, fun e he hne ad h => ?_⟩
      · injection e with e; subst e; simp only; omega
      · rcases List.mem_cons.1 he with rfl | he
        · exact absurd rfl hne
        · rw [List.mem_singleton] at he; subst he; injection h with h; subst h; simp only; omega
    · refine xr_one' (by omega) (fun j u hj => ?_) (Row.nothing _)
      match j, hj with
      | 0, hj => simp [csL] at hj; subst hj; rw [← e3]; exact d0
    · refine ⟨fun _ ad e => ?_, fun e he hne ad h => ?_⟩
      · injection e with e; subst e; simp only; omega
      · rw [List.mem_singleton] at he; subst he; exact absurd rfl hne
  have FL := stealSteal_any _ twoR 0 1 V4 hM (fun b hb => hb) two_low ⟨by decide, by decide⟩ ⟨by decide, by decide⟩ (HT.out.step qw4)
  rw [two_steal] at FL
  unfold jv at FL
  simp only at FL
  have C := Lib.hid FL
  have B4 := Lib.hid qw4
  clear FL hM hv b1 b2 b3 b4 r2 c0 c1 c2 c3 d0 q24 q14 qw4 e1 e2 e3 s1 s2 s3 s4
  refine C.out.mono ?_
  rintro e w5 ⟨⟨A5, nt5, ct5, R5, nr5, cr5, S5, ns5, cs5⟩, rfl, hm5, hb5⟩
  obtain ⟨bR, oR, A1, n1, c1, hR, _, g0, g1, hrow1⟩ := hm5.ringAt (i := 0) (x := (0, [2])) rfl
  obtain ⟨bR', oR', A2, n2, c2, hR', _, g2, g3, hrow2⟩ := hm5.ringAt (i := 1) (x := (0, [3])) rfl
  have hnr := hm5.nr
  simp only at hR hR' hnr g0 g1 g2 g3
  subst hR
  injection hR' with hR'
  injection hR' with hRa hRb
  subst hRa hRb
  obtain rfl : nr5 = 2 := hnr.1.symm
  have B5 := Lib.hid (held_trans B4.out hb5)
  have HR1 := Lib.hid hrow1
  have HR2 := Lib.hid hrow2
  unfold jv
  simp only
  have hb6 := below_new w5 (.cells #[.slice A5 nt5 ct5, .int .i64 twoT.size, .slice (some ⟨bR, oR, none⟩) 2 cr5, .slice S5 ns5 cs5, .int .u64 (twoT.on : Nat)] 33)
  have HY := C5.new w5 (.slice A5 nt5 ct5) (.int .i64 twoT.size) (.slice (some ⟨bR, oR, none⟩) 2 cr5) (.slice S5 ns5 cs5) (.int .u64 (twoT.on : Nat)) 33
  obtain ⟨V6, hV6⟩ : ∃ V6, V6 = w5.alloc (.cells #[.slice A5 nt5 ct5, .int .i64 twoT.size, .slice (some ⟨bR, oR, none⟩) 2 cr5, .slice S5 ns5 cs5, .int .u64 (twoT.on : Nat)] 33) := ⟨_, rfl⟩
  rw [← hV6] at hb6 HY
  have E6 := Lib.hid hV6
  have y2 := HY.b5.c2
  have Y6 := Lib.hid HY
  have k1 := keepcell hb6 g1
  have k3 := keepcell hb6 g3
  have G3 := Lib.hid k3
  have B6 := Lib.hid (held_trans B5.out hb6)
  have I1 := Lib.hid (wints_row A1 (some ⟨V6.heap.size, 0, none⟩) n1 1 c1 1 [2] [2] _ rfl ((hrow1.below hb6).below (below_new V6 (.cells #[.int .i64 2] 3))) (row_at V6 2 V6.heap.size rfl))
  have HR6 := Lib.hid (hrow2.below hb6)
  clear hm5 hnr hb5 hrow1 hrow2 B4 C hV6 HY g0 g1 g2 g3 hb6 B5 HR1 HR2
  go_wp2_with (rw [← E6.out])
  clear E6
  refine I1.out.mono ?_
  rintro e w7 ⟨rfl, hb7⟩
  have hb67 := (below_new V6 (.cells #[.int .i64 2] 3)).trans (hb7.mono (by simp))
  have y2 := (Y6.out.step hb67).b5.c2
  have k3 := keepcell hb67 G3.out
  have B7 := Lib.hid (held_trans B6.out hb67)
  have I2 := Lib.hid (wints_row A2 (some ⟨w7.heap.size, 0, none⟩) n2 1 c2 1 [3] [3] _ rfl ((HR6.out.below hb67).below (below_new w7 (.cells #[.int .i64 3] 3))) (row_at w7 3 w7.heap.size rfl))
  clear hb7 hb67 I1 B6 Y6 G3 HR6
  go_wp2_with fail
  refine I2.out.mono ?_
  rintro e w8 ⟨rfl, hb8⟩
  have B8 := Lib.hid (held_trans (held_trans B7.out (below_new w7 (.cells #[.int .i64 3] 3))) hb8)
  clear hb8 I2 B7 y2 k3
  go_wp2_with fail
  go_ret
  exact ⟨rfl, B8.out⟩
end Go.Proofs.YtdohnhdjlhaaaaaGreatDoor

