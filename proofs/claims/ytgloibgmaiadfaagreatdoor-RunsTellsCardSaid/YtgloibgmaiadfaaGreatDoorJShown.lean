/- The document's example, at the head of all statements. -/
import Derived.Test.YtgloibgmaiadfaaGreatDoorJRuns
import Derived.Test.YtgloibgmaiadfaaGreatDoorJFew
import Derived.Test.YtgloibgmaiadfaaGreatDoorM4
import Derived.Test.YtgloibgmaiadfaaGreatDoorJFrame
namespace Go.Proofs.YtgloibgmaiadfaaGreatDoor
open Go.RowKit
set_option linter.unusedVariables false

/-- What the example's tree is in memory. -/
theorem ex_row (w : World) (T : TypeId) : VRow (w.alloc (.cells #[.int .i64 (-1), .int .i64 0, .int .i64 0, .int .i64 1, .int .i64 1, .int .i64 2, .int .i64 2, .int .i64 3] T)) (w.alloc (.cells #[.int .i64 (-1), .int .i64 0, .int .i64 0, .int .i64 1, .int .i64 1, .int .i64 2, .int .i64 2, .int .i64 3] T)).heap.size (some ⟨w.heap.size, 0, none⟩) Jp.exT := by
  intro i x hx
  refine ⟨w.heap.size, 0, rfl, by simp, ?_⟩
  have hi : i < 4 := (List.getElem?_eq_some_iff.1 hx).1
  match i, hi with
  | 0, _ => simp [Jp.exT] at hx; subst hx; exact ⟨by rw [World.cell?_alloc_at _ _ _ _ rfl]; rfl, by rw [World.cell?_alloc_at _ _ _ _ rfl]; rfl⟩
  | 1, _ => simp [Jp.exT] at hx; subst hx; exact ⟨by rw [World.cell?_alloc_at _ _ _ _ rfl]; rfl, by rw [World.cell?_alloc_at _ _ _ _ rfl]; rfl⟩
  | 2, _ => simp [Jp.exT] at hx; subst hx; exact ⟨by rw [World.cell?_alloc_at _ _ _ _ rfl]; rfl, by rw [World.cell?_alloc_at _ _ _ _ rfl]; rfl⟩
  | 3, _ => simp [Jp.exT] at hx; subst hx; exact ⟨by rw [World.cell?_alloc_at _ _ _ _ rfl]; rfl, by rw [World.cell?_alloc_at _ _ _ _ rfl]; rfl⟩
theorem ex_low (k : Nat) : Low (Jp.exS k) := by
  have fit : ∀ l : List Int, (∀ z ∈ l, 0 ≤ z ∧ z ≤ 9) → ∀ z ∈ l, In64 z := fun l h z hz => by have := h z hz; unfold In64; omega
  match k with
  | 0 => exact ⟨by decide, by decide, by decide, by decide, by decide, fit _ (by decide)⟩
  | 1 => exact ⟨by decide, by decide, by decide, by decide, by decide, fit _ (by decide)⟩
  | 2 => exact ⟨by decide, by decide, by decide, by decide, by decide, fit _ (by decide)⟩
  | 3 => exact ⟨by decide, by decide, by decide, by decide, by decide, fit _ (by decide)⟩
  | (n + 4) =>
    refine ⟨?_, ?_, ?_, ?_, ?_, ?_⟩
    · show [(4, [2])].length ≤ 64; decide
    · show [[1, 3]].length ≤ 64; decide
    · intro g hg
      have : g ∈ [((4 : Int), [(2 : Int)])] := hg
      simp at this; subst this; decide
    · intro g hg
      have : g ∈ [[(1 : Int), 3]] := hg
      simp at this; subst this; decide
    · show Jp.exT.length ≤ 64; decide
    · intro z hz
      have : z ∈ [(4 : Int), 2, 1, 3] := hz
      exact fit _ (by decide) z this
/-- What is told lies in blocks that are there. -/
theorem LieE.bound {F : Nat → Prop} {cs : El → List Value} {sz : Nat} {w : World} {A : Option Addr} {n c : Nat} {es : List El} (h : LieE F A es) (hx : XR cs sz w A n c es) : LieE (fun b => F b ∧ b < w.heap.size) A es := by
  refine ⟨fun hne ad hA => ⟨h.1 hne ad hA, ?_⟩, fun e he hne ad hA => ⟨h.2 e he hne ad hA, row_block (hx.rows e he) hne hA⟩⟩
  obtain ⟨e0, he0⟩ : ∃ e, es[0]? = some e := ⟨_, List.getElem?_eq_getElem (List.length_pos_iff.2 hne)⟩
  obtain ⟨b, off, e1, hb, _⟩ := hx.cell 0 e0 he0
  rw [hA] at e1
  injection e1 with e1
  subst e1
  exact hb
theorem RM.bound {F : Nat → Prop} {w : World} {d : Ad} {r : Jp.Rn} (h : RM F w d r) : RM (fun b => F b ∧ b < w.heap.size) w d r := by
  obtain ⟨gs, h1, h2, h5⟩ := h.rings
  obtain ⟨ls, h3, h4, h6⟩ := h.rows
  refine ⟨h.tlen, h.tmax, h.fit, h.tree, fun hne ad hA => ⟨h.lie hne ad hA, ?_⟩, ⟨gs, h1, h2, h5.bound h1⟩, ⟨ls, h3, h4, h6.bound h3⟩, h.on, h.size⟩
  obtain ⟨x0, hx0⟩ : ∃ x, r.tree[0]? = some x := ⟨_, List.getElem?_eq_getElem (List.length_pos_iff.2 hne)⟩
  obtain ⟨b, off, e5, hb, _⟩ := h.tree 0 x0 hx0
  rw [hA] at e5
  injection e5 with e5
  subst e5
  exact hb
/-- Blocks that are there, but for one. -/
def FX (X : Nat) (w : World) : Nat → Prop := fun b => b ≠ X ∧ b < w.heap.size
set_option maxRecDepth 100000 in
set_option maxHeartbeats 2000000 in
theorem jshown_any (w : World) (hT : Tab w) : Calls Tryz.prog 4 #[] w fun e w' => e = .returned (.bool true) ∧ Below w.heap.size w w' := by
  have HT := Lib.hid hT
  have hv := ex_row w 53
  have hb := below_new w (.cells #[.int .i64 (-1), .int .i64 0, .int .i64 0, .int .i64 1, .int .i64 1, .int .i64 2, .int .i64 2, .int .i64 3] 53)
  have hsz : (w.alloc (.cells #[.int .i64 (-1), .int .i64 0, .int .i64 0, .int .i64 1, .int .i64 1, .int .i64 2, .int .i64 2, .int .i64 3] 53)).heap.size = w.heap.size + 1 := by simp
  obtain ⟨V, hV⟩ : ∃ V, V = w.alloc (.cells #[.int .i64 (-1), .int .i64 0, .int .i64 0, .int .i64 1, .int .i64 1, .int .i64 2, .int .i64 2, .int .i64 3] 53) := ⟨_, rfl⟩
  rw [← hV] at hv hb hsz
  have E := Lib.hid hV
  have B0 := Lib.hid hb
  have SZ := Lib.hid hsz
  have NW := Lib.hid (runsNew_any (F := fun b => w.heap.size ≤ b ∧ b < V.heap.size) (some ⟨w.heap.size, 0, none⟩) 4 4 Jp.exT 2 V (Lib.hid rfl) (by omega) (Lib.hid (by intro x hx; simp [Jp.exT] at hx; rcases hx with rfl | rfl | rfl | rfl <;> exact ⟨⟨by decide, by decide⟩, ⟨by decide, by decide⟩⟩)) hv (fun _ ad e => by injection e with e; subst e; simp only; omega) (fun b hb => hb.2) ⟨by decide, by decide⟩ (HT.out.step hb))
  clear hV hv hb hsz
  go_enter Tryz.func4, Tryz.ntmps4
  go_wp2_with (rw [← E.out])
  clear E
  refine NW.out.mono ?_
  rw [Jp.ex_new]
  rintro e w1 ⟨⟨A0, nt, ct, R, nr, cr, S, ns, cs⟩, rfl, hm1, hb1⟩
  unfold jv
  simp only
  have hO := C5.new w1 (.slice A0 nt ct) (.int .i64 (Jp.exS 0).size) (.slice R nr cr) (.slice S ns cs) (.int .u64 ((Jp.exS 0).on : Nat)) 33
  have hb2 := below_new w1 (.cells #[.slice A0 nt ct, .int .i64 (Jp.exS 0).size, .slice R nr cr, .slice S ns cs, .int .u64 ((Jp.exS 0).on : Nat)] 33)
  have hsz1 : (w1.alloc (.cells #[.slice A0 nt ct, .int .i64 (Jp.exS 0).size, .slice R nr cr, .slice S ns cs, .int .u64 ((Jp.exS 0).on : Nat)] 33)).heap.size = w1.heap.size + 1 := by simp
  obtain ⟨V1, hV1⟩ : ∃ V1, V1 = w1.alloc (.cells #[.slice A0 nt ct, .int .i64 (Jp.exS 0).size, .slice R nr cr, .slice S ns cs, .int .u64 ((Jp.exS 0).on : Nat)] 33) := ⟨_, rfl⟩
  rw [← hV1] at hO hb2 hsz1
  have E1 := Lib.hid hV1
  have hbe1 := held_trans B0.out hb1
  obtain ⟨X, hX⟩ : ∃ X, X = w1.heap.size := ⟨_, rfl⟩
  rw [← hX] at hO hsz1
  have M1 := (hm1.bound.mono (G := fun b => b ≠ X) (fun b hb => by have := hb.2; omega)).below hb2
  have HM1 := Lib.hid (show RM (FX X V1) V1 ⟨A0, nt, ct, R, nr, cr, S, ns, cs⟩ (Jp.exS 0) from M1.bound)
  have O1 := Lib.hid hO
  have B1 := Lib.hid (held_trans hbe1 hb2)
  have HXW := Lib.hid (show w.heap.size ≤ X by rw [hX]; exact hbe1.size)
  have HXE := Lib.hid hX
  clear hV1 hO hb2 hsz1 hbe1 hm1 hb1 hX M1 NW B0 SZ
  go_wp2_with (rw [← E1.out])
  rw [← HXE.out]
  clear E1 HXE
  go_loopw [3] (fun i wr => ∃ k : Nat, k ≤ 4 ∧ i = .int .i64 ((k : Int) + 1) ∧ ∃ A0 nt ct R nr cr S ns cs, Hid (C5 wr X (.slice A0 nt ct) (.int .i64 (Jp.exS k).size) (.slice R nr cr) (.slice S ns cs) (.int .u64 ((Jp.exS k).on : Nat))) ∧ Hid (RM (FX X wr) wr ⟨A0, nt, ct, R, nr, cr, S, ns, cs⟩ (Jp.exS k)) ∧ Hid (Below w.heap.size w wr)) (fun i _ => 5 - (intOf i).toNat)
  case atStart => exact ⟨0, Nat.zero_le _, rfl, _, _, _, _, _, _, _, _, _, O1, HM1, B1⟩
  case round =>
    clear O1 HM1 B1
    obtain ⟨k, hk, rfl, A0, nt, ct, R, nr, cr, S, ns, cs, OK, MK, BK⟩ := hrel
    have t0 := OK.out.b5.c0
    have t1 := OK.out.b5.c1
    have t2 := OK.out.b5.c2
    have t3 := OK.out.b5.c3
    have t4 := OK.out.b5.c4
    by_cases hlt : k < 4
    · have l1 : (k : Int) + 1 ≤ 4 := by omega
      have hPT := runsPut_any ⟨A0, nt, ct, R, nr, cr, S, ns, cs⟩ (Jp.exS k) 0 ((k : Int) + 1) wr MK.out (fun b hb => hb.2) (ex_low k) ⟨by decide, by decide⟩ (by unfold In64; omega) (HT.out.step BK.out)
      rw [Jp.ex_put k hlt] at hPT
      unfold jv at hPT
      simp only at hPT
      have PT := Lib.hid hPT
      clear hPT
      obtain ⟨sk, hsk⟩ : ∃ sk, sk = (Jp.exS k).size := ⟨_, rfl⟩
      obtain ⟨ok, hok⟩ : ∃ ok, ok = (Jp.exS k).on := ⟨_, rfl⟩
      go_wp2_with fail
      refine PT.out.mono ?_
      rintro e w2 ⟨⟨A1, nt1, ct1, R1, nr1, cr1, S1, ns1, cs1⟩, rfl, hm2, hb2⟩
      unfold jv
      simp only
      have hO3 := (OK.out.step hb2).step (below_new w2 (.cells #[.slice A1 nt1 ct1, .int .i64 (Jp.exS (k + 1)).size, .slice R1 nr1 cr1, .slice S1 ns1 cs1, .int .u64 ((Jp.exS (k + 1)).on : Nat)] 33))
      have hY3 := C5.new w2 (.slice A1 nt1 ct1) (.int .i64 (Jp.exS (k + 1)).size) (.slice R1 nr1 cr1) (.slice S1 ns1 cs1) (.int .u64 ((Jp.exS (k + 1)).on : Nat)) 33
      have hbn := below_new w2 (.cells #[.slice A1 nt1 ct1, .int .i64 (Jp.exS (k + 1)).size, .slice R1 nr1 cr1, .slice S1 ns1 cs1, .int .u64 ((Jp.exS (k + 1)).on : Nat)] 33)
      obtain ⟨W3, hW3⟩ : ∃ W3, W3 = w2.alloc (.cells #[.slice A1 nt1 ct1, .int .i64 (Jp.exS (k + 1)).size, .slice R1 nr1 cr1, .slice S1 ns1 cs1, .int .u64 ((Jp.exS (k + 1)).on : Nat)] 33) := ⟨_, rfl⟩
      rw [← hW3] at hO3 hY3 hbn
      have E3 := Lib.hid hW3
      have B3 := held_trans (held_trans BK.out hb2) hbn
      have hxl := OK.out.lt
      have M3 := (hm2.mono (G := fun b => b ≠ X) (fun b hb => by
        rcases hb with h | h
        · exact h.1
        · omega)).below hbn
      have M4 := M3.put (X := X) (fun h => h rfl) (.slice A1 nt1 ct1) (.int .i64 (Jp.exS (k + 1)).size) (.slice R1 nr1 cr1) (.slice S1 ns1 cs1) (.int .u64 ((Jp.exS (k + 1)).on : Nat))
      have MK4 := Lib.hid M4.bound
      have OK4 := Lib.hid (hO3.put (.slice A1 nt1 ct1) (.int .i64 (Jp.exS (k + 1)).size) (.slice R1 nr1 cr1) (.slice S1 ns1 cs1) (.int .u64 ((Jp.exS (k + 1)).on : Nat)))
      have BK4 := Lib.hid (below_put (b := X) B3 HXW.out (.slice A1 nt1 ct1) (.int .i64 (Jp.exS (k + 1)).size) (.slice R1 nr1 cr1) (.slice S1 ns1 cs1) (.int .u64 ((Jp.exS (k + 1)).on : Nat)))
      have v0 := hY3.b5.c0
      have v1 := hY3.b5.c1
      have v2 := hY3.b5.c2
      have v3 := hY3.b5.c3
      have v4 := hY3.b5.c4
      have x0 := hO3.b5.c0
      have x1 := hO3.b5.c1
      have x2 := hO3.b5.c2
      have x3 := hO3.b5.c3
      have x4 := hO3.b5.c4
      have f0 := hO3.f0
      have f1 := hO3.f1
      have f2 := hO3.f2
      have f3 := hO3.f3
      have f4 := hO3.f4
      unfold put5 at MK4 OK4 BK4
      clear hO3 hY3 hbn hW3 B3 M3 M4 hm2 hb2 t0 t1 t2 t3 t4 PT
      go_wp2_with (rw [← E3.out])
      have wk : IntKind.i64.wrap ((k : Int) + 1 + 1) = ((k + 1 : Nat) : Int) + 1 := by
        rw [show (k : Int) + 1 + 1 = ((k + 1 : Nat) : Int) + 1 by omega]
        exact IntWalk.i64_in _ (by omega)
      go_roundw
      case rel => exact ⟨k + 1, by omega, by first | exact wk | rw [wk] | (rw [wk]; omega) | go_num, _, _, _, _, _, _, _, _, _, OK4, MK4, BK4⟩
      case measure => simp [intOf]; omega
    · obtain rfl : k = 4 := by omega
      obtain ⟨hr1, hr2, hr3⟩ := MK.out.nr
      obtain ⟨hs1, hs2, hs3⟩ := MK.out.ns
      simp only at hr1 hr2 hr3 hs1 hs2 hs3
      obtain rfl : 1 = nr := hr1
      obtain rfl : 1 = ns := hs1
      obtain ⟨b1, o1, A, n, c, hR, _, c0, c1, hrow⟩ := MK.out.ringAt (i := 0) (x := (4, [2])) rfl
      obtain ⟨b2, o2, A2, n2, c2, hS, _, e0, hrow2⟩ := MK.out.rowAt (i := 0) (x := [1, 3]) rfl
      simp only at hR hS
      subst hR hS
      rw [Nat.zero_mul, Nat.add_zero] at c0 c1
      rw [Nat.add_zero] at e0
      obtain rfl : 1 = n := hrow.len
      obtain rfl : 2 = n2 := hrow2.len
      have HR := Lib.hid hrow
      have HR2 := Lib.hid hrow2
      have l1 : ¬ (4 : Int) + 1 ≤ 4 := by omega
      clear hrow hrow2 MK OK t0 t1 t4
      go_wp2_with fail
      have hb5 := below_new wr (.cells #[.int .i64 2] 3)
      have R5 := row_at wr 2 wr.heap.size rfl
      refine (ints_same A (some ⟨wr.heap.size, 0, none⟩) 1 c 1 [2] _ (Lib.hid rfl) (by omega) (HR.out.below hb5).row R5.row).mono ?_
      rintro e w6 ⟨rfl, hb6'⟩
      have hb6 := hb5.trans (hb6'.mono hb5.size)
      have u3 := keepcell hb6 t3
      have u0 := keepcell hb6 e0
      have B6 := held_trans BK.out hb6
      have HR6 := Lib.hid (HR2.out.below hb6)
      clear hb5 R5 hb6' hb6
      go_wp2_with fail
      have hb7 := below_new w6 (.cells #[.int .i64 1, .int .i64 3] 3)
      have R7 : Row (w6.alloc (.cells #[.int .i64 1, .int .i64 3] 3)) (some ⟨w6.heap.size, 0, none⟩) 2 2 [1, 3] := row_lit w6 [1, 3] (by decide)
      refine (ints_same A2 (some ⟨w6.heap.size, 0, none⟩) 2 c2 2 [1, 3] _ (Lib.hid rfl) (by omega) (HR6.out.below hb7).row R7.row).mono ?_
      rintro e w8 ⟨rfl, hb8'⟩
      have BE := Lib.hid (held_trans (held_trans B6 hb7) hb8')
      clear hb7 hb8' R7
      go_wp2_with fail
      go_ret
      exact ⟨rfl, BE.out⟩
end Go.Proofs.YtgloibgmaiadfaaGreatDoor

