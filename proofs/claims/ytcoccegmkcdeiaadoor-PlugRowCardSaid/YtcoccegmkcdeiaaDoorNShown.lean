/- The document's example of layer 20, at the head of all statements. -/
import Derived.Test.YtcoccegmkcdeiaaDoorNUnplug
import Derived.Test.YtcoccegmkcdeiaaDoorJNewL
import Derived.Test.YtcoccegmkcdeiaaDoorM7
import Derived.Test.YtcoccegmkcdeiaaDoorM5
import Derived.Test.YtcoccegmkcdeiaaDoorM1
import Derived.Test.YtcoccegmkcdeiaaDoorM9
namespace Go.Proofs.YtcoccegmkcdeiaaDoor
open Go.RowKit
set_option linter.unusedVariables false

def exN : List (Int × Int) := [(-1, 0), (0, 1), (1, 2), (2, 3), (2, 3)]
def nR0 : Jp.Rn := ⟨exN, 4, [(0, []), (0, [])], [[]], 3⟩
def nR1 : Jp.Rn := ⟨exN, 4, [(4, [2]), (0, [])], [[]], 3⟩
def nR2 : Jp.Rn := ⟨exN, 4, [(0, []), (0, [])], [[7, 4, 2]], 2⟩
theorem n_parse : Tx.parse [109, 40, 110, 40, 99, 40, 112, 112, 41, 41, 41] = (exN, 0, 0) := by decide
theorem n_new : Jp.new exN 4 = (nR0, 0) := by
  unfold Jp.new
  rw [if_neg (by decide), if_neg (by decide)]
  rfl
theorem n_may : Jp.May nR1 := by
  refine ⟨by decide, by decide, by decide, by decide, by decide, by decide, by decide, fun p x hx => ?_, by decide⟩
  match p, hx with
  | 0, hx => simp [nR1] at hx; subst hx; exact ⟨by decide, .inr (by decide)⟩
  | 1, hx => simp [nR1] at hx; subst hx; exact ⟨by decide, .inl rfl⟩
theorem n_low : Low nR1 := by
  have fit : ∀ l : List Int, (∀ z ∈ l, 0 ≤ z ∧ z ≤ 9) → ∀ z ∈ l, In64 z := fun l h z hz => by have := h z hz; unfold In64; omega
  exact ⟨by decide, by decide, by decide, by decide, by decide, fit _ (by decide)⟩
theorem n_gone : Jp.unplug nR1 0 7 = (nR2, 0) := by
  rw [show (0 : Int) = ((0 : Nat) : Int) from rfl, Jp.unplug_done (by rintro (h | h | h | h) <;> first | exact h n_may | (revert h; decide)) (by decide) (by decide) (by decide)]
  rfl
theorem ints_rowN (A B : Option Addr) (n m c d : Nat) (zs ys : List Int) (w : World) (he : zs = ys) (h : Row w A n c zs) (hb : Row w B m d ys) :
    Calls Tryd.prog 13 #[.slice A n c, .slice B m d] w fun e w' => e = .returned (.bool true) ∧ Below w.heap.size w w' := by
  subst he
  obtain rfl : n = m := h.len.symm.trans hb.len
  exact ints_same A B n c d zs w (Lib.hid h.len) (by have := h.cap; have := h.most; omega) h.row hb.row
set_option maxRecDepth 100000 in
set_option maxHeartbeats 2000000 in
theorem nshown_any (w : World) (hT : Tab w) : Calls Tryd.prog 5 #[] w fun e w' => e = .returned (.bool true) ∧ Below w.heap.size w w' := by
  have HT := Lib.hid hT
  have hpa := parse_anyL3 ⟨#[109, 40, 110, 40, 99, 40, 112, 112, 41, 41, 41]⟩ w (by decide)
  rw [show (ByteArray.mk #[109, 40, 110, 40, 99, 40, 112, 112, 41, 41, 41]).data.toList = [109, 40, 110, 40, 99, 40, 112, 112, 41, 41, 41] from rfl, n_parse] at hpa
  have PA := Lib.hid hpa
  clear hpa hT
  go_enter Tryd.func5, Tryd.ntmps5
  go_wp2_with fail
  refine PA.out.mono ?_
  rintro e w1 ⟨A, c, rfl, hv, hb1⟩
  have B1 := Lib.hid hb1
  have hlt := tree_lt hv (by decide)
  have NW := Lib.hid (runsNew_own (F := fun b => b < w1.heap.size) A 5 c exN 4 w1 (Lib.hid rfl) (by decide) (Lib.hid (by intro x hx; simp [exN] at hx; rcases hx with rfl | rfl | rfl | rfl <;> exact ⟨⟨by decide, by decide⟩, ⟨by decide, by decide⟩⟩)) hv (fun _ ad e => hlt ad e) (fun b hb => hb) ⟨by decide, by decide⟩ (HT.out.step hb1))
  rw [n_new] at NW
  rw [show exN.length = 5 from rfl]
  clear hv hb1 hlt PA
  go_wp2_with fail
  refine NW.out.mono ?_
  rintro e w2 ⟨⟨A1, nt1, ct1, R1, nr1, cr1, S1, ns1, cs1⟩, rfl, hm2, hb2, hown⟩
  obtain ⟨es, ls, xr, her, xl, hel⟩ := hown rfl
  have hns := hm2.ns
  have hnr := hm2.nr
  simp only at hns hnr xr xl
  obtain rfl : 1 = ns1 := hns.1
  obtain rfl : 2 = nr1 := hnr.1
  obtain ⟨gR, cap, eR, hgR1, hgR2, _, _⟩ := xr.form (by decide)
  injection eR with eR1 _ eR2
  subst eR1 eR2
  have hbn := below_new w2 (.cells #[.slice A1 nt1 ct1, .int .i64 4, .slice (some ⟨gR, 0, none⟩) 2 cr1, .slice S1 1 cs1, .int .u64 3] 33)
  have hY := B5.new w2 (.slice A1 nt1 ct1) (.int .i64 4) (.slice (some ⟨gR, 0, none⟩) 2 cr1) (.slice S1 1 cs1) (.int .u64 3) 33
  obtain ⟨V3, hV3⟩ : ∃ V3, V3 = w2.alloc (.cells #[.slice A1 nt1 ct1, .int .i64 4, .slice (some ⟨gR, 0, none⟩) 2 cr1, .slice S1 1 cs1, .int .u64 3] 33) := ⟨_, rfl⟩
  have s3 : V3.heap.size = w2.heap.size + 1 := by rw [hV3]; simp
  rw [← hV3] at hbn hY
  have E3 := Lib.hid hV3
  have hbn2 := below_new V3 (.cells #[.int .i64 2] 3)
  have r4 := row_lit V3 [2] (by simp)
  rw [show (.cells ([2].map (Value.int .i64)).toArray 3 : Obj) = .cells #[.int .i64 2] 3 from rfl] at r4
  obtain ⟨V4, hV4⟩ : ∃ V4, V4 = V3.alloc (.cells #[.int .i64 2] 3) := ⟨_, rfl⟩
  rw [← hV4] at hbn2 r4
  have E4 := Lib.hid hV4
  have h24 := hbn.trans (hbn2.mono hbn.size)
  have xl4 := xl.step h24
  have xr4 := xr.step h24
  have hm4 := hm2.below h24
  have Y4 := hY.step hbn2
  have hl : es.length = 2 := xr.len csG_len (by decide)
  obtain ⟨e0, he0⟩ : ∃ e, es[0]? = some e := ⟨_, List.getElem?_eq_getElem (by omega)⟩
  have hcg : V4.cell? ⟨gR, 0, none⟩ = some (.int .i64 e0.x) := by
    have p4 := xr4.own.cellAt 0 (by omega)
    have p5 := flat_at csG_len es 0 e0 0 he0 (by decide)
    rw [Nat.zero_mul, Nat.zero_add] at p5
    rw [p5] at p4
    exact p4
  have hcg1 : V4.cell? ⟨gR, 1, none⟩ = some (.slice e0.A e0.n e0.c) := by
    have p4 := xr4.own.cellAt 1 (by omega)
    have p5 := flat_at csG_len es 0 e0 1 he0 (by decide)
    rw [Nat.zero_mul, Nat.zero_add] at p5
    rw [p5] at p4
    exact p4
  have ff := xr4.own.frozenAt 0
  have ff1 := xr4.own.frozenAt 1
  obtain ⟨V5, hV5⟩ : ∃ V5, V5 = (V4.setCell ⟨gR, 0, none⟩ (.int .i64 4)).setCell ⟨gR, 1, none⟩ (.slice (some ⟨V3.heap.size, 0, none⟩) 1 1) := ⟨_, rfl⟩
  have hg : V4.grownBy V5 (some gR) := by rw [hV5]; exact (grown_one V4 gR 0 _).trans (grown_one _ gR 1 _)
  have hM5 : RM (fun _ => True) V5 ⟨A1, nt1, ct1, some ⟨gR, 0, none⟩, 2, cr1, S1, 1, cs1⟩ nR1 := by
    have x5 := xr4.set2 0 ⟨4, [2], some ⟨V3.heap.size, 0, none⟩, 1, 1⟩ (by decide) r4 (fun _ ad hA e2 => by injection hA with hA; subst hA; simp only [Value.ownBlock, Option.some.injEq] at e2; omega)
    rw [show 0 * 2 = 0 from rfl, show 0 + 1 = 1 from rfl, ← hV5] at x5
    have y5 := xo_kept xl4 hg (fun e => by
      rcases own_types xl4.own xr4.own (by decide) with h | h
      · rw [h] at e; cases e
      · exact h e) (fun e he hne => by
      have : elL e ∈ ls.map elL := List.mem_map.2 ⟨e, he, rfl⟩
      rw [hel] at this
      have h2 : elL e = [] := by
        simp [nR0] at this
        exact this
      exact absurd h2 hne)
    obtain ⟨z1, _⟩ := own_slice csG_len (by decide) x5
    obtain ⟨z2, _⟩ := own_slice csL_len (by decide) y5
    refine ⟨hm4.tlen, hm4.tmax, hm4.fit, fun i z hi => ?_, fun _ _ _ => trivial, ⟨_, z1, by rw [map_set_elG, her]; rfl, fun _ _ _ => trivial, fun _ _ _ _ _ => trivial⟩, ⟨ls, z2, hel.symm, fun _ _ _ => trivial, fun _ _ _ _ _ => trivial⟩, hm4.on, hm4.size⟩
    obtain ⟨b, off, e, hb, hc, hd⟩ := hm4.tree i z hi
    refine ⟨b, off, e, Nat.lt_of_lt_of_le hb hg.size, ?_, ?_⟩
    · rw [hV5]
      refine (World.cell?_setCell_other _ _ _ _ (fun e9 => by rw [← e9, hcg1] at hc; cases hc)).trans ?_
      refine (World.cell?_setCell_other _ _ _ _ (fun e9 => ?_)).trans hc
      injection e9 with e1 e2
      rw [← e1, ← e2, Nat.zero_add, hcg1] at hd
      cases hd
    · rw [hV5]
      refine (World.cell?_setCell_other _ _ _ _ (fun e9 => by rw [← e9, hcg1] at hd; cases hd)).trans ?_
      exact (World.cell?_setCell_other _ _ _ _ (fun e9 => by injection e9 with e1 e2; omega)).trans hd
  have hB5 : Below w.heap.size w V5 := by
    have h1 := (held_trans (held_trans B1.out hb2) h24)
    have := B1.out.size
    exact h1.grown hg h1.size (fun k hk => by injection hk with hk; omega)
  have Y5 : B5 V5 w2.heap.size (.slice A1 nt1 ct1) (.int .i64 4) (.slice (some ⟨gR, 0, none⟩) 2 cr1) (.slice S1 1 cs1) (.int .u64 3) := by rw [hV5]; exact (Y4.far (by simp only; omega)).far (by simp only; omega)
  have hba := plugUnplug_any _ nR1 0 7 V5 (hM5.bound.mono (G := fun b => b < V5.heap.size) (fun b hb => hb.2)) (fun b hb => hb) n_low ⟨by decide, by decide⟩ ⟨by decide, by decide⟩ (HT.out.step hB5)
  rw [n_gone] at hba
  unfold jv at hba
  simp only at hba
  have BA := Lib.hid hba
  have t3 := hY.c2
  have t0 := Y5.c0
  have t1 := Y5.c1
  have t2 := Y5.c2
  have t5 := Y5.c3
  have t4 := Y5.c4
  have HB5 := Lib.hid hB5
  have Y4c := Y4.c2
  have S3 := Lib.hid s3
  unfold jv
  simp only [show nR0.size = 4 from rfl, show ((nR0.on : Nat) : Int) = 3 from rfl, show nR1.size = 4 from rfl, show ((nR1.on : Nat) : Int) = 3 from rfl] at BA ⊢
  have E5 := Lib.hid hV5
  clear hown xr xl her hel hns hnr hgR1 hgR2 hbn hY hV3 hbn2 r4 hV4 h24 xl4 xr4 hm4 hM5 hB5 hba hm2 hb2 hV5 s3 Y5 Y4 NW B1 hg he0 hl
  have hcg2 := hcg
  have hcg3 := hcg1
  have ff2 := ff
  have ff3 := ff1
  have t32 := Y4c
  rw [E4.out] at hcg2 hcg3 ff2 ff3 t32
  go_upto_region 6 with (rw [← E3.out])
  rw [← E4.out, ← E5.out]
  clear E3 E4 E5 t3 Y4c ff ff1 hcg hcg1 hcg2 hcg3 ff2 ff3 t32
  go_wp2_with fail
  refine BA.out.mono ?_
  rintro e w6 ⟨⟨A6, nt6, ct6, R6, nr6, cr6, S6, ns6, cs6⟩, rfl, hm6, hb6⟩
  obtain ⟨b1, o1, P1, n1, c1, hS1, _, d0, hr1⟩ := hm6.rowAt (i := 0) (x := [7, 4, 2]) rfl
  obtain ⟨b2, o2, P2, n2, c2, hS2, _, f0, f1, hr2⟩ := hm6.ringAt (i := 0) (x := (0, [])) rfl
  have hns6 := hm6.ns
  simp only at hS1 hS2 hns6
  obtain rfl : 1 = ns6 := hns6.1
  have hnr6 := hm6.nr
  simp only at hnr6
  obtain rfl : 2 = nr6 := hnr6.1
  subst hS1 hS2
  obtain rfl : 3 = n1 := hr1.len
  obtain rfl : 0 = n2 := hr2.len
  rw [Nat.add_zero] at d0
  rw [Nat.zero_mul, Nat.add_zero] at f0 f1
  have hb7 := below_new w6 (.cells #[.slice A6 nt6 ct6, .int .i64 nR2.size, .slice (some ⟨b2, o2, none⟩) 2 cr6, .slice (some ⟨b1, o1, none⟩) 1 cs6, .int .u64 (nR2.on : Nat)] 33)
  have hY7 := B5.new w6 (.slice A6 nt6 ct6) (.int .i64 nR2.size) (.slice (some ⟨b2, o2, none⟩) 2 cr6) (.slice (some ⟨b1, o1, none⟩) 1 cs6) (.int .u64 (nR2.on : Nat)) 33
  obtain ⟨V7, hV7⟩ : ∃ V, V = w6.alloc (.cells #[.slice A6 nt6 ct6, .int .i64 nR2.size, .slice (some ⟨b2, o2, none⟩) 2 cr6, .slice (some ⟨b1, o1, none⟩) 1 cs6, .int .u64 (nR2.on : Nat)] 33) := ⟨_, rfl⟩
  rw [← hV7] at hb7 hY7
  have E7 := Lib.hid hV7
  have HRW := Lib.hid (hr1.below hb7)
  have HRG := Lib.hid (hr2.below hb7)
  have hbl := below_new V7 (.cells #[.int .i64 7, .int .i64 4, .int .i64 2] 3)
  have r8 := row_lit V7 [7, 4, 2] (by simp)
  rw [show (.cells ([7, 4, 2].map (Value.int .i64)).toArray 3 : Obj) = .cells #[.int .i64 7, .int .i64 4, .int .i64 2] 3 from rfl] at r8
  have IN := Lib.hid (ints_rowN P1 (some ⟨V7.heap.size, 0, none⟩) 3 3 c1 3 [7, 4, 2] [7, 4, 2] (V7.alloc (.cells #[.int .i64 7, .int .i64 4, .int .i64 2] 3)) rfl (HRW.out.below hbl) r8)
  have BE := Lib.hid (held_trans (held_trans (held_trans HB5.out hb6) hb7) hbl)
  have k0 := keepcell hb7 d0
  have k1 := keepcell hb7 f0
  have k2 := keepcell hb7 f1
  have k3 := hY7.c3
  have HK := Lib.hid (show ∀ W, Below V7.heap.size V7 W → W.cell? ⟨w6.heap.size, 2, none⟩ = some (.slice (some ⟨b2, o2, none⟩) 2 cr6) ∧ W.cell? ⟨w6.heap.size, 4, none⟩ = some (.int .u64 (nR2.on : Nat)) ∧ W.cell? ⟨b2, o2, none⟩ = some (.int .i64 0) ∧ W.cell? ⟨b2, o2 + 1, none⟩ = some (.slice P2 0 c2) from fun W hW => ⟨keepcell hW hY7.c2, keepcell hW hY7.c4, keepcell hW k1, keepcell hW k2⟩)
  have HBL := Lib.hid hbl
  unfold jv
  simp only
  clear hV7 hb7 hY7 hb6 hm6 hr1 hr2 d0 f0 f1 t0 t1 t2 t4 t5 BA hns6 hnr6 HB5 r8 hbl k1 k2
  go_wp2_with (rw [← E7.out])
  clear E7
  refine IN.out.mono ?_
  rintro e w8 ⟨rfl, hb8⟩
  have H8 := Lib.hid (HBL.out.trans (hb8.mono HBL.out.size))
  have B8 := Lib.hid (held_trans BE.out hb8)
  obtain ⟨m2, m4, m5, m6⟩ := HK.out _ H8.out
  have HS := Lib.hid (has_any 2 0 w8 (by decide))
  clear IN BE hb8 k0 k3 HBL
  go_wp2_with fail
  refine HS.out.mono ?_
  rintro e w9 ⟨rfl, hb9⟩
  have H9 := Lib.hid (H8.out.trans (hb9.mono H8.out.size))
  have B9 := Lib.hid (held_trans B8.out hb9)
  obtain ⟨m2, m4, m5, m6⟩ := HK.out _ H9.out
  have AL := Lib.hid (all_any 0 P2 0 c2 [] w9 (HRG.out.below H9.out) (by omega))
  rw [show Zp.has 2 0 = false from by decide]
  clear H8 B8 HS hb9
  go_wp2_with fail
  refine AL.out.mono ?_
  rintro e w10 ⟨Aq, nq, cq, rfl, hrq, _, hb10⟩
  obtain rfl : 0 = nq := hrq.len
  have BF := Lib.hid (held_trans B9.out hb10)
  clear hrq hb10 AL m2 m4 m5 m6
  go_wp2_with fail
  go_ret
  exact ⟨rfl, BF.out⟩
end Go.Proofs.YtcoccegmkcdeiaaDoor

