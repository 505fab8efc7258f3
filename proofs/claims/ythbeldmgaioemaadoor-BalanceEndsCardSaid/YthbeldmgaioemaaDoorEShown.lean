/- The document's example of layer 19, at the head of all statements. -/
import Derived.Test.YthbeldmgaioemaaDoorEBal
import Derived.Test.YthbeldmgaioemaaDoorJNewL
import Derived.Test.YthbeldmgaioemaaDoorM6
import Derived.Test.YthbeldmgaioemaaDoorM4
import Derived.Test.YthbeldmgaioemaaDoorM5
namespace Go.Proofs.YthbeldmgaioemaaDoor
open Go.RowKit
set_option linter.unusedVariables false

def exE : List (Int × Int) := [(-1, 0), (0, 1), (1, 2), (2, 3), (0, 1), (4, 2), (5, 3)]
def eR0 : Jp.Rn := ⟨exE, 4, [(0, []), (0, [])], [[], []], 3⟩
def eR1 : Jp.Rn := ⟨exE, 4, [(0, []), (0, [])], [[1, 2, 3, 4, 5], []], 3⟩
def eR2 : Jp.Rn := ⟨exE, 4, [(0, []), (0, [])], [[1, 2, 3], [4, 5]], 3⟩
theorem e_parse : Tx.parse [109, 40, 110, 40, 99, 40, 112, 41, 41, 110, 40, 99, 40, 112, 41, 41, 41] = (exE, 0, 0) := by decide
theorem e_new : Jp.new exE 4 = (eR0, 0) := by
  unfold Jp.new
  rw [if_neg (by decide), if_neg (by decide)]
  rfl
theorem e_may : Jp.May eR1 := by
  refine ⟨by decide, by decide, by decide, by decide, by decide, by decide, by decide, fun p x hx => ?_, by decide⟩
  match p, hx with
  | 0, hx => simp [eR1] at hx; subst hx; exact ⟨by decide, .inl rfl⟩
  | 1, hx => simp [eR1] at hx; subst hx; exact ⟨by decide, .inl rfl⟩
theorem e_low : Low eR1 := by
  have fit : ∀ l : List Int, (∀ z ∈ l, 0 ≤ z ∧ z ≤ 9) → ∀ z ∈ l, In64 z := fun l h z hz => by have := h z hz; unfold In64; omega
  exact ⟨by decide, by decide, by decide, by decide, by decide, fit _ (by decide)⟩
theorem e_bal : Jp.bal eR1 = (eR2, 2) := by
  rw [Jp.bal_may e_may, Jp.balOn_is]
  rfl
set_option maxRecDepth 100000 in
set_option maxHeartbeats 2000000 in
theorem eshown_any (w : World) (hT : Tab w) : Calls Tryd.prog 9 #[] w fun e w' => e = .returned (.bool true) ∧ Below w.heap.size w w' := by
  have HT := Lib.hid hT
  have hpa := parse_anyL3 ⟨#[109, 40, 110, 40, 99, 40, 112, 41, 41, 110, 40, 99, 40, 112, 41, 41, 41]⟩ w (by decide)
  rw [show (ByteArray.mk #[109, 40, 110, 40, 99, 40, 112, 41, 41, 110, 40, 99, 40, 112, 41, 41, 41]).data.toList = [109, 40, 110, 40, 99, 40, 112, 41, 41, 110, 40, 99, 40, 112, 41, 41, 41] from rfl, e_parse] at hpa
  have PA := Lib.hid hpa
  clear hpa hT
  go_enter Tryd.func9, Tryd.ntmps9
  go_wp2_with fail
  refine PA.out.mono ?_
  rintro e w1 ⟨A, c, rfl, hv, hb1⟩
  have B1 := Lib.hid hb1
  have hlt := tree_lt hv (by decide)
  have NW := Lib.hid (runsNew_own (F := fun b => b < w1.heap.size) A 7 c exE 4 w1 (Lib.hid rfl) (by decide) (Lib.hid (by intro x hx; simp [exE] at hx; rcases hx with rfl | rfl | rfl | rfl | rfl | rfl | rfl <;> exact ⟨⟨by decide, by decide⟩, ⟨by decide, by decide⟩⟩)) hv (fun _ ad e => hlt ad e) (fun b hb => hb) ⟨by decide, by decide⟩ (HT.out.step hb1))
  rw [e_new] at NW
  rw [show exE.length = 7 from rfl]
  clear hv hb1 hlt PA
  go_wp2_with fail
  refine NW.out.mono ?_
  rintro e w2 ⟨⟨A1, nt1, ct1, R1, nr1, cr1, S1, ns1, cs1⟩, rfl, hm2, hb2, hown⟩
  obtain ⟨es, ls, xr, her, xl, hel⟩ := hown rfl
  have hns := hm2.ns
  have hnr := hm2.nr
  simp only at hns hnr xr xl
  obtain rfl : 2 = ns1 := hns.1
  obtain rfl : 2 = nr1 := hnr.1
  obtain ⟨gS, cap, eS, hgS1, hgS2, _, _⟩ := xl.form (by decide)
  injection eS with eS1 _ eS2
  subst eS1 eS2
  have hbn := below_new w2 (.cells #[.slice A1 nt1 ct1, .int .i64 4, .slice R1 2 cr1, .slice (some ⟨gS, 0, none⟩) 2 cs1, .int .u64 3] 33)
  have hY := B5.new w2 (.slice A1 nt1 ct1) (.int .i64 4) (.slice R1 2 cr1) (.slice (some ⟨gS, 0, none⟩) 2 cs1) (.int .u64 3) 33
  obtain ⟨V3, hV3⟩ : ∃ V3, V3 = w2.alloc (.cells #[.slice A1 nt1 ct1, .int .i64 4, .slice R1 2 cr1, .slice (some ⟨gS, 0, none⟩) 2 cs1, .int .u64 3] 33) := ⟨_, rfl⟩
  have s3 : V3.heap.size = w2.heap.size + 1 := by rw [hV3]; simp
  rw [← hV3] at hbn hY
  have E3 := Lib.hid hV3
  have hbn2 := below_new V3 (.cells #[.int .i64 1, .int .i64 2, .int .i64 3, .int .i64 4, .int .i64 5] 3)
  have r4 := row_lit V3 [1, 2, 3, 4, 5] (by simp)
  rw [show (.cells ([1, 2, 3, 4, 5].map (Value.int .i64)).toArray 3 : Obj) = .cells #[.int .i64 1, .int .i64 2, .int .i64 3, .int .i64 4, .int .i64 5] 3 from rfl] at r4
  obtain ⟨V4, hV4⟩ : ∃ V4, V4 = V3.alloc (.cells #[.int .i64 1, .int .i64 2, .int .i64 3, .int .i64 4, .int .i64 5] 3) := ⟨_, rfl⟩
  rw [← hV4] at hbn2 r4
  have E4 := Lib.hid hV4
  have h24 := hbn.trans (hbn2.mono hbn.size)
  have xl4 := xl.step h24
  have xr4 := xr.step h24
  have hm4 := hm2.below h24
  have Y4 := hY.step hbn2
  obtain ⟨Ag, ng, cgg, hcg⟩ : ∃ A n c, V4.cell? ⟨gS, 0, none⟩ = some (.slice A n c) := by
    have hl : ls.length = 2 := xl.len csL_len (by decide)
    obtain ⟨e0, he0⟩ : ∃ e, ls[0]? = some e := ⟨_, List.getElem?_eq_getElem (by omega)⟩
    have p4 := xl4.own.cellAt 0 (by omega)
    have p5 := flat_at csL_len ls 0 e0 0 he0 (by decide)
    rw [Nat.zero_mul, Nat.zero_add] at p5
    rw [p5] at p4
    exact ⟨e0.A, e0.n, e0.c, p4⟩
  have ff := xl4.own.frozenAt 0
  obtain ⟨V5, hV5⟩ : ∃ V5, V5 = V4.setCell ⟨gS, 0, none⟩ (.slice (some ⟨V3.heap.size, 0, none⟩) 5 5) := ⟨_, rfl⟩
  have hM5 : RM (fun _ => True) V5 ⟨A1, nt1, ct1, R1, 2, cr1, some ⟨gS, 0, none⟩, 2, cs1⟩ eR1 := by
    have x5 := xl4.set1 0 ⟨0, [1, 2, 3, 4, 5], some ⟨V3.heap.size, 0, none⟩, 5, 5⟩ (by decide) r4 (fun _ ad hA e2 => by injection hA with hA; subst hA; simp only [Value.ownBlock, Option.some.injEq] at e2; omega)
    rw [← hV5] at x5
    have hg := grown_one V4 gS 0 (.slice (some ⟨V3.heap.size, 0, none⟩) 5 5)
    rw [← hV5] at hg
    have y5 := xo_kept xr4 hg (fun e => by
      rcases own_types xr4.own xl4.own (by decide) with h | h
      · rw [h] at e; cases e
      · exact h e) (fun e he hne => by
      have : elG e ∈ es.map elG := List.mem_map.2 ⟨e, he, rfl⟩
      rw [her] at this
      have h2 : (elG e).2 = [] := by
        simp [eR0] at this
        rw [this]
      exact absurd h2 hne)
    obtain ⟨z1, _⟩ := own_slice csG_len (by decide) y5
    obtain ⟨z2, _⟩ := own_slice csL_len (by decide) x5
    refine ⟨hm4.tlen, hm4.tmax, hm4.fit, fun i z hi => ?_, fun _ _ _ => trivial, ⟨es, z1, her.symm, fun _ _ _ => trivial, fun _ _ _ _ _ => trivial⟩, ⟨_, z2, by rw [map_set_elL, hel]; rfl, fun _ _ _ => trivial, fun _ _ _ _ _ => trivial⟩, hm4.on, hm4.size⟩
    obtain ⟨b, off, e, hb, hc, hd⟩ := hm4.tree i z hi
    refine ⟨b, off, e, Nat.lt_of_lt_of_le hb hg.size, ?_, ?_⟩
    · rw [hV5]
      exact (World.cell?_setCell_other _ _ _ _ (fun e => by rw [← e, hcg] at hc; cases hc)).trans hc
    · rw [hV5]
      exact (World.cell?_setCell_other _ _ _ _ (fun e => by rw [← e, hcg] at hd; cases hd)).trans hd
  have hB5 : Below w.heap.size w V5 := by
    rw [hV5]
    have h1 := (held_trans (held_trans B1.out hb2) h24)
    have := B1.out.size
    exact h1.setCell (by simp only; omega) _
  have Y5 : B5 V5 w2.heap.size (.slice A1 nt1 ct1) (.int .i64 4) (.slice R1 2 cr1) (.slice (some ⟨gS, 0, none⟩) 2 cs1) (.int .u64 3) := by rw [hV5]; exact Y4.far (by simp only; omega)
  have hba := balBalance_any _ eR1 V5 (hM5.bound.mono (G := fun b => b < V5.heap.size) (fun b hb => hb.2)) (fun b hb => hb) e_low (HT.out.step hB5)
  rw [e_bal] at hba
  unfold jv at hba
  simp only at hba
  have BA := Lib.hid hba
  have t3 := hY.c3
  have t0 := Y5.c0
  have t1 := Y5.c1
  have t2 := Y5.c2
  have t5 := Y5.c3
  have t4 := Y5.c4
  have HB5 := Lib.hid hB5
  have Y4c := Y4.c3
  have S3 := Lib.hid s3
  unfold jv
  simp only [show eR0.size = 4 from rfl, show ((eR0.on : Nat) : Int) = 3 from rfl, show eR1.size = 4 from rfl, show ((eR1.on : Nat) : Int) = 3 from rfl] at BA ⊢
  have E5 := Lib.hid hV5
  clear hown xr xl her hel hns hnr hgS1 hgS2 hbn hY hV3 hbn2 r4 hV4 h24 xl4 xr4 hm4 hM5 hB5 hba hm2 hb2 hV5 s3 Y5 Y4 NW B1
  have hcg2 := hcg
  have ff2 := ff
  have t32 := Y4c
  rw [E4.out] at hcg2 ff2 t32
  go_upto_region 6 with (rw [← E3.out])
  rw [← E4.out, ← E5.out]
  clear E3 E4 E5 t3 Y4c ff hcg hcg2 ff2 t32
  go_wp2_with fail
  refine BA.out.mono ?_
  rintro e w6 ⟨⟨A6, nt6, ct6, R6, nr6, cr6, S6, ns6, cs6⟩, rfl, hm6, hb6⟩
  obtain ⟨b1, o1, P1, n1, c1, hS1, _, d0, hr1⟩ := hm6.rowAt (i := 0) (x := [1, 2, 3]) rfl
  obtain ⟨b2, o2, P2, n2, c2, hS2, _, d1, hr2⟩ := hm6.rowAt (i := 1) (x := [4, 5]) rfl
  have hns6 := hm6.ns
  simp only at hS1 hS2 hns6
  obtain rfl : 2 = ns6 := hns6.1
  subst hS1
  injection hS2 with hS2
  injection hS2 with e1 e2 _
  subst e1 e2
  obtain rfl : 3 = n1 := hr1.len
  obtain rfl : 2 = n2 := hr2.len
  obtain ⟨bq, oq, rfl, _, hq⟩ := hr2.cells (by decide)
  have g0 := hq 0 4 rfl
  rw [Nat.add_zero] at g0 d0
  have hb7 := below_new w6 (.cells #[.slice A6 nt6 ct6, .int .i64 eR2.size, .slice R6 nr6 cr6, .slice (some ⟨b1, o1, none⟩) 2 cs6, .int .u64 (eR2.on : Nat)] 33)
  have hY7 := B5.new w6 (.slice A6 nt6 ct6) (.int .i64 eR2.size) (.slice R6 nr6 cr6) (.slice (some ⟨b1, o1, none⟩) 2 cs6) (.int .u64 (eR2.on : Nat)) 33
  obtain ⟨V7, hV7⟩ : ∃ V, V = w6.alloc (.cells #[.slice A6 nt6 ct6, .int .i64 eR2.size, .slice R6 nr6 cr6, .slice (some ⟨b1, o1, none⟩) 2 cs6, .int .u64 (eR2.on : Nat)] 33) := ⟨_, rfl⟩
  rw [← hV7] at hb7 hY7
  have E7 := Lib.hid hV7
  have k0 := keepcell hb7 d0
  have k1 := keepcell hb7 d1
  have k2 := keepcell hb7 g0
  have k3 := hY7.c3
  have BE := Lib.hid (held_trans (held_trans HB5.out hb6) hb7)
  unfold jv
  simp only
  clear hV7 hb7 hY7 hb6 hm6 hr1 hr2 hq d0 d1 g0 t0 t1 t2 t4 t5 BA hns6 HB5
  go_wp2_with (rw [← E7.out])
  go_ret
  exact ⟨rfl, BE.out⟩
end Go.Proofs.YthbeldmgaioemaaDoor

