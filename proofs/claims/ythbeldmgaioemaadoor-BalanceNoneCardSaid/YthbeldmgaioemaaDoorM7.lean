/- Contracts and plain mathematics, put together by program (wip/merge.py) out of: JRefAll JRowed YPlain EPlain EEnds EWay. -/
import Derived.Test.YthbeldmgaioemaaDoorM6
import Derived.Test.YthbeldmgaioemaaDoorM1
/- The document's All, by its contract: who stands in the rings, and then in the rows. -/
namespace Go.Proofs.YthbeldmgaioemaaDoor
open Go.RowKit
set_option linter.unusedVariables false

set_option maxHeartbeats 1000000 in
theorem jrefAll_any {F : Nat → Prop} (d : Ad) (r : Jp.Rn) (w : World) (h : RM F w d r) (hlow : Low r) :
    Calls Tryd.prog 22 #[jv d r] w (MadeR w (Jp.all r)) := by
  obtain ⟨T, nt, ct, R, nr, cr, S, ns, cs⟩ := d
  have H := Lib.hid h
  have HL := Lib.hid hlow
  obtain ⟨hr1, hr2, hr3⟩ := h.nr
  obtain ⟨hs1, hs2, hs3⟩ := h.ns
  have hr4 := hlow.rings
  have hs4 := hlow.rows
  simp only at hr1 hr2 hr3 hs1 hs2 hs3
  clear h hlow
  obtain ⟨V, hV, hX, hB⟩ := B5.start w (.slice T nt ct) (.int .i64 r.size) (.slice R nr cr) (.slice S ns cs) (.int .u64 (r.on : Nat)) 27
  have E := Lib.hid hV
  have X0 := Lib.hid hX
  have B0 := Lib.hid hB
  clear hV hX hB
  unfold jv
  go_enter Tryd.func22, Tryd.ntmps22
  go_wp2_with fail
  rw [← E.out]
  clear E
  go_loopw [3, 4] (fun u i wr => ∃ k : Nat, k ≤ nr ∧ i = .int .i64 k ∧ Hid (wr.ownsRow V.heap.size 3 1 u (ringsTo r k).length ((ringsTo r k).map (Value.int .i64))) ∧ Hid (Below V.heap.size V wr)) (fun _ i _ => nr - (intOf i).toNat)
  case atStart => exact ⟨0, Nat.zero_le _, rfl, Lib.hid (World.ownsRow_nil _ _ _ _), Lib.hid (Below.refl _ _)⟩
  case round =>
    obtain ⟨k, hk, rfl, HO, HB⟩ := hrel
    have hB1 := B0.out.trans (HB.out.mono B0.out.size)
    have HM := Lib.hid (H.out.below hB1)
    have B1 := Lib.hid hB1
    have X1 := X0.out.step HB.out
    have d2 := X1.c2
    have d3 := X1.c3
    clear X1 hB1
    obtain ⟨u0, v0, rfl, _⟩ := Row.of_own HO.out
    by_cases hlt : k < nr
    · obtain ⟨x, hx⟩ : ∃ x, r.rings[k]? = some x := ⟨_, List.getElem?_eq_getElem (by omega)⟩
      obtain ⟨b, off, A, n, c, hR, _, c0, c1, hrow⟩ := HM.out.ringAt hx
      simp only at hR
      subst hR
      have hn : n ≤ 400 := by rw [← hrow.len]; exact HL.out.ring x (List.mem_of_getElem? hx)
      have HC := Lib.hid (refAll_any x.1 A n c x.2 wr hrow (by omega))
      have HT := Lib.hid (ringsTo_succ hx)
      have HLE := Lib.hid (ringsTo_le HL.out k)
      have hxl := Rp.all_length x
      have HXL := Lib.hid (show (Rp.all x).length ≤ 401 by rw [hrow.len] at hxl; omega)
      have i0 : (0 : Int) ≤ (k : Int) := by omega
      have i1 : (k : Int) < (nr : Int) := by omega
      clear hx hrow hxl hr1 hs1 HM
      go_wp2_with fail
      refine HC.out.mono ?_
      rintro e w2 ⟨A2, n2, c2, rfl, hr2, hb2⟩
      have R2 := Lib.hid (show Row w2 A2 n2 c2 (Rp.all x) from hr2)
      have HN := Lib.hid (show (Rp.all x).length = n2 from hr2.len)
      have O2 := Lib.hid (own_below HO.out hb2)
      have B2 := Lib.hid (B1.out.trans (hb2.mono B1.out.size))
      have HB2 := Lib.hid (HB.out.trans (hb2.mono HB.out.size))
      clear hr2 hb2 HC c0 c1 d2 d3
      go_wp2_with (at_builtin; refine wpList_append_row rfl _ _ rfl V.heap.size _ _ _ rfl O2.out A2 n2 c2 _ rfl R2.out (by have := HLE.out; have := HXL.out; have := HN.out; omega) HB2.out.size ?_; intro v' w3 hown hg)
      have O3 := Lib.hid (show w3.ownsRow V.heap.size 3 1 v' (ringsTo r (k + 1)).length ((ringsTo r (k + 1)).map (Value.int .i64)) by rw [HT.out, List.length_append, HN.out]; exact hown)
      have B3 := Lib.hid (HB2.out.grown hg HB2.out.size (fun j hj => (O2.out.lt j hj).1))
      clear hown hg R2
      go_wp2_with fail
      go_roundw
      case rel => exact ⟨k + 1, by omega, by go_num, O3, B3⟩
      case measure => simp [intOf]; omega
    · obtain rfl : k = nr := by omega
      have HRA := Lib.hid (show ringsTo r k = rowsTo r 0 by rw [rowsTo_zero, hr1])
      obtain ⟨wo, rfl⟩ : ∃ wo : World, wo = wr := ⟨_, rfl⟩
      go_wp2_with fail
      clear d2 d3
      go_loopw [3, 5] (fun u i wr => ∃ j : Nat, j ≤ ns ∧ i = .int .i64 j ∧ Hid (wr.ownsRow V.heap.size 3 1 u (rowsTo r j).length ((rowsTo r j).map (Value.int .i64))) ∧ Hid (Below V.heap.size V wr)) (fun _ i _ => ns - (intOf i).toNat)
      case atStart => exact ⟨0, Nat.zero_le _, rfl, by rw [← HRA.out]; exact HO, HB⟩
      case round =>
        clear HO HB B1 HM
        obtain ⟨j, hj, rfl, HO, HB⟩ := hrel
        have hB1 := B0.out.trans (HB.out.mono B0.out.size)
        have HM := Lib.hid (H.out.below hB1)
        have B1 := Lib.hid hB1
        have X1 := X0.out.step HB.out
        have d2 := X1.c2
        have d3 := X1.c3
        clear X1 hB1
        obtain ⟨u1, v1, rfl, _⟩ := Row.of_own HO.out
        by_cases hlj : j < ns
        · obtain ⟨x, hx⟩ : ∃ x, r.rows[j]? = some x := ⟨_, List.getElem?_eq_getElem (by omega)⟩
          obtain ⟨b, off, A, n, c, hR, _, c0, hrow⟩ := HM.out.rowAt hx
          simp only at hR
          subst hR
          have hn : n ≤ 400 := by rw [← hrow.len]; exact HL.out.row x (List.mem_of_getElem? hx)
          have HT := Lib.hid (rowsTo_succ hx)
          have HLE := Lib.hid (rowsTo_le HL.out j)
          have R2 := Lib.hid hrow
          have HN := Lib.hid hrow.len
          have i0 : (0 : Int) ≤ (j : Int) := by omega
          have i1 : (j : Int) < (ns : Int) := by omega
          clear hx hrow hr1 hs1 HM
          go_wp2_with (at_builtin; refine wpList_append_row rfl _ _ rfl V.heap.size _ _ _ rfl HO.out A n c _ rfl R2.out (by have := HLE.out; omega) HB.out.size ?_; intro v' w3 hown hg)
          have O3 := Lib.hid (show w3.ownsRow V.heap.size 3 1 v' (rowsTo r (j + 1)).length ((rowsTo r (j + 1)).map (Value.int .i64)) by rw [HT.out, List.length_append, HN.out]; exact hown)
          have B3 := Lib.hid (HB.out.grown hg HB.out.size (fun j hj => (HO.out.lt j hj).1))
          clear hown hg R2 c0 d2 d3
          go_wp2_with fail
          go_roundw
          case rel => exact ⟨j + 1, by omega, by go_num, O3, B3⟩
          case measure => simp [intOf]; omega
        · obtain rfl : j = ns := by omega
          have hO := HO.out
          rw [← hs1, rowsTo_all] at hO
          obtain ⟨A3, c3, e3, hr3, hf3⟩ := Row.of_own' hO
          injection e3 with e31 e32 e33
          subst e31 e33
          have HM2 := Lib.hid (show MadeR w (Jp.all r) (.returned (.slice u1 (rowsTo r j).length v1)) wr from ⟨u1, _, v1, by rw [← hs1, rowsTo_all], hr3, hf3.mono B0.out.size, B1.out⟩)
          go_wp2_with fail
          go_ret
          exact HM2.out
end Go.Proofs.YthbeldmgaioemaaDoor


/- The document's Behind, Rowed, Ringed, by their contracts. -/
namespace Go.Proofs.YthbeldmgaioemaaDoor
open Go.RowKit
set_option linter.unusedVariables false

set_option maxRecDepth 100000 in
theorem jbehind_any (A B : Option Addr) (n c m e : Nat) (l k : List Int) (w : World) (h : Row w A n c l) (hk : Row w B m e k) (hb : n + m ≤ 100000) :
    Calls Tryd.prog 26 #[.slice A n c, .slice B m e] w (MadeR w (l ++ k)) := by
  have H := Lib.hid h
  have K0 := Lib.hid hk
  have B1 := Lib.hid (below_new w (.cells #[] 3))
  have O1 := Lib.hid (own_no w w.heap.size 3 1 (Nat.le_refl _))
  clear h hk
  go_enter Tryd.func26, Tryd.ntmps26
  go_wp2_with (at_builtin; refine wpList_append_row rfl _ _ rfl w.heap.size (.slice (some ⟨w.heap.size, 0, none⟩) 0 0) 0 [] rfl O1.out A n c l rfl (H.out.below B1.out) (by omega) B1.out.size ?_)
  intro v' w3 hown hg
  have B3 := Lib.hid (B1.out.grown hg B1.out.size (fun k hk => (O1.out.lt k hk).1))
  obtain ⟨A3, c3, rfl, _⟩ := Row.of_own hown
  have O3 := Lib.hid hown
  clear hown hg
  go_wp2_with (at_builtin; refine wpList_append_row rfl _ _ rfl w.heap.size (.slice A3 n c3) n l rfl O3.out B m e k rfl (K0.out.below B3.out) (by omega) B3.out.size ?_)
  intro v4 w4 hown hg
  have B4 := Lib.hid (B3.out.grown hg B3.out.size (fun k hk => (O3.out.lt k hk).1))
  rw [← List.map_append] at hown
  obtain ⟨A5, c5, rfl, hr5, hf5⟩ := Row.of_own' hown
  have HM := Lib.hid (show MadeR w (l ++ k) (.returned (.slice A5 (n + m) c5)) w4 from ⟨A5, _, c5, rfl, hr5, hf5, B4.out⟩)
  clear hown hg hr5 hf5
  go_wp2_with fail
  go_ret
  exact HM.out
/-- A box, a result's place, a variable that holds what is in the box, and an empty slice. -/
theorem boxes4 (w : World) (p0 p1 p2 p3 p4 z0 z1 z2 z3 z4 : Value) (T U : TypeId) : ∃ V, V = (((w.alloc (.cells #[p0, p1, p2, p3, p4] T)).alloc (.cells #[z0, z1, z2, z3, z4] T)).alloc (.cells #[p0, p1, p2, p3, p4] T)).alloc (.cells #[] U) ∧
    B5 V w.heap.size p0 p1 p2 p3 p4 ∧ C5 V (w.heap.size + 1) z0 z1 z2 z3 z4 ∧ C5 V (w.heap.size + 1 + 1) p0 p1 p2 p3 p4 ∧ Below w.heap.size w V ∧ w.heap.size + 1 + 1 + 1 < V.heap.size ∧
    ∀ sz, V.ownsRow (w.heap.size + 1 + 1 + 1) U sz (.slice (some ⟨w.heap.size + 1 + 1 + 1, 0, none⟩) 0 0) 0 [] := by
  have a1 := (B5.new w p0 p1 p2 p3 p4 T)
  have a2 := C5.new (w.alloc (.cells #[p0, p1, p2, p3, p4] T)) z0 z1 z2 z3 z4 T
  have a3 := C5.new ((w.alloc (.cells #[p0, p1, p2, p3, p4] T)).alloc (.cells #[z0, z1, z2, z3, z4] T)) p0 p1 p2 p3 p4 T
  have a4 := fun sz => own_no (((w.alloc (.cells #[p0, p1, p2, p3, p4] T)).alloc (.cells #[z0, z1, z2, z3, z4] T)).alloc (.cells #[p0, p1, p2, p3, p4] T)) (w.heap.size + 1 + 1 + 1) U sz (by simp)
  have s1 : (w.alloc (.cells #[p0, p1, p2, p3, p4] T)).heap.size = w.heap.size + 1 := by simp
  have s2 : ((w.alloc (.cells #[p0, p1, p2, p3, p4] T)).alloc (.cells #[z0, z1, z2, z3, z4] T)).heap.size = w.heap.size + 1 + 1 := by simp
  have s3 : (((w.alloc (.cells #[p0, p1, p2, p3, p4] T)).alloc (.cells #[z0, z1, z2, z3, z4] T)).alloc (.cells #[p0, p1, p2, p3, p4] T)).heap.size = w.heap.size + 1 + 1 + 1 := by simp
  rw [s1] at a2
  rw [s2] at a3
  rw [s3] at a4
  refine ⟨_, rfl, ((a1.step (below_new _ _)).step (below_new _ _)).step (below_new _ _), (a2.step (below_new _ _)).step (below_new _ _), a3.step (below_new _ _), ((((Below.refl _ w).alloc (Nat.le_refl _) _).alloc (by simp) _).alloc (by simp; omega) _).alloc (by simp; omega) _, by simp, a4⟩
set_option maxRecDepth 100000 in
set_option maxHeartbeats 1000000 in
theorem jrowed_any {F : Nat → Prop} (d : Ad) (r : Jp.Rn) (n : Nat) (l : List Int) (A : Option Addr) (m c : Nat) (w : World) (h : RM F w d r) (hn : n < d.ns) (hs : d.ns ≤ 1000) (hr : Row w A m c l) (hA : l ≠ [] → ∀ ad, A = some ad → F ad.block) :
    Calls Tryd.prog 27 #[jv d r, .int .i64 n, .slice A m c] w (TellJ F w (Jp.rowed r n l)) := by
  obtain ⟨T, nt, ct, R, nr, cr, S, ns, cs⟩ := d
  simp only at hn hs
  obtain ⟨ls, hx, hls, hlie⟩ := h.rows
  simp only at hx
  obtain ⟨b0, o0, rfl, _, _⟩ := hx.cells (by omega)
  have H := Lib.hid h
  have HX := Lib.hid hx
  have HR := Lib.hid hr
  have HLS := Lib.hid hls
  have HLI := Lib.hid hlie
  have HAF := Lib.hid hA
  clear h hx hr hls hlie hA
  obtain ⟨V, hV, b1, b2, b3, hB, hsz, hown⟩ := boxes4 w (.slice T nt ct) (.int .i64 r.size) (.slice R nr cr) (.slice (some ⟨b0, o0, none⟩) ns cs) (.int .u64 (r.on : Nat)) (.slice none 0 0) (.int .i64 0) (.slice none 0 0) (.slice none 0 0) (.int .u64 0) 27 44
  have E := Lib.hid hV
  have X1 := Lib.hid b1
  have Z1 := Lib.hid b2
  have O1 := Lib.hid b3
  have B1 := Lib.hid hB
  have W1 := Lib.hid (show XO csL 1 44 (w.heap.size + 1 + 1 + 1) V (.slice (some ⟨w.heap.size + 1 + 1 + 1, 0, none⟩) 0 0) 0 [] from ⟨hown 1, fun e he => by simp at he, fun e he => by simp at he⟩)
  have HSZ := Lib.hid hsz
  clear hV b1 b2 b3 hB hown hsz
  unfold jv
  go_enter Tryd.func27, Tryd.ntmps27
  go_wp2_with (at_builtin; rw [← E.out]; refine wpList_append_rows rfl _ _ rfl (w.heap.size + 1 + 1 + 1) _ 0 [] W1.out rfl ⟨b0, o0, none⟩ ns cs ls rfl HX.out.len ((HX.out.below B1.out).flat csL_len (by decide)) (HX.out.below B1.out).rows (fun e he hne ad hA e2 => ?ap) (by omega) (by omega) (by have := HSZ.out; omega) ?_)
  case ap =>
    have := row_block (HX.out.rows e he) hne hA
    simp only [Value.ownBlock, Option.some.injEq] at e2
    omega
  intro g cap w' hx hg
  have hgs := hx.own.lt g rfl
  have Z2 := Z1.out.grown hg (by simp [Value.ownBlock])
  have O2 := O1.out.grown hg (by simp [Value.ownBlock])
  have B2 := B1.out.grown hg B1.out.size (fun k hk => by simp [Value.ownBlock] at hk; omega)
  have hlen := HX.out.len
  have hrb : ∀ e ∈ ls, e.l ≠ [] → ∀ ad, e.A = some ad → ad.block ≠ w.heap.size + 1 + 1 := fun e he hne ad hA => by
    have := row_block (HX.out.rows e he) hne hA
    omega
  have p3 := O2.b5.c3
  have q3 := O2.f3
  have O3 := O2.set3 (.slice (some ⟨g, 0, none⟩) ns cap)
  have Z3 := Z2.far (p := ⟨w.heap.size + 1 + 1, 3, none⟩) (u := .slice (some ⟨g, 0, none⟩) ns cap) (by simp only; omega)
  have K3 := hx.far (X := w.heap.size + 1 + 1) (j := 3) (u := .slice (some ⟨g, 0, none⟩) ns cap) (by omega) hrb
  have B3 := B2.setCell (p := ⟨w.heap.size + 1 + 1, 3, none⟩) (by simp only; omega) (.slice (some ⟨g, 0, none⟩) ns cap)
  have HR3 := HR.out.below B3
  have hra : Apart (.slice (some ⟨g, 0, none⟩) ns cap) ⟨0, l, A, m, c⟩ := fun hne ad hA e2 => by
    have := row_block HR.out hne hA
    simp only [Value.ownBlock, Option.some.injEq] at e2
    omega
  have K4 := K3.set1 n ⟨0, l, A, m, c⟩ hn HR3 hra
  obtain ⟨e0, he0⟩ : ∃ e, ls[n]? = some e := ⟨_, List.getElem?_eq_getElem (by omega)⟩
  have p4 := K3.own.cellAt n (by omega)
  have p5 := flat_at csL_len ls n e0 0 he0 (by decide)
  rw [Nat.mul_one, Nat.add_zero] at p5
  rw [p5] at p4
  have q4 := K3.own.frozenAt n
  have O4 := O3.far (p := ⟨g, n, none⟩) (u := .slice A m c) (by simp only; omega)
  have Z4 := Z3.far (p := ⟨g, n, none⟩) (u := .slice A m c) (by simp only; omega)
  have B4 := B3.setCell (p := ⟨g, n, none⟩) (by simp only; omega) (.slice A m c)
  have p40 : ((w'.setCell ⟨w.heap.size + 1 + 1, 3, none⟩ (.slice (some ⟨g, 0, none⟩) ns cap)).cell? ⟨g, n, none⟩) = some (.slice e0.A e0.n e0.c) := p4
  have P := O3.b5.c3
  clear p4 p5
  obtain ⟨W4, hW4⟩ : ∃ W4, W4 = (w'.setCell ⟨w.heap.size + 1 + 1, 3, none⟩ (.slice (some ⟨g, 0, none⟩) ns cap)).setCell ⟨g, n, none⟩ (.slice A m c) := ⟨_, rfl⟩
  rw [← hW4] at K4 O4 Z4 B4
  have E4 := Lib.hid hW4
  have i0 : (0 : Int) ≤ (n : Int) := by omega
  have i1 : (n : Int) < (ns : Int) := by omega
  have KH := Lib.hid K4
  have ZH := Lib.hid Z4
  have BH := Lib.hid B4
  have GH := Lib.hid hgs
  have t0 := O4.b5.c0
  have t1 := O4.b5.c1
  have t2 := O4.b5.c2
  have t3 := O4.b5.c3
  have t4 := O4.b5.c4
  have y0 := Z4.b5.c0
  have y1 := Z4.b5.c1
  have y2 := Z4.b5.c2
  have y3 := Z4.b5.c3
  have y4 := Z4.b5.c4
  have g0 := Z4.f0
  have g1 := Z4.f1
  have g2 := Z4.f2
  have g3 := Z4.f3
  have g4 := Z4.f4
  clear hW4 hx hg Z2 O2 B2 O3 Z3 K3 B3 HR3 hra O4 Z4 B4 K4 X1 Z1 O1 W1 HSZ hrb hgs
  go_wp2_with (rw [← E4.out])
  have hgs := GH.out
  have hrb2 : ∀ e ∈ ls.set n ⟨0, l, A, m, c⟩, e.l ≠ [] → ∀ ad, e.A = some ad → ad.block ≠ w.heap.size + 1 := fun e he hne ad hA => by
    have : ad.block < w.heap.size := by
      rcases List.mem_or_eq_of_mem_set he with h' | rfl
      · exact row_block (HX.out.rows e h') hne hA
      · exact row_block HR.out hne hA
    omega
  have hg1 : g ≠ w.heap.size + 1 := by omega
  have K5 := ((((KH.out.far (j := 0) (u := .slice T nt ct) hg1 hrb2).far (j := 1) (u := .int .i64 r.size) hg1 hrb2).far (j := 2) (u := .slice R nr cr) hg1 hrb2).far (j := 3) (u := .slice (some ⟨g, 0, none⟩) ns cap) hg1 hrb2).far (j := 4) (u := .int .u64 (r.on : Nat)) hg1 hrb2
  obtain ⟨A5, c5, e5, hx5, _⟩ := K5.xr csL_len (by decide)
  injection e5 with e51 _ e52
  subst e51 e52
  have C9 := ZH.out.put (.slice T nt ct) (.int .i64 r.size) (.slice R nr cr) (.slice (some ⟨g, 0, none⟩) ns cap) (.int .u64 (r.on : Nat))
  have B9 := (((((BH.out.setCell (p := ⟨w.heap.size + 1, 0, none⟩) (by simp) (.slice T nt ct)).setCell (p := ⟨w.heap.size + 1, 1, none⟩) (by simp) (.int .i64 r.size)).setCell (p := ⟨w.heap.size + 1, 2, none⟩) (by simp) (.slice R nr cr)).setCell (p := ⟨w.heap.size + 1, 3, none⟩) (by simp) (.slice (some ⟨g, 0, none⟩) ns cap)).setCell (p := ⟨w.heap.size + 1, 4, none⟩) (by simp) (.int .u64 (r.on : Nat)))
  have HB := (H.out.below B9).mono (G := More F w) More.in
  have HL9 : LieE (More F w) (some ⟨g, 0, none⟩) (ls.set n ⟨0, l, A, m, c⟩) := by
    refine ⟨fun _ ad e => ?_, fun e he hne ad hA => ?_⟩
    · injection e with e
      subst e
      exact .inr (by simp only; omega)
    · rcases List.mem_or_eq_of_mem_set he with h' | rfl
      · exact .inl (HLI.out.2 e h' hne ad hA)
      · exact .inl (HAF.out hne ad hA)
  have HF := TellJ.is (F := F) (w0 := w) (d := ⟨T, nt, ct, R, nr, cr, some ⟨g, 0, none⟩, ns, cap⟩) (r := Jp.rowed r n l) ⟨HB.tlen, HB.tmax, HB.fit, HB.tree, HB.lie, HB.rings, ⟨ls.set n ⟨0, l, A, m, c⟩, hx5, by
    unfold Jp.rowed
    simp only
    rw [HLS.out, List.map_set]
    rfl, HL9⟩, HB.on, HB.size⟩ B9
  have k0 := C9.b5.c0
  have k1 := C9.b5.c1
  have k2 := C9.b5.c2
  have k3 := C9.b5.c3
  have k4 := C9.b5.c4
  unfold put5 at k0 k1 k2 k3 k4
  refine bodyPost_ret ?_ rfl HF
  simp [results, Tryd.results27, go_sem, k0, k1, k2, k3, k4, jv, Jp.rowed]
end Go.Proofs.YthbeldmgaioemaaDoor


/- Who runs next on a processor, of its own: in plain mathematics. -/
namespace Go.Proofs.YthbeldmgaioemaaDoor.Jp
set_option linter.unusedVariables false

/-- Of a processor that is plugged, of Runs that may be. -/
def locOn (r : Rn) (p : Nat) (tick : Int) : Rn × Int × Int :=
  if rowAt r (nodeOf r p) ≠ [] ∧ (tick.tmod 61 = 0 ∨ ((ringAt r p).1 = 0 ∧ (ringAt r p).2 = [])) then (rowed r (nodeOf r p) (rowAt r (nodeOf r p)).tail, (rowAt r (nodeOf r p)).headD 0, 3)
  else if (ringAt r p).1 ≠ 0 then (ringed r p (0, (ringAt r p).2), (ringAt r p).1, 1)
  else if (ringAt r p).2 ≠ [] then (ringed r p (0, (ringAt r p).2.tail), (ringAt r p).2.headD 0, 2)
  else (r, 0, 0)
open Classical in
noncomputable def loc (r : Rn) (p tick : Int) : Rn × Int × Int := if ¬ May r ∨ onP r p = false then (r, 0, 0) else locOn r p.toNat tick
theorem loc_no {r : Rn} {p tick : Int} (h : ¬ May r ∨ onP r p = false) : loc r p tick = (r, 0, 0) := by unfold loc; rw [if_pos h]
theorem loc_on {r : Rn} {p : Nat} {tick : Int} (h : May r) (ho : onP r p = true) : loc r p tick = locOn r p tick := by
  unfold loc
  rw [if_neg (by rw [ho]; simp [h])]
  rfl
theorem onP_lt {r : Rn} (h : May r) {p : Int} (ho : onP r p = true) : ∃ k : Nat, p = k ∧ k < r.rings.length := by
  have hm := has_iff.1 ho
  have h1 := Zp.mem_in hm
  have h2 := h.few p hm
  exact ⟨p.toNat, by omega, by omega⟩
/-- How a processor finds. -/
inductive Way (r : Rn) (p : Nat) (tick : Int) : Rn → Int → Int → Prop
  | row (g : Int) (t : List Int) (hl : r.rows[nodeOf r p]? = some (g :: t)) (hc : tick.tmod 61 = 0 ∨ ringAt r p = (0, [])) : Way r p tick (rowed r (nodeOf r p) t) g 3
  | next (g : Int) (t : List Int) (hx : r.rings[p]? = some (g, t)) (hg : g ≠ 0) (hc : rowAt r (nodeOf r p) = [] ∨ tick.tmod 61 ≠ 0) : Way r p tick (ringed r p (0, t)) g 1
  | ring (g : Int) (t : List Int) (hx : r.rings[p]? = some (0, g :: t)) (hc : rowAt r (nodeOf r p) = [] ∨ tick.tmod 61 ≠ 0) : Way r p tick (ringed r p (0, t)) g 2
  | none (hx : r.rings[p]? = some (0, [])) (hl : r.rows[nodeOf r p]? = some []) : Way r p tick r 0 0
theorem way {r : Rn} (h : May r) {p : Nat} (hp : p < r.rings.length) (tick : Int) : Way r p tick (locOn r p tick).1 (locOn r p tick).2.1 (locOn r p tick).2.2 := by
  obtain ⟨⟨x, l⟩, hx⟩ : ∃ x, r.rings[p]? = some x := ⟨_, List.getElem?_eq_getElem hp⟩
  obtain ⟨row, hl⟩ : ∃ l, r.rows[nodeOf r p]? = some l := ⟨_, List.getElem?_eq_getElem (node_lt h hp)⟩
  have ex := ringAt_some hx
  have el := rowAt_some hl
  unfold locOn
  by_cases h1 : rowAt r (nodeOf r p) ≠ [] ∧ (tick.tmod 61 = 0 ∨ ((ringAt r p).1 = 0 ∧ (ringAt r p).2 = []))
  · rw [if_pos h1]
    obtain ⟨g, t, e⟩ := List.exists_cons_of_ne_nil h1.1
    rw [e]
    refine .row g t (by rw [hl, ← e, el]) ?_
    rcases h1.2 with h2 | h2
    · exact .inl h2
    · exact .inr (Prod.ext h2.1 h2.2)
  · rw [if_neg h1]
    have hc : (ringAt r p ≠ (0, [])) → rowAt r (nodeOf r p) = [] ∨ tick.tmod 61 ≠ 0 := fun hne => by
      by_cases h2 : rowAt r (nodeOf r p) = []
      · exact .inl h2
      · exact .inr (fun h3 => h1 ⟨h2, .inl h3⟩)
    by_cases h2 : (ringAt r p).1 ≠ 0
    · rw [if_pos h2]
      have e : ringAt r p = ((ringAt r p).1, (ringAt r p).2) := rfl
      exact .next _ _ (by rw [hx, ← ex]) h2 (hc (fun h3 => h2 (by rw [h3])))
    · rw [if_neg h2]
      have h2 := Classical.not_not.1 h2
      by_cases h3 : (ringAt r p).2 ≠ []
      · rw [if_pos h3]
        obtain ⟨g, t, e⟩ := List.exists_cons_of_ne_nil h3
        rw [e]
        refine .ring g t ?_ (hc (fun h4 => h3 (by rw [h4])))
        rw [hx, ← ex, ← e, ← h2]
      · rw [if_neg h3]
        have h3 := Classical.not_not.1 h3
        refine .none ?_ ?_
        · rw [hx, ← ex, ← h2, ← h3]
        · by_cases h4 : rowAt r (nodeOf r p) = []
          · rw [hl, ← el, h4]
          · exact absurd ⟨h4, .inr ⟨h2, h3⟩⟩ h1
theorem all_zero' (t : List Int) : Rp.all (0, t) = t := rfl
theorem all_next {g : Int} (hg : g ≠ 0) (t : List Int) : Rp.all (g, t) = g :: t := by unfold Rp.all; rw [if_neg hg]
theorem count_rowed {r : Rn} {n : Nat} {l t : List Int} (hl : r.rows[n]? = some l) (z : Int) : (all (rowed r n t)).count z + l.count z = (all r).count z + t.count z := by
  have := count_set hl t z
  unfold all rowed
  simp only [List.count_append] at this ⊢
  omega
theorem count_ringed {r : Rn} {p : Nat} {x y : Int × List Int} (hx : r.rings[p]? = some x) (z : Int) : (all (ringed r p y)).count z + (Rp.all x).count z = (all r).count z + (Rp.all y).count z := by
  have := count_set (l := r.rings.map Rp.all) (k := p) (a := Rp.all x) (by rw [List.getElem?_map, hx]; rfl) (Rp.all y) z
  unfold all ringed
  simp only [map_set', List.count_append] at this ⊢
  omega
/-- Nothing is lost. -/
theorem Way.perm {r r' : Rn} {p : Nat} {tick g k : Int} (h : Way r p tick r' g k) (hg : g ≠ 0) : (g :: all r').Perm (all r) := by
  rw [List.perm_iff_count]
  intro z
  cases h with
  | row g t hl hc =>
    have := count_rowed (t := t) hl z
    simp only [List.count_cons] at this ⊢
    omega
  | next g t hx hg' hc =>
    have := count_ringed (y := (0, t)) hx z
    rw [all_next hg', all_zero'] at this
    simp only [List.count_cons] at this ⊢
    omega
  | ring g t hx hc =>
    have := count_ringed (y := (0, t)) hx z
    rw [all_zero', all_zero'] at this
    simp only [List.count_cons] at this ⊢
    omega
  | none => exact absurd rfl hg
theorem Way.tree {r r' : Rn} {p : Nat} {tick g k : Int} (h : Way r p tick r' g k) : r'.tree = r.tree ∧ r'.size = r.size ∧ r'.on = r.on ∧ r'.rings.length = r.rings.length ∧ r'.rows.length = r.rows.length := by
  cases h <;> simp [rowed, ringed]
/-- Who is told is above 0, but for nobody. -/
theorem Way.pos {r r' : Rn} {p : Nat} {tick g k : Int} (h : Way r p tick r' g k) (hm : May r) : (g = 0 ∧ k = 0 ∧ r' = r ∧ r.rings[p]? = some (0, []) ∧ r.rows[nodeOf r p]? = some []) ∨ (1 ≤ g ∧ k ≠ 0) := by
  have pos : ∀ z ∈ all r, 1 ≤ z := hm.once.1
  cases h with
  | row g t hl hc => exact .inr ⟨pos g (mem_all.2 (.inr ⟨_, List.mem_of_getElem? hl, List.mem_cons_self ..⟩)), by decide⟩
  | next g t hx hg hc => exact .inr ⟨pos g (mem_all.2 (.inl ⟨_, List.mem_of_getElem? hx, by rw [all_next hg]; exact List.mem_cons_self ..⟩)), by decide⟩
  | ring g t hx hc => exact .inr ⟨pos g (mem_all.2 (.inl ⟨_, List.mem_of_getElem? hx, by rw [all_zero']; exact List.mem_cons_self ..⟩)), by decide⟩
  | none hx hl => exact .inl ⟨rfl, rfl, rfl, hx, hl⟩
theorem once_tail {r r' : Rn} {g : Int} (h : Rp.Once (all r)) (hp : (g :: all r').Perm (all r)) : Rp.Once (all r') := by
  have h1 := h.perm hp.symm
  exact ⟨fun x hx => h1.1 x (List.mem_cons_of_mem _ hx), (List.nodup_cons.1 h1.2).2⟩
/-- What may be stays so. -/
theorem Way.may {r r' : Rn} {p : Nat} {tick g k : Int} (h : Way r p tick r' g k) (hm : May r) (ho : onP r p = true) : May r' := by
  rcases h.pos hm with ⟨_, _, e, _⟩ | ⟨h1, _⟩
  · rw [e]; exact hm
  have honce := once_tail hm.once (h.perm (by omega))
  obtain ⟨e1, e2, e3, e4, e5⟩ := h.tree
  refine ⟨by rw [e1]; exact hm.tree, by rw [e2]; exact hm.low, by rw [e2]; exact hm.high, by rw [e4, e1]; exact hm.rings, by rw [e5, e1]; exact hm.rows, by rw [e3]; exact hm.some, by rw [e3, e4]; exact hm.few, fun q y hy => ?_, honce⟩
  have hon : ∀ q, onP r' q = onP r q := fun q => by unfold onP; rw [e3]
  rw [e2, hon]
  have hyo := ring_once honce (List.mem_of_getElem? hy)
  have same : r'.rings = r.rings → Rp.may y r.size = true ∧ (Rp.all y = [] ∨ onP r q = true) := fun e => hm.ring q y (by rw [← e]; exact hy)
  have turned : ∀ x t, r.rings[p]? = some x → r'.rings = r.rings.set p (0, t) → t.length ≤ x.2.length → Rp.may y r.size = true ∧ (Rp.all y = [] ∨ onP r q = true) := fun x t hx e hl => by
    rw [e] at hy
    by_cases hq : p = q
    · subst hq
      rw [List.getElem?_set_self (by exact (List.getElem?_eq_some_iff.1 hx).1)] at hy
      injection hy with hy
      subst hy
      have := may_size hm.low (hm.ring p x hx).1
      exact ⟨may_of hm.low (by simp only; omega) hyo, .inr ho⟩
    · rw [List.getElem?_set_ne hq] at hy
      exact hm.ring q y hy
  cases h with
  | row g t hl hc => exact same rfl
  | next g t hx hg hc => exact turned _ t hx rfl (Nat.le_refl _)
  | ring g t hx hc => exact turned _ t hx rfl (by simp)
  | none => exact same rfl
/-- Who stands in one place stands in no other. -/
theorem once_ring {r : Rn} (h : Rp.Once (all r)) {p q : Nat} {x y : Int × List Int} (hx : r.rings[p]? = some x) (hy : r.rings[q]? = some y) {g : Int} (h1 : g ∈ Rp.all x) (h2 : g ∈ Rp.all y) : p = q := by
  by_cases e : p = q
  · exact e
  · exfalso
    have hc := count_ringed (y := (0, [])) hx g
    have hy' : (ringed r p (0, [])).rings[q]? = some y := by
      show (r.rings.set p (0, []))[q]? = _
      rw [List.getElem?_set_ne e]; exact hy
    have m1 : 0 < (Rp.all x).count g := List.count_pos_iff.2 h1
    have m2 : 0 < (all (ringed r p (0, []))).count g := List.count_pos_iff.2 (mem_all.2 (.inl ⟨y, List.mem_of_getElem? hy', h2⟩))
    have m3 : (all r).count g ≤ 1 := List.nodup_iff_count.1 h.2 g
    have m4 : (Rp.all (0, ([] : List Int))).count g = 0 := rfl
    omega
theorem once_row {r : Rn} (h : Rp.Once (all r)) {p q : Nat} {x y : List Int} (hx : r.rows[p]? = some x) (hy : r.rows[q]? = some y) {g : Int} (h1 : g ∈ x) (h2 : g ∈ y) : p = q := by
  by_cases e : p = q
  · exact e
  · exfalso
    have hc := count_rowed (t := []) hx g
    have hy' : (rowed r p []).rows[q]? = some y := by
      show (r.rows.set p [])[q]? = _
      rw [List.getElem?_set_ne e]; exact hy
    have m1 : 0 < x.count g := List.count_pos_iff.2 h1
    have m2 : 0 < (all (rowed r p [])).count g := List.count_pos_iff.2 (mem_all.2 (.inr ⟨y, List.mem_of_getElem? hy', h2⟩))
    have m3 : (all r).count g ≤ 1 := List.nodup_iff_count.1 h.2 g
    have m4 : ([] : List Int).count g = 0 := rfl
    omega
theorem once_both {r : Rn} (h : Rp.Once (all r)) {p q : Nat} {x : Int × List Int} {y : List Int} (hx : r.rings[p]? = some x) (hy : r.rows[q]? = some y) {g : Int} (h1 : g ∈ Rp.all x) (h2 : g ∈ y) : False := by
  have hc := count_rowed (t := []) hy g
  have m1 : 0 < y.count g := List.count_pos_iff.2 h2
  have m2 : 0 < (all (rowed r q [])).count g := List.count_pos_iff.2 (mem_all.2 (.inl ⟨x, List.mem_of_getElem? hx, h1⟩))
  have m3 : (all r).count g ≤ 1 := List.nodup_iff_count.1 h.2 g
  have m4 : ([] : List Int).count g = 0 := rfl
  omega
/-- Where who is told stood. -/
theorem Way.stood {r r' : Rn} {p : Nat} {tick g k : Int} (h : Way r p tick r' g k) (hm : May r) (hg : g ≠ 0) : (k = 3 ∧ whr r g = (-1, (nodeOf r p : Int))) ∨ (k ≠ 3 ∧ whr r g = ((p : Int), -1)) := by
  cases h with
  | row g t hl hc =>
    refine .inl ⟨rfl, whr_row ?_ hl (has_iff.2 (List.mem_cons_self ..)) ?_⟩
    · intro y hy
      obtain ⟨q, hq⟩ := List.mem_iff_getElem?.1 hy
      exact has_no.2 (fun h' => once_both hm.once hq hl h' (List.mem_cons_self ..))
    · intro j hj y hy
      exact has_no.2 (fun h' => by have := once_row hm.once hl hy (List.mem_cons_self ..) h'; omega)
  | next g t hx hg' hc =>
    have hin : g ∈ Rp.all (g, t) := by rw [all_next hg']; exact List.mem_cons_self ..
    exact .inr ⟨by decide, whr_ring hx (has_iff.2 hin) (fun j hj y hy => has_no.2 (fun h' => by have := once_ring hm.once hx hy hin h'; omega))⟩
  | ring g t hx hc =>
    have hin : g ∈ Rp.all (0, g :: t) := List.mem_cons_self ..
    exact .inr ⟨by decide, whr_ring hx (has_iff.2 hin) (fun j hj y hy => has_no.2 (fun h' => by have := once_ring hm.once hx hy hin h'; omega))⟩
  | none => exact absurd rfl hg
/-- Whom a processor finds, in turn. -/
def order (r : Rn) (p : Nat) (tick : Int) : List Int := if tick.tmod 61 = 0 then rowAt r (nodeOf r p) ++ Rp.all (ringAt r p) else Rp.all (ringAt r p) ++ rowAt r (nodeOf r p)
theorem Way.order {r r' : Rn} {p : Nat} {tick g k : Int} (h : Way r p tick r' g k) (hm : May r) (hp : p < r.rings.length) : g = (order r p tick).headD 0 ∧ Jp.order r' p tick = (Jp.order r p tick).tail := by
  have hn := node_lt hm hp
  cases h with
  | row g t hl hc =>
    have e1 : rowAt r (nodeOf r p) = g :: t := rowAt_some hl
    have e2 : rowAt (rowed r (nodeOf r p) t) (nodeOf (rowed r (nodeOf r p) t) p) = t := rowAt_some (by show (r.rows.set (nodeOf r p) t)[nodeOf r p]? = _; rw [List.getElem?_set_self hn])
    have e3 : ringAt (rowed r (nodeOf r p) t) p = ringAt r p := rfl
    unfold Jp.order
    rw [e1, e2, e3]
    by_cases ht : tick.tmod 61 = 0
    · rw [if_pos ht, if_pos ht]
      exact ⟨rfl, rfl⟩
    · rw [if_neg ht, if_neg ht]
      rcases hc with hc | hc
      · exact absurd hc ht
      · rw [hc]
        exact ⟨rfl, rfl⟩
  | next g t hx hg hc =>
    have e1 : ringAt r p = (g, t) := ringAt_some hx
    have e2 : ringAt (ringed r p (0, t)) p = (0, t) := ringAt_some (by show (r.rings.set p (0, t))[p]? = _; rw [List.getElem?_set_self hp])
    have e3 : rowAt (ringed r p (0, t)) (nodeOf (ringed r p (0, t)) p) = rowAt r (nodeOf r p) := rfl
    unfold Jp.order
    rw [e1, e2, e3, all_next hg, all_zero']
    by_cases ht : tick.tmod 61 = 0
    · rw [if_pos ht, if_pos ht]
      rcases hc with hc | hc
      · rw [hc]; exact ⟨rfl, rfl⟩
      · exact absurd ht hc
    · rw [if_neg ht, if_neg ht]
      exact ⟨rfl, rfl⟩
  | ring g t hx hc =>
    have e1 : ringAt r p = (0, g :: t) := ringAt_some hx
    have e2 : ringAt (ringed r p (0, t)) p = (0, t) := ringAt_some (by show (r.rings.set p (0, t))[p]? = _; rw [List.getElem?_set_self hp])
    have e3 : rowAt (ringed r p (0, t)) (nodeOf (ringed r p (0, t)) p) = rowAt r (nodeOf r p) := rfl
    unfold Jp.order
    rw [e1, e2, e3, all_zero', all_zero']
    by_cases ht : tick.tmod 61 = 0
    · rw [if_pos ht, if_pos ht]
      rcases hc with hc | hc
      · rw [hc]; exact ⟨rfl, rfl⟩
      · exact absurd ht hc
    · rw [if_neg ht, if_neg ht]
      exact ⟨rfl, rfl⟩
  | none hx hl =>
    have e1 : ringAt r p = (0, []) := ringAt_some hx
    have e2 : rowAt r (nodeOf r p) = [] := rowAt_some hl
    unfold Jp.order
    rw [e1, e2]
    split <;> exact ⟨rfl, rfl⟩
/-- All else stays. -/
theorem Way.others {r r' : Rn} {p : Nat} {tick g k : Int} (h : Way r p tick r' g k) : (∀ q, q ≠ p → r'.rings[q]? = r.rings[q]?) ∧ ∀ m, m ≠ nodeOf r p → r'.rows[m]? = r.rows[m]? := by
  cases h with
  | row g t hl hc => exact ⟨fun q _ => rfl, fun m hm => List.getElem?_set_ne (fun e => hm e.symm)⟩
  | next g t hx hg hc => exact ⟨fun q hq => List.getElem?_set_ne (fun e => hq e.symm), fun m _ => rfl⟩
  | ring g t hx hc => exact ⟨fun q hq => List.getElem?_set_ne (fun e => hq e.symm), fun m _ => rfl⟩
  | none => exact ⟨fun q _ => rfl, fun m _ => rfl⟩
section
variable {r : Rn} {k m : Nat} {tick x : Int} {l t : List Int}
theorem locOn_row (hn : nodeOf r k = m) (hl : rowAt r m = l) (hx : ringAt r k = (x, t)) (h1 : l ≠ []) (h2 : tick.tmod 61 = 0 ∨ (x = 0 ∧ t = [])) : locOn r k tick = (rowed r m l.tail, l.headD 0, 3) := by
  unfold locOn
  rw [hn, hl, hx, if_pos ⟨h1, h2⟩]
theorem locOn_next (hn : nodeOf r k = m) (hl : rowAt r m = l) (hx : ringAt r k = (x, t)) (h : ¬ (l ≠ [] ∧ (tick.tmod 61 = 0 ∨ (x = 0 ∧ t = [])))) (h1 : x ≠ 0) : locOn r k tick = (ringed r k (0, t), x, 1) := by
  unfold locOn
  rw [hn, hl, hx, if_neg h, if_pos h1]
theorem locOn_ring (hn : nodeOf r k = m) (hl : rowAt r m = l) (hx : ringAt r k = (x, t)) (h : ¬ (l ≠ [] ∧ (tick.tmod 61 = 0 ∨ (x = 0 ∧ t = [])))) (h1 : x = 0) (h2 : t ≠ []) : locOn r k tick = (ringed r k (0, t.tail), t.headD 0, 2) := by
  unfold locOn
  rw [hn, hl, hx, if_neg h, if_neg (by simp [h1]), if_pos h2]
theorem locOn_none (hn : nodeOf r k = m) (hl : rowAt r m = l) (hx : ringAt r k = (x, t)) (h : ¬ (l ≠ [] ∧ (tick.tmod 61 = 0 ∨ (x = 0 ∧ t = [])))) (h1 : x = 0) (h2 : t = []) : locOn r k tick = (r, 0, 0) := by
  unfold locOn
  rw [hn, hl, hx, if_neg h, if_neg (by simp [h1]), if_neg (by simp [h2])]
end
end Go.Proofs.YthbeldmgaioemaaDoor.Jp


/- Rows made alike: in plain mathematics. -/
namespace Go.Proofs.YthbeldmgaioemaaDoor.Jp
set_option linter.unusedVariables false

def rlen (rows : List (List Int)) (n : Nat) : Nat := (rows[n]?.getD []).length
/-- The first longest, the first shortest, of the first ones. -/
def longTo (rows : List (List Int)) : Nat → Nat
  | 0 => 0
  | k + 1 => if rlen rows (longTo rows k) < rlen rows (k + 1) then k + 1 else longTo rows k
def shortTo (rows : List (List Int)) : Nat → Nat
  | 0 => 0
  | k + 1 => if rlen rows (k + 1) < rlen rows (shortTo rows k) then k + 1 else shortTo rows k
def long (rows : List (List Int)) : Nat := longTo rows (rows.length - 1)
def short (rows : List (List Int)) : Nat := shortTo rows (rows.length - 1)
def ends (r : Rn) : Int × Int := if r.rows.length = 0 then (-1, -1) else ((long r.rows : Nat), (short r.rows : Nat))
/-- How many are moved. -/
def moved (rows : List (List Int)) : Nat := (rlen rows (long rows) - rlen rows (short rows)) / 2
/-- The rows then. -/
def even (rows : List (List Int)) : List (List Int) :=
  (rows.set (long rows) ((rows[long rows]?.getD []).take (rlen rows (long rows) - moved rows))).set (short rows) ((rows[short rows]?.getD []) ++ (rows[long rows]?.getD []).drop (rlen rows (long rows) - moved rows))
def balOn (r : Rn) : Rn × Int := if moved r.rows = 0 then (r, 0) else ({ r with rows := even r.rows }, (moved r.rows : Nat))
open Classical in
noncomputable def bal (r : Rn) : Rn × Int := if May r then balOn r else (r, 0)
theorem bal_no {r : Rn} (h : ¬ May r) : bal r = (r, 0) := by unfold bal; rw [if_neg h]
theorem bal_may {r : Rn} (h : May r) : bal r = balOn r := by unfold bal; rw [if_pos h]

theorem longTo_le (rows : List (List Int)) : ∀ k, longTo rows k ≤ k
  | 0 => Nat.le_refl _
  | k + 1 => by unfold longTo; have := longTo_le rows k; split <;> omega
theorem shortTo_le (rows : List (List Int)) : ∀ k, shortTo rows k ≤ k
  | 0 => Nat.le_refl _
  | k + 1 => by unfold shortTo; have := shortTo_le rows k; split <;> omega
theorem longTo_max (rows : List (List Int)) : ∀ k i, i ≤ k → rlen rows i ≤ rlen rows (longTo rows k)
  | 0, i, h => by obtain rfl : i = 0 := by omega
                  exact Nat.le_refl _
  | k + 1, i, h => by
    unfold longTo
    have ih := longTo_max rows k
    by_cases e : i = k + 1
    · subst e; split <;> omega
    · have := ih i (by omega)
      split <;> omega
theorem shortTo_min (rows : List (List Int)) : ∀ k i, i ≤ k → rlen rows (shortTo rows k) ≤ rlen rows i
  | 0, i, h => by obtain rfl : i = 0 := by omega
                  exact Nat.le_refl _
  | k + 1, i, h => by
    unfold shortTo
    have ih := shortTo_min rows k
    by_cases e : i = k + 1
    · subst e; split <;> omega
    · have := ih i (by omega)
      split <;> omega
theorem long_lt {rows : List (List Int)} (h : rows ≠ []) : long rows < rows.length := by
  have := longTo_le rows (rows.length - 1)
  have := List.length_pos_iff.2 h
  unfold long
  omega
theorem short_lt {rows : List (List Int)} (h : rows ≠ []) : short rows < rows.length := by
  have := shortTo_le rows (rows.length - 1)
  have := List.length_pos_iff.2 h
  unfold short
  omega
theorem long_max {rows : List (List Int)} {i : Nat} (h : i < rows.length) : rlen rows i ≤ rlen rows (long rows) := longTo_max rows _ i (by omega)
theorem short_min {rows : List (List Int)} {i : Nat} (h : i < rows.length) : rlen rows (short rows) ≤ rlen rows i := shortTo_min rows _ i (by omega)
theorem moved_ne {rows : List (List Int)} (h : moved rows ≠ 0) : long rows ≠ short rows ∧ rlen rows (short rows) + 2 * moved rows ≤ rlen rows (long rows) ∧ rlen rows (long rows) ≤ rlen rows (short rows) + 2 * moved rows + 1 := by
  unfold moved at h ⊢
  refine ⟨fun e => ?_, by omega, by omega⟩
  rw [e] at h
  omega
theorem row_at {rows : List (List Int)} {i : Nat} (h : i < rows.length) : rows[i]? = some (rows[i]?.getD []) := by rw [List.getElem?_eq_getElem h]; rfl
theorem moved_none {rows : List (List Int)} (h : rows.length ≤ 1) : moved rows = 0 := by
  have h1 := longTo_le rows (rows.length - 1)
  have h2 := shortTo_le rows (rows.length - 1)
  have : long rows = short rows := by unfold long short; omega
  unfold moved
  rw [this]
  omega
/-- Nobody is moved: rows differ by one at most. -/
theorem moved_zero {rows : List (List Int)} (h : moved rows = 0) {i j : Nat} (hi : i < rows.length) (hj : j < rows.length) : rlen rows i ≤ rlen rows j + 1 := by
  have h1 := long_max hi
  have h2 := short_min hj
  unfold moved at h
  omega
/-- It need not be asked whether nobody is moved. -/
theorem even_zero {rows : List (List Int)} (h : moved rows = 0) : even rows = rows := by
  unfold even
  rw [h, Nat.sub_zero, List.take_of_length_le (by unfold rlen; exact Nat.le_refl _), List.drop_of_length_le (by unfold rlen; exact Nat.le_refl _), List.append_nil]
  have same : ∀ n, rows.set n (rows[n]?.getD []) = rows := fun n => by
    apply List.ext_getElem? 
    intro j
    rw [List.getElem?_set]
    split
    · rename_i e
      subst e
      split
      · rename_i h; rw [List.getElem?_eq_getElem h]; rfl
      · rename_i h; rw [List.getElem?_eq_none (by omega)]
    · rfl
  rw [same, same]
theorem balOn_is (r : Rn) : balOn r = ({ r with rows := even r.rows }, ((moved r.rows : Nat) : Int)) := by
  unfold balOn
  by_cases h : moved r.rows = 0
  · rw [if_pos h, even_zero h, h]; rfl
  · rw [if_neg h]
theorem even_length (rows : List (List Int)) : (even rows).length = rows.length := by unfold even; simp
/-- Where rows are as they were; the two that aren't. -/
theorem even_other {rows : List (List Int)} {i : Nat} (h1 : i ≠ long rows) (h2 : i ≠ short rows) : (even rows)[i]? = rows[i]? := by
  unfold even
  rw [List.getElem?_set_ne (fun e => h2 e.symm), List.getElem?_set_ne (fun e => h1 e.symm)]
theorem even_short {rows : List (List Int)} (hne : rows ≠ []) : (even rows)[short rows]? = some ((rows[short rows]?.getD []) ++ (rows[long rows]?.getD []).drop (rlen rows (long rows) - moved rows)) := by
  unfold even
  rw [List.getElem?_set_self (by rw [List.length_set]; exact short_lt hne)]
theorem even_long {rows : List (List Int)} (hne : rows ≠ []) (h : moved rows ≠ 0) : (even rows)[long rows]? = some ((rows[long rows]?.getD []).take (rlen rows (long rows) - moved rows)) := by
  unfold even
  rw [List.getElem?_set_ne (fun e => (moved_ne h).1 e.symm), List.getElem?_set_self (long_lt hne)]
theorem even_lens {rows : List (List Int)} (hne : rows ≠ []) (h : moved rows ≠ 0) : rlen (even rows) (long rows) = rlen rows (long rows) - moved rows ∧ rlen (even rows) (short rows) = rlen rows (short rows) + moved rows := by
  have h1 := moved_ne h
  constructor
  · unfold rlen at *
    rw [even_long hne h]
    simp only [Option.getD_some, List.length_take]
    unfold rlen
    omega
  · unfold rlen at *
    rw [even_short hne]
    simp only [Option.getD_some, List.length_append, List.length_drop]
    unfold rlen
    omega
/-- Nothing is lost. -/
theorem even_perm (rows : List (List Int)) : (even rows).flatten.Perm rows.flatten := by
  by_cases hne : rows = []
  · subst hne; exact List.Perm.refl _
  by_cases h : moved rows = 0
  · rw [even_zero h]
  rw [List.perm_iff_count]
  intro z
  have hl := row_at (long_lt hne)
  have hs := row_at (short_lt hne)
  unfold even
  have c1 := count_set (l := rows) hl ((rows[long rows]?.getD []).take (rlen rows (long rows) - moved rows)) z
  have hs2 : (rows.set (long rows) ((rows[long rows]?.getD []).take (rlen rows (long rows) - moved rows)))[short rows]? = some (rows[short rows]?.getD []) := by
    rw [List.getElem?_set_ne (moved_ne h).1]; exact hs
  have c2 := count_set hs2 ((rows[short rows]?.getD []) ++ (rows[long rows]?.getD []).drop (rlen rows (long rows) - moved rows)) z
  have c3 : (rows[long rows]?.getD []).count z = ((rows[long rows]?.getD []).take (rlen rows (long rows) - moved rows)).count z + ((rows[long rows]?.getD []).drop (rlen rows (long rows) - moved rows)).count z := by rw [← List.count_append, List.take_append_drop]
  rw [List.count_append] at c2
  omega
theorem rows_some {r : Rn} (h : May r) : r.rows ≠ [] := by
  intro e
  have h1 := h.some
  obtain ⟨z, hz⟩ := List.exists_mem_of_ne_nil _ h1
  have h2 := h.few z hz
  have h3 := Zp.mem_in hz
  have := node_lt h (k := z.toNat) (by omega)
  rw [e] at this
  simp at this
theorem bal_all {r : Rn} (h : May r) : (all (bal r).1).Perm (all r) := by
  rw [bal_may h, balOn_is]
  show ((r.rings.map Rp.all).flatten ++ (even r.rows).flatten).Perm _
  exact (List.Perm.refl _).append (even_perm r.rows)
theorem bal_stays {r : Rn} (h : May r) : May (bal r).1 := by
  have hp := bal_all h
  rw [bal_may h, balOn_is] at hp ⊢
  exact ⟨h.tree, h.low, h.high, h.rings, by show (even r.rows).length = _; rw [even_length]; exact h.rows, h.some, h.few, h.ring, h.once.perm hp.symm⟩
end Go.Proofs.YthbeldmgaioemaaDoor.Jp


/- Balanced again and again rows come to be alike: what is above the average falls, then what is below it. -/
namespace Go.Proofs.YthbeldmgaioemaaDoor.Jp
set_option linter.unusedVariables false

def sumN (l : List Nat) : Nat := l.foldr (· + ·) 0
theorem sumN_cons (x : Nat) (l : List Nat) : sumN (x :: l) = x + sumN l := rfl
theorem sumN_set (f : Nat → Nat) : ∀ (l : List Nat) (i y x : Nat), l[i]? = some x → sumN ((l.set i y).map f) + f x = sumN (l.map f) + f y
  | [], i, y, x, h => by simp at h
  | a :: l, 0, y, x, h => by
    simp at h
    subst h
    simp only [List.set_cons_zero, List.map_cons, sumN_cons]
    omega
  | a :: l, i + 1, y, x, h => by
    have ih := sumN_set f l i y x (by simpa using h)
    simp only [List.set_cons_succ, List.map_cons, sumN_cons]
    omega
theorem sumN_le {f g : Nat → Nat} {l : List Nat} (h : ∀ x ∈ l, f x ≤ g x) : sumN (l.map f) ≤ sumN (l.map g) := by
  induction l with
  | nil => exact Nat.le_refl _
  | cons x l ih =>
    have h1 := h x (List.mem_cons_self ..)
    have h2 := ih (fun y hy => h y (List.mem_cons_of_mem _ hy))
    simp only [List.map_cons, sumN_cons]
    omega
theorem sumN_const (c : Nat) : ∀ l : List Nat, sumN (l.map fun _ => c) = l.length * c
  | [] => by simp [sumN]
  | x :: l => by
    have ih := sumN_const c l
    simp only [List.map_cons, sumN_cons, List.length_cons, Nat.succ_mul, ih]
    omega
theorem sumN_add (f g : Nat → Nat) (l : List Nat) : sumN (l.map fun x => f x + g x) = sumN (l.map f) + sumN (l.map g) := by
  induction l with
  | nil => rfl
  | cons x l ih => simp only [List.map_cons, sumN_cons, ih]; omega
theorem sumN_id (l : List Nat) : sumN (l.map fun x => x) = sumN l := by rw [List.map_id']
/-- All as many as c, one more by e: the sum is more by e. -/
theorem sumN_above {l : List Nat} {c x : Nat} (h : ∀ y ∈ l, c ≤ y) (hx : x ∈ l) : l.length * c + (x - c) ≤ sumN l := by
  induction l with
  | nil => cases hx
  | cons y l ih =>
    have hy := h y (List.mem_cons_self ..)
    have hl := fun z hz => h z (List.mem_cons_of_mem y hz)
    simp only [List.length_cons, Nat.succ_mul, sumN_cons]
    rcases List.mem_cons.1 hx with rfl | hx
    · have : l.length * c ≤ sumN l := by
        rw [← sumN_const, ← sumN_id l]
        exact sumN_le (f := fun _ => c) (g := fun x => x) hl
      omega
    · have := ih hl hx
      omega
theorem sumN_below {l : List Nat} {c x : Nat} (h : ∀ y ∈ l, y ≤ c) (hx : x ∈ l) : sumN l + (c - x) ≤ l.length * c := by
  induction l with
  | nil => cases hx
  | cons y l ih =>
    have hy := h y (List.mem_cons_self ..)
    have hl := fun z hz => h z (List.mem_cons_of_mem y hz)
    simp only [List.length_cons, Nat.succ_mul, sumN_cons]
    rcases List.mem_cons.1 hx with rfl | hx
    · have : sumN l ≤ l.length * c := by
        rw [← sumN_const, ← sumN_id l]
        exact sumN_le (f := fun x => x) (g := fun _ => c) hl
      omega
    · have := ih hl hx
      omega
/-- How far it is from being alike: what is above the average; if nothing is, what is below. -/
def lo (T n : Nat) : Nat := T / n
def hi (T n : Nat) : Nat := (T + (n - 1)) / n
def over (T n : Nat) (l : List Nat) : Nat := sumN (l.map fun x => x - hi T n)
def under (T n : Nat) (l : List Nat) : Nat := sumN (l.map fun x => lo T n - x)
def phi (T n : Nat) (l : List Nat) : Nat := over T n l + (if over T n l = 0 then under T n l else n)
theorem lohi {T n : Nat} (hn : 0 < n) : lo T n ≤ hi T n ∧ hi T n ≤ lo T n + 1 ∧ n * lo T n ≤ T ∧ T ≤ n * hi T n := by
  unfold lo hi
  have h1 := Nat.div_add_mod T n
  have h2 := Nat.mod_lt T hn
  have h3 := Nat.div_add_mod (T + (n - 1)) n
  have h4 := Nat.mod_lt (T + (n - 1)) hn
  have h5 : T / n ≤ (T + (n - 1)) / n := Nat.div_le_div_right (by omega)
  have h6 : (T + (n - 1)) / n ≤ T / n + 1 := by
    have : (T + (n - 1)) / n ≤ (T + n) / n := Nat.div_le_div_right (by omega)
    rw [Nat.add_div_right _ hn] at this
    exact this
  exact ⟨h5, h6, by omega, by omega⟩
theorem under_few {T n : Nat} {l : List Nat} (hn : 0 < n) (hl : l.length = n) (hT : sumN l = T) (h0 : over T n l = 0) : under T n l ≤ n := by
  obtain ⟨h1, h2, h3, h4⟩ := lohi (T := T) hn
  have hz : ∀ x ∈ l, x ≤ hi T n := by
    intro x hx
    have : ∀ l : List Nat, x ∈ l → x - hi T n ≤ sumN (l.map fun x => x - hi T n) := fun l hx => by
      induction l with
      | nil => cases hx
      | cons y l ih =>
        simp only [List.map_cons, sumN_cons]
        rcases List.mem_cons.1 hx with rfl | hx
        · omega
        · have := ih hx; omega
    have := this l hx
    unfold over at h0
    omega
  have h5 := sumN_add (fun x => x) (fun x => lo T n - x) l
  have h6 : sumN (l.map fun x => x + (lo T n - x)) ≤ sumN (l.map fun _ => lo T n + 1) := sumN_le (fun x hx => by have := hz x hx; omega)
  rw [sumN_const, hl] at h6
  rw [sumN_id, hT] at h5
  have h7 : n * (lo T n + 1) = n * lo T n + n := Nat.mul_succ _ _
  unfold under
  omega
theorem phi_start {T n : Nat} {l : List Nat} (hn : 0 < n) (hl : l.length = n) (hT : sumN l = T) : phi T n l ≤ T + n := by
  have h1 : over T n l ≤ T := by
    have h2 := sumN_le (f := fun x => x - hi T n) (g := fun x => x) (l := l) (fun x _ => Nat.sub_le _ _)
    rw [sumN_id, hT] at h2
    exact h2
  unfold phi
  split
  · have := under_few hn hl hT (by assumption); omega
  · omega
/-- One move brings it nearer. -/
theorem phi_falls {T n i j a b a' b' : Nat} {l : List Nat} (hn : 0 < n) (hl : l.length = n) (hT : sumN l = T) (hi' : l[i]? = some a) (hj : l[j]? = some b) (hij : i ≠ j) (hmax : ∀ x ∈ l, x ≤ a) (hmin : ∀ x ∈ l, b ≤ x) (h2 : b + 2 ≤ a) (hs : a' + b' = a + b) (hab : b' ≤ a') (hab' : a' ≤ b' + 1) :
    phi T n ((l.set i a').set j b') < phi T n l ∧ ((l.set i a').set j b').length = n ∧ sumN ((l.set i a').set j b') = T := by
  obtain ⟨g1, g2, g3, g4⟩ := lohi (T := T) hn
  have hj2 : (l.set i a')[j]? = some b := by rw [List.getElem?_set_ne hij]; exact hj
  have hset : ∀ f : Nat → Nat, sumN (((l.set i a').set j b').map f) + (f a + f b) = sumN (l.map f) + (f a' + f b') := fun f => by
    have h1 := sumN_set f l i a' a hi'
    have h2 := sumN_set f (l.set i a') j b' b hj2
    omega
  have hT' : sumN ((l.set i a').set j b') = T := by
    have := hset (fun x => x)
    rw [sumN_id, sumN_id, hT] at this
    omega
  have hlen : ((l.set i a').set j b').length = n := by rw [List.length_set, List.length_set]; exact hl
  refine ⟨?_, hlen, hT'⟩
  have ha := List.mem_of_getElem? hi'
  have hb := List.mem_of_getElem? hj
  have k1 := sumN_above hmin ha
  have k2 := sumN_below hmax hb
  rw [hl, hT] at k1 k2
  have hbhi : b < hi T n := by
    apply Nat.lt_of_not_le
    intro h
    have := Nat.mul_le_mul_left n h
    omega
  have halo : lo T n < a := by
    apply Nat.lt_of_not_le
    intro h
    have := Nat.mul_le_mul_left n h
    omega
  have ho := hset (fun x => x - hi T n)
  have hu := hset (fun x => lo T n - x)
  have hov : over T n ((l.set i a').set j b') + ((a - hi T n) + (b - hi T n)) = over T n l + ((a' - hi T n) + (b' - hi T n)) := ho
  have hun : under T n ((l.set i a').set j b') + ((lo T n - a) + (lo T n - b)) = under T n l + ((lo T n - a') + (lo T n - b')) := hu
  by_cases hc : a ≤ hi T n
  · have h0 : over T n l = 0 := by
      unfold over
      have : sumN (l.map fun x => x - hi T n) ≤ sumN (l.map fun _ => 0) := sumN_le (fun x hx => by have := hmax x hx; omega)
      rw [sumN_const, Nat.mul_zero] at this
      omega
    have h0' : over T n ((l.set i a').set j b') = 0 := by omega
    unfold phi
    rw [if_pos h0, if_pos h0', h0, h0']
    omega
  · have hlt : over T n ((l.set i a').set j b') < over T n l := by omega
    unfold phi
    rw [if_neg (show ¬ over T n l = 0 by omega)]
    by_cases h0 : over T n ((l.set i a').set j b') = 0
    · rw [if_pos h0]
      have := under_few hn hlen hT' h0
      omega
    · rw [if_neg h0]
      omega
/-- Rows. -/
def lens (rows : List (List Int)) : List Nat := rows.map List.length
theorem lens_at {rows : List (List Int)} {i : Nat} (h : i < rows.length) : (lens rows)[i]? = some (rlen rows i) := by
  unfold lens rlen
  rw [List.getElem?_map, List.getElem?_eq_getElem h]
  rfl
theorem lens_flatten (rows : List (List Int)) : sumN (lens rows) = rows.flatten.length := by
  induction rows with
  | nil => rfl
  | cons x rows ih =>
    unfold lens at *
    rw [List.map_cons, sumN_cons, ih, List.flatten_cons, List.length_append]
theorem lens_even {rows : List (List Int)} (hne : rows ≠ []) (h : moved rows ≠ 0) : lens (even rows) = ((lens rows).set (long rows) (rlen rows (long rows) - moved rows)).set (short rows) (rlen rows (short rows) + moved rows) := by
  have h1 := moved_ne h
  have hl := long_lt hne
  have hs := short_lt hne
  have e1 : ((rows[long rows]?.getD []).take (rlen rows (long rows) - moved rows)).length = rlen rows (long rows) - moved rows := by
    rw [List.length_take]
    show min _ (rlen rows (long rows)) = _
    omega
  have e2 : ((rows[short rows]?.getD []) ++ (rows[long rows]?.getD []).drop (rlen rows (long rows) - moved rows)).length = rlen rows (short rows) + moved rows := by
    rw [List.length_append, List.length_drop]
    show rlen rows (short rows) + (rlen rows (long rows) - _) = _
    omega
  unfold lens even
  rw [List.map_set, List.map_set, e1, e2]
def phiR (rows : List (List Int)) : Nat := phi rows.flatten.length rows.length (lens rows)
theorem phiR_falls {rows : List (List Int)} (hne : rows ≠ []) (h : moved rows ≠ 0) : phiR (even rows) < phiR rows := by
  have hn : 0 < rows.length := List.length_pos_iff.2 hne
  have h1 := moved_ne h
  have hl := long_lt hne
  have hs := short_lt hne
  have mem : ∀ x ∈ lens rows, ∃ i, i < rows.length ∧ x = rlen rows i := fun x hx => by
    obtain ⟨i, hi⟩ := List.mem_iff_getElem?.1 hx
    have hlt : i < rows.length := by have := (List.getElem?_eq_some_iff.1 hi).1; unfold lens at this; rwa [List.length_map] at this
    rw [lens_at hlt] at hi
    injection hi with hi
    exact ⟨i, hlt, hi.symm⟩
  obtain ⟨f1, f2, f3⟩ := phi_falls (l := lens rows) (a' := rlen rows (long rows) - moved rows) (b' := rlen rows (short rows) + moved rows) hn (by unfold lens; rw [List.length_map]) (lens_flatten rows) (lens_at hl) (lens_at hs) h1.1 (fun x hx => by obtain ⟨i, hi, rfl⟩ := mem x hx; exact long_max hi) (fun x hx => by obtain ⟨i, hi, rfl⟩ := mem x hx; exact short_min hi) (by omega) (by omega) (by omega) (by omega)
  unfold phiR
  rw [even_length, (even_perm rows).length_eq, lens_even hne h]
  exact f1
theorem phiR_start {rows : List (List Int)} (hne : rows ≠ []) : phiR rows ≤ rows.flatten.length + rows.length :=
  phi_start (List.length_pos_iff.2 hne) (by unfold lens; rw [List.length_map]) (lens_flatten rows)
/-- Again and again. -/
def again (rows : List (List Int)) : Nat → List (List Int)
  | 0 => rows
  | m + 1 => even (again rows m)
theorem again_length (rows : List (List Int)) : ∀ m, (again rows m).length = rows.length
  | 0 => rfl
  | m + 1 => by unfold again; rw [even_length]; exact again_length rows m
theorem again_ends {rows : List (List Int)} (hne : rows ≠ []) : ∀ m, moved (again rows m) = 0 ∨ phiR (again rows m) + m ≤ phiR rows
  | 0 => .inr (Nat.le_refl _)
  | m + 1 => by
    have hne' : again rows m ≠ [] := fun e => by have := again_length rows m; rw [e] at this; exact hne (List.length_eq_zero_iff.1 this.symm)
    by_cases h0 : moved (again rows m) = 0
    · left
      unfold again
      rw [even_zero h0]
      exact h0
    · rcases again_ends hne m with h | h
      · exact absurd h h0
      · right
        have := phiR_falls hne' h0
        unfold again
        omega
theorem again_all {rows : List (List Int)} (hne : rows ≠ []) {m : Nat} (h : rows.flatten.length + rows.length < m) : moved (again rows m) = 0 := by
  rcases again_ends hne m with h1 | h1
  · exact h1
  · have := phiR_start hne
    omega
end Go.Proofs.YthbeldmgaioemaaDoor.Jp


/- What stays short behind a balance. -/
namespace Go.Proofs.YthbeldmgaioemaaDoor
open Go.RowKit
set_option linter.unusedVariables false

theorem Jp.even_max {rows : List (List Int)} {m : Nat} (h : ∀ l ∈ rows, l.length ≤ m) : ∀ l ∈ Jp.even rows, l.length ≤ m := by
  intro l hl
  by_cases hne : rows = []
  · subst hne; cases hl
  by_cases h0 : Jp.moved rows = 0
  · rw [Jp.even_zero h0] at hl; exact h l hl
  have h1 := Jp.moved_ne h0
  have hL : Jp.rlen rows (Jp.long rows) ≤ m := h _ (List.mem_of_getElem? (Jp.row_at (Jp.long_lt hne)))
  unfold Jp.even at hl
  rcases List.mem_or_eq_of_mem_set hl with hl | rfl
  · rcases List.mem_or_eq_of_mem_set hl with hl | rfl
    · exact h l hl
    · rw [List.length_take]
      show min _ (Jp.rlen rows (Jp.long rows)) ≤ m
      omega
  · rw [List.length_append, List.length_drop]
    show Jp.rlen rows (Jp.short rows) + (Jp.rlen rows (Jp.long rows) - _) ≤ m
    omega
theorem low_bal {r : Jp.Rn} (h : Low r) : Low (Jp.bal r).1 := by
  by_cases hm : Jp.May r
  · have hp := Jp.bal_all hm
    rw [Jp.bal_may hm, Jp.balOn_is] at hp ⊢
    exact ⟨h.rings, by show (Jp.even r.rows).length ≤ 64; rw [Jp.even_length]; exact h.rows, h.ring, Jp.even_max h.row, h.tree, fun z hz => h.fit z (hp.mem_iff.1 hz)⟩
  · rw [Jp.bal_no hm]
    exact h
/-- Balanced again and again. -/
def Jp.nth (r : Jp.Rn) (j : Nat) : Jp.Rn := { r with rows := Jp.again r.rows j }
theorem Jp.nth_zero (r : Jp.Rn) : Jp.nth r 0 = r := rfl
theorem Jp.again_perm (rows : List (List Int)) : ∀ j, (Jp.again rows j).flatten.Perm rows.flatten
  | 0 => List.Perm.refl _
  | j + 1 => (Jp.even_perm _).trans (Jp.again_perm rows j)
theorem Jp.nth_all (r : Jp.Rn) (j : Nat) : (Jp.all (Jp.nth r j)).Perm (Jp.all r) := (List.Perm.refl _).append (Jp.again_perm r.rows j)
theorem Jp.nth_may {r : Jp.Rn} (h : Jp.May r) (j : Nat) : Jp.May (Jp.nth r j) := by
  induction j with
  | zero => exact h
  | succ j ih =>
    have := Jp.bal_stays ih
    rw [Jp.bal_may ih, Jp.balOn_is] at this
    exact this
theorem Jp.nth_bal {r : Jp.Rn} (h : Jp.May r) (j : Nat) : Jp.bal (Jp.nth r j) = (Jp.nth r (j + 1), ((Jp.moved (Jp.again r.rows j) : Nat) : Int)) := by
  rw [Jp.bal_may (Jp.nth_may h j), Jp.balOn_is]
  rfl
theorem Jp.nth_low {r : Jp.Rn} (h : Jp.May r) (hl : Low r) (j : Nat) : Low (Jp.nth r j) := by
  induction j with
  | zero => exact hl
  | succ j ih =>
    have := low_bal ih
    rw [Jp.nth_bal h] at this
    exact this
theorem Jp.nth_length (r : Jp.Rn) (j : Nat) : (Jp.nth r j).rows.length = r.rows.length := Jp.again_length r.rows j
/-- Behind more turns than rows, and than those who stand anywhere, nobody is moved. -/
theorem Jp.nth_ends {r : Jp.Rn} (h : Jp.May r) {m : Nat} (hm : r.rows.length + (Jp.all r).length < m) : Jp.moved (Jp.again r.rows m) = 0 := by
  refine Jp.again_all (Jp.rows_some h) ?_
  have : (Jp.all r).length = (r.rings.map Rp.all).flatten.length + r.rows.flatten.length := by unfold Jp.all; rw [List.length_append]
  omega
end Go.Proofs.YthbeldmgaioemaaDoor

