/- balance.Balance, by its contract. -/
import Derived.Test.YthbeldmgaioemaaDoorEEnd
import Derived.Test.YthbeldmgaioemaaDoorECut
import Derived.Test.YthbeldmgaioemaaDoorJMayL
import Derived.Test.YthbeldmgaioemaaDoorM11
import Derived.Test.YthbeldmgaioemaaDoorM12
namespace Go.Proofs.YthbeldmgaioemaaDoor
open Go.RowKit
set_option linter.unusedVariables false

set_option maxRecDepth 100000 in
set_option maxHeartbeats 2000000 in
theorem balBalance_any {F : Nat → Prop} (d : Ad) (r : Jp.Rn) (w : World) (h : RM F w d r) (hF : ∀ b, F b → b < w.heap.size) (hlow : Low r) (hT : Tab w) :
    Calls Tryd.prog 12 #[jv d r] w (TellJE F w (Jp.bal r)) := by
  obtain ⟨A0, nt, ct, R, nr, cr, S, ns, cs⟩ := d
  have H := Lib.hid h
  have HL := Lib.hid hlow
  have HTW := Lib.hid hT
  obtain ⟨V, hV, hX, hZ, hB, hsz⟩ := boxes2 w (.slice A0 nt ct) (.int .i64 r.size) (.slice R nr cr) (.slice S ns cs) (.int .u64 (r.on : Nat)) (.slice none 0 0) (.int .i64 0) (.slice none 0 0) (.slice none 0 0) (.int .u64 0) 33 33
  have hap := runsApart_any ⟨A0, nt, ct, R, nr, cr, S, ns, cs⟩ r V (h.below hB) hlow
  unfold jv at hap
  simp only at hap
  have AP := Lib.hid hap
  have E := Lib.hid hV
  have X0 := Lib.hid hX
  have Z0 := Lib.hid hZ
  have B0 := Lib.hid hB
  have d0 := hX.c0
  have d1 := hX.c1
  have d2 := hX.c2
  have d3 := hX.c3
  have d4 := hX.c4
  clear hV hX hZ hB hap h hlow hF hT
  unfold jv
  go_enter Tryd.func12, Tryd.ntmps12
  go_wp2_with (rw [← E.out])
  clear E
  refine AP.out.mono ?_
  rintro e w1 ⟨⟨T1, nt1, ct1, R1, nr1, cr1, S1, ns1, cs1⟩, B1', B2', B3', es, ls, rfl, htold, hb1⟩
  unfold jv
  simp only
  have hb2 := below_new w1 (.cells #[.slice T1 nt1 ct1, .int .i64 r.size, .slice R1 nr1 cr1, .slice S1 ns1 cs1, .int .u64 (r.on : Nat)] 33)
  obtain ⟨w2, hw2⟩ : ∃ w2, w2 = w1.alloc (.cells #[.slice T1 nt1 ct1, .int .i64 r.size, .slice R1 nr1 cr1, .slice S1 ns1 cs1, .int .u64 (r.on : Nat)] 33) := ⟨_, rfl⟩
  have hY := C5.new w1 (.slice T1 nt1 ct1) (.int .i64 r.size) (.slice R1 nr1 cr1) (.slice S1 ns1 cs1) (.int .u64 (r.on : Nat)) 33
  rw [← hw2] at hb2 hY
  have E2 := Lib.hid hw2
  have hb12 := hb1.trans (hb2.mono hb1.size)
  have X2 := Lib.hid (X0.out.step hb12)
  have Z2 := Lib.hid (Z0.out.step hb12)
  have BB2 := Lib.hid (held_trans B0.out hb12)
  have T2 := Lib.hid (htold.step hb2)
  have TD := Lib.hid htold
  have Y2 := Lib.hid hY
  have hs1' := hb1.size
  obtain ⟨Tb, hTb⟩ : ∃ Tb : Bool, (Tb = true ↔ Jp.May r) := by
    by_cases h : Jp.May r
    · exact ⟨true, by simp [h]⟩
    · exact ⟨false, by simp [h]⟩
  have HTB := Lib.hid hTb
  have hMY := runsMay_any ⟨A0, nt, ct, R, nr, cr, S, ns, cs⟩ r Tb w2 HTB (H.out.below BB2.out) HL.out (HTW.out.step BB2.out)
  unfold jv at hMY
  simp only at hMY
  have MY := Lib.hid hMY
  have p0 := X2.out.c0
  have p1 := X2.out.c1
  have p2 := X2.out.c2
  have p3 := X2.out.c3
  have p4 := X2.out.c4
  clear hb1 hb2 hb12 hw2 hY htold hMY hTb X0 Z0 B0 AP d0 d1 d2 d3 d4
  go_wp2_with (rw [← E2.out])
  clear E2
  refine MY.out.mono ?_
  rintro e w3 ⟨rfl, hb3⟩
  have Z3 := Lib.hid (Z2.out.step hb3)
  have Y3 := Lib.hid (Y2.out.step hb3)
  have BB3 := Lib.hid (held_trans BB2.out hb3)
  have T3 := Lib.hid (T2.out.step hb3)
  have SZ2 := Y2.out.lt
  have SZ3 := hb3.size
  clear MY p0 p1 p2 p3 p4 X2 Z2 BB2 T2 Y2 hb3
  cases Tb
  · have HP := Lib.hid (Jp.bal_no (r := r) (fun h => by have := HTB.out.2 h; cases this))
    have HF := Lib.hid (tell_no (F := F) (w := w) (V := V) (Z := w.heap.size + 1) (e := 0) HP.out T3.out (by omega) (by omega) (by omega) BB3.out (.slice T1 nt1 ct1) (.int .i64 r.size) (.slice R1 nr1 cr1) (.slice S1 ns1 cs1) (.int .u64 (r.on : Nat)))
    have d0 := ((Y3.out)).b5.c0
    have d1 := ((Y3.out)).b5.c1
    have d2 := ((Y3.out)).b5.c2
    have d3 := ((Y3.out)).b5.c3
    have d4 := ((Y3.out)).b5.c4
    have y0 := ((Z3.out)).b5.c0
    have y1 := ((Z3.out)).b5.c1
    have y2 := ((Z3.out)).b5.c2
    have y3 := ((Z3.out)).b5.c3
    have y4 := ((Z3.out)).b5.c4
    have g0 := ((Z3.out)).f0
    have g1 := ((Z3.out)).f1
    have g2 := ((Z3.out)).f2
    have g3 := ((Z3.out)).f3
    have g4 := ((Z3.out)).f4
    obtain ⟨k0, k1, k2, k3, k4⟩ := put5_told ((Z3.out)) (.slice T1 nt1 ct1) (.int .i64 r.size) (.slice R1 nr1 cr1) (.slice S1 ns1 cs1) (.int .u64 (r.on : Nat))
    unfold put5 at k0 k1 k2 k3 k4
    go_wp2_with fail
    refine bodyPost_ret ?_ rfl HF.out
    first | (simp [results, Tryd.results12, go_sem, k0, k1, k2, k3, k4, jv]; done) | (simp [results, Tryd.results12, go_sem, k0, k1, k2, k3, k4, jv, Jp.rowed]; done)
  have HM := Lib.hid (HTB.out.1 rfl)
  have hne := Jp.rows_some HM.out
  obtain ⟨lg, hlg⟩ : ∃ l, l = Jp.long r.rows := ⟨_, rfl⟩
  obtain ⟨sd, hsd⟩ : ∃ l, l = Jp.short r.rows := ⟨_, rfl⟩
  have hlgn := Jp.long_lt hne
  have hsdn := Jp.short_lt hne
  have hE : Jp.ends r = ((lg : Int), (sd : Int)) := by unfold Jp.ends; rw [if_neg (fun h => hne (List.length_eq_zero_iff.1 h)), hlg, hsd]
  have hge := Jp.long_max hsdn
  rw [← hlg] at hlgn hge
  rw [← hsd] at hsdn hge
  have hEN := balEnds_any ⟨T1, nt1, ct1, R1, nr1, cr1, S1, ns1, cs1⟩ r w3 (T3.out.rm (F := fun _ => False) (w0 := V) (by omega)) HL.out
  rw [hE] at hEN
  unfold jv at hEN
  simp only at hEN
  have EN := Lib.hid hEN
  clear hEN hE
  have d0 := ((Y3.out)).b5.c0
  have d1 := ((Y3.out)).b5.c1
  have d2 := ((Y3.out)).b5.c2
  have d3 := ((Y3.out)).b5.c3
  have d4 := ((Y3.out)).b5.c4
  go_wp2_with fail
  refine EN.out.mono ?_
  rintro e w4 ⟨rfl, hb4⟩
  have Z4 := Lib.hid (Z3.out.step hb4)
  have Y4 := Lib.hid (Y3.out.step hb4)
  have BB4 := Lib.hid (held_trans BB3.out hb4)
  have T4 := Lib.hid (T3.out.step hb4)
  have SZ4 := hb4.size
  clear EN d0 d1 d2 d3 d4 Z3 BB3 T3 Y3 hb4
  have hns1 := TD.out.ns
  simp only at hns1
  obtain ⟨gS, capS, eS, hgS1, hgS2, _, _⟩ := TD.out.rows.form (show 0 < ns1 by omega)
  injection eS with eS1 _ eS2
  subst eS1 eS2
  have h012 := TD.out.o01
  have h112 := TD.out.o12
  have h212 := TD.out.o23
  have hs64 := HL.out.rows
  obtain ⟨⟨x1, xl, Al, nl, cl⟩, he1⟩ : ∃ e, ls[lg]? = some e := ⟨_, List.getElem?_eq_getElem (by omega)⟩
  obtain ⟨⟨x0, xd, Ad, nd, cd⟩, he0⟩ : ∃ e, ls[sd]? = some e := ⟨_, List.getElem?_eq_getElem (by omega)⟩
  have HE1 := Lib.hid he1
  have HE0 := Lib.hid he0
  have hxl : r.rows[lg]? = some xl := by rw [← TD.out.isl, List.getElem?_map, he1]; rfl
  have hxd : r.rows[sd]? = some xd := by rw [← TD.out.isl, List.getElem?_map, he0]; rfl
  have hrl := T4.out.rows.rows _ (List.mem_of_getElem? he1)
  have hrd := T4.out.rows.rows _ (List.mem_of_getElem? he0)
  simp only at hrl hrd
  have hn1 : Jp.rlen r.rows lg = nl := by unfold Jp.rlen; rw [hxl]; exact hrl.len
  have hn0 : Jp.rlen r.rows sd = nd := by unfold Jp.rlen; rw [hxd]; exact hrd.len
  rw [hn1, hn0] at hge
  obtain ⟨mv, hmv⟩ : ∃ m, m = Jp.moved r.rows := ⟨_, rfl⟩
  have hmv2 : mv = (nl - nd) / 2 := by rw [hmv, ← hn1, ← hn0, hlg, hsd]; rfl
  have hn400 : nl ≤ 400 := by rw [← hrl.len]; exact HL.out.row _ (List.mem_of_getElem? hxl)
  obtain ⟨rs, hrs⟩ : ∃ n, n = nl - mv := ⟨_, rfl⟩
  have HBAL := Lib.hid (show Jp.bal r = (Jp.rowed (Jp.rowed r lg (xl.take rs)) sd (xd ++ xl.drop rs), ((mv : Nat) : Int)) by
    rw [Jp.bal_may HM.out, Jp.balOn_is, hmv]
    have : Jp.even r.rows = (r.rows.set lg (xl.take rs)).set sd (xd ++ xl.drop rs) := by
      unfold Jp.even
      rw [← hlg, ← hsd, hn1, ← hmv, hxl, hxd, hrs]
      rfl
    rw [this]
    rfl)
  have HBZ := Lib.hid (show mv = 0 → Jp.bal r = (Jp.rowed r lg xl, ((mv : Nat) : Int)) from fun h => by
    rw [Jp.bal_may HM.out]
    unfold Jp.balOn
    rw [← hmv, if_pos h, h]
    rw [Jp.rowed_self hxl]
    rfl)
  obtain ⟨dd, hdd⟩ : ∃ d, d = nl - nd := ⟨_, rfl⟩
  have e1 : IntKind.i64.wrap ((nl : Int) - (nd : Int)) = (dd : Int) := by rw [IntWalk.i64_in _ (by omega)]; omega
  have e2 : Int.tdiv (dd : Int) 2 = (mv : Int) := by rw [hmv2, ← hdd]; rfl
  have e3 : (dd : Int) / 2 = (mv : Int) := by omega
  have e4 : IntKind.i64.wrap (mv : Int) = (mv : Int) := IntWalk.i64_in _ (by omega)
  have e5 : IntKind.i64.wrap ((nl : Int) - (mv : Int)) = (rs : Int) := by rw [IntWalk.i64_in _ (by omega)]; omega
  have i0 : (0 : Int) ≤ (lg : Int) := by omega
  have i1 : (lg : Int) < (ns1 : Int) := by omega
  have i2 : (0 : Int) ≤ (sd : Int) := by omega
  have i3 : (sd : Int) < (ns1 : Int) := by omega
  have i4 : lg < ns1 := by omega
  have i5 : sd < ns1 := by omega
  have cl0 := (xo_cellL T4.out.rows he1).1
  have cs0 := (xo_cellL T4.out.rows he0).1
  simp only at cl0 cs0
  have hcl := hrl.cap
  have hcl2 := hrl.most
  have f1 : (0 : Int) ≤ (rs : Int) := by omega
  have f2 : (rs : Int) ≤ (nl : Int) := by omega
  have f3 : ¬ (nl : Int) < (rs : Int) := by omega
  have f4 : rs ≤ nl := by omega
  have f6 : (rs : Int) ≤ (cl : Int) := by omega
  have f7 : ¬ (cl : Int) < (rs : Int) := by omega
  have HMZ := Lib.hid (show lg = sd → mv = 0 from fun h => by subst h; rw [he0] at he1; injection he1 with h1; injection h1 with _ _ _ h2 _; omega)
  have HRL := Lib.hid hrl
  have HRD := Lib.hid hrd
  have HAL := Lib.hid (show ∀ ad, Al = some ad → ad = ⟨ad.block, 0, none⟩ ∧ ad.block ≠ gS from fun ad e => by
    obtain ⟨_, _, h1, _, h3⟩ := Row.of_own' (TD.out.ours lg _ he1)
    have h5 := TD.out.ll gS rfl
    rcases (TD.out.ours lg _ he1).2 with ⟨h2, _⟩ | ⟨g, cap, cur, h2, hb, _⟩
    · injection h2 with h2; simp only at h2; rw [e] at h2; cases h2
    · injection h2 with h2
      simp only at h2
      rw [e] at h2
      injection h2 with h2
      subst h2
      exact ⟨rfl, by simp only; omega⟩)
  have HQB := Lib.hid (show ∀ k, (Value.slice Ad nd cd).ownBlock = some k → k < w1.heap.size from fun k hk => ((TD.out.ours sd _ he0).lt k hk).2)
  have HRN := Lib.hid hrs
  have hnd400 : nd ≤ 400 := by omega
  clear hrs hlg hsd hge hn1 hn0 hmv hmv2 hdd hxl hxd he1 he0 hne hlgn hsdn hrl hrd
  have d0 := ((Y4.out)).b5.c0
  have d1 := ((Y4.out)).b5.c1
  have d2 := ((Y4.out)).b5.c2
  have d3 := ((Y4.out)).b5.c3
  have d4 := ((Y4.out)).b5.c4
  obtain ⟨Ar, hs58, hrs, hrb⟩ := cut_rest HRL.out rs f4 gS HAL.out
  have hs46 := cut_head HRL.out rs f4 HAL.out
  have HRS := Lib.hid hrs
  have HRB := Lib.hid hrb
  clear hrs hrb
  go_wp2_with fail
  refine wp_region_held_drew (S := fun w' => w'.cell? ⟨w1.heap.size, 3, none⟩ = some (.slice (some ⟨gS, 0, none⟩) ns1 cs1)) (by kernel_rfl) d3 (fun hHeld => ?_)
  have hdr := (Below.refl w4.heap.size w4).drew
  obtain ⟨w5, hw5⟩ : ∃ V, V = w4.drew := ⟨_, rfl⟩
  rw [← hw5] at hdr hHeld ⊢
  clear hw5 d0 d1 d2 d3 d4 cl0 cs0
  have Y5 := Lib.hid (Y4.out.step hdr)
  have Z5 := Lib.hid (Z4.out.step hdr)
  have BB5 := Lib.hid (held_trans BB4.out hdr)
  have T5 := Lib.hid (T4.out.step hdr)
  have HB5 := Lib.hid hdr
  have SZ5 := hdr.size
  clear hdr
  refine wpAnyH_takesJ (i := 0) (v := (.pointer (some ⟨w1.heap.size, 3, none⟩))) (some 40) rfl rfl (by kernel_rfl) (by kernel_rfl) (by kernel_rfl) (fun _ _ _ h => h) (Or.inl ⟨by rfl, (by intro W9 hSw; (try dsimp only at hSw); go_simp; first | done | with_reducible rfl)⟩) (by assumption) ?_
  simp only [Act.put, List.setIfInBounds_toArray]; try simp only [List.set_cons_zero, List.set_cons_succ]
  refine wpAnyH_takesJ (i := 1) (v := (.slice (some ⟨gS, 0, none⟩) ns1 cs1)) (some 41) rfl rfl (by kernel_rfl) (by kernel_rfl) (by kernel_rfl) (fun _ _ _ h => h) (Or.inl ⟨by rfl, (by intro W9 hSw; (try dsimp only at hSw); go_simp; first | done | with_reducible rfl)⟩) (by assumption) ?_
  simp only [Act.put, List.setIfInBounds_toArray]; try simp only [List.set_cons_zero, List.set_cons_succ]
  refine wpAnyH_takesJ (i := 2) (v := (.int .i64 (lg : Nat))) (some 42) rfl rfl (by kernel_rfl) (by kernel_rfl) (by kernel_rfl) (fun _ _ _ h => h) (Or.inl ⟨by rfl, (by intro W9 hSw; (try dsimp only at hSw); go_simp; first | done | with_reducible rfl)⟩) (by assumption) ?_
  simp only [Act.put, List.setIfInBounds_toArray]; try simp only [List.set_cons_zero, List.set_cons_succ]
  refine wpAnyH_takesJ (i := 3) (v := (.slice Al nl cl)) (some 43) rfl rfl (by kernel_rfl) (by kernel_rfl) (by kernel_rfl) (fun _ _ _ h => h) (Or.inl ⟨by rfl, (by intro W9 hSw; (try dsimp only at hSw); go_simp; first | done | with_reducible rfl)⟩) (by assumption) ?_
  simp only [Act.put, List.setIfInBounds_toArray]; try simp only [List.set_cons_zero, List.set_cons_succ]
  refine wpAnyH_takesJ (i := 4) (v := (.int .i64 (rs : Nat))) (some 44) rfl rfl (by kernel_rfl) (by kernel_rfl) (by kernel_rfl) (fun _ _ _ h => h) (Or.inl ⟨by rfl, (by intro W9 hSw; (try dsimp only at hSw); go_simp; first | done | with_reducible rfl)⟩) (by assumption) ?_
  simp only [Act.put, List.setIfInBounds_toArray]; try simp only [List.set_cons_zero, List.set_cons_succ]
  refine wpAnyH_takesJ (i := 5) (v := (.int .i64 (rs : Nat))) (some 45) rfl rfl (by kernel_rfl) (by kernel_rfl) (by kernel_rfl) (fun _ _ _ h => h) (Or.inl ⟨by rfl, (by intro W9 hSw; (try dsimp only at hSw); go_simp; first | done | with_reducible rfl)⟩) (by assumption) ?_
  simp only [Act.put, List.setIfInBounds_toArray]; try simp only [List.set_cons_zero, List.set_cons_succ]
  refine wpAnyH_takesJ (i := 6) (v := (.slice Al rs rs)) (some 46) rfl rfl (by kernel_rfl) (by kernel_rfl) (by kernel_rfl) (fun _ _ _ h => h) (Or.inl ⟨by rfl, (by intro W9 hSw; (try dsimp only at hSw); go_simp; first | done | with_reducible rfl)⟩) (by assumption) ?_
  simp only [Act.put, List.setIfInBounds_toArray]; try simp only [List.set_cons_zero, List.set_cons_succ]
  refine wpAnyH_takesJ (i := 7) (v := (.pointer (some ⟨gS, lg, none⟩))) (some 47) rfl rfl (by kernel_rfl) (by kernel_rfl) (by kernel_rfl) (fun _ _ _ h => h) (Or.inl ⟨by rfl, (by intro W9 hSw; (try dsimp only at hSw); go_simp; first | done | with_reducible rfl)⟩) (by assumption) ?_
  simp only [Act.put, List.setIfInBounds_toArray]; try simp only [List.set_cons_zero, List.set_cons_succ]
  have cc := (xo_cellL T5.out.rows HE1.out).1
  have ff := (xo_cellL T5.out.rows HE1.out).2
  refine wpAnyH_ready (rs := [8]) (by kernel_rfl) (by simp) ?_
  refine AllReadyH.cons rfl (fun K hK => ?_) AllReadyH.nil
  go_simp
  have Y6 := Lib.hid (Y5.out.far (p := ⟨gS, lg, none⟩) (u := .slice Al rs rs) (by simp only; omega))
  have Z6 := Lib.hid (Z5.out.far (p := ⟨gS, lg, none⟩) (u := .slice Al rs rs) (by simp only; omega))
  have BB6 := Lib.hid (BB5.out.setCell (p := ⟨gS, lg, none⟩) (by simp only; omega) (.slice Al rs rs))
  refine hK.out _ _ (by exact Y6.out.b5.c3) (fun hHeld => ?_)
  clear hK K cc ff
  try dsimp only
  refine wpAnyH_done (by kernel_rfl) ?_ _
  by_cases hls : lg = sd
  · have hmz := Lib.hid (HMZ.out hls)
    have hrn : nl - rs = 0 := by have := HRN.out; have := hmz.out; omega
    have cs6 : (w5.setCell ⟨gS, lg, none⟩ (.slice Al rs rs)).cell? ⟨gS, sd, none⟩ = some (.slice Al rs rs) := by rw [← hls]; exact World.cell?_setCell_same _ _ _ (xo_cellL T5.out.rows HE1.out).1
    have RX := Lib.hid (show ∀ W, Below w5.heap.size w5 W → RM (More (fun _ => False) V) (W.setCell ⟨gS, lg, none⟩ (.slice Al rs rs)) ⟨T1, nt1, ct1, R1, nr1, cr1, some ⟨gS, 0, none⟩, ns1, cs1⟩ (Jp.rowed r lg xl) from fun W hW => by
      have h1 := ((T5.out.step hW).ready (may_tree HM.out) HE1.out).cut (F := fun _ => False) (w0 := V) (by omega) (l := xl.take rs) (A := Al) (n := rs) (c := rs) (((HRL.out.below HB5.out).below hW).cut3 rs f4) (fun ad e => ⟨ad, e, rfl⟩)
      rwa [List.take_of_length_le (by rw [HRL.out.len]; omega)] at h1)
    have hrn := Lib.hid hrn
    have RA := Lib.hid (show ∀ W, Below w5.heap.size w5 W → Row (W.setCell ⟨gS, lg, none⟩ (.slice Al rs rs)) Al rs rs (xl.take rs) from fun W hW => row_farj (((HRL.out.below HB5.out).below hW).cut3 rs f4) (fun _ ad e => (HAL.out ad e).2))
    obtain ⟨w6, hw6⟩ : ∃ V, V = w5.setCell ⟨gS, lg, none⟩ (.slice Al rs rs) := ⟨_, rfl⟩
    have HW6 := Lib.hid hw6
    rw [← hw6] at Y6 Z6 BB6 cs6
    clear hw6
    go_wp2_with (rw [← HW6.out])
    refine wp_region_held_drew (S := fun w' => w'.cell? ⟨w1.heap.size, 3, none⟩ = some (.slice (some ⟨gS, 0, none⟩) ns1 cs1) ∧ w'.cell? ⟨gS, sd, none⟩ = some (.slice Al rs rs)) (by kernel_rfl) ⟨Y6.out.b5.c3, cs6⟩ (fun hHeld => ?_)
    have hdr := (Below.refl w6.heap.size w6).drew
    obtain ⟨w7, hw7⟩ : ∃ V, V = w6.drew := ⟨_, rfl⟩
    rw [← hw7] at hdr hHeld ⊢
    have HW7 := Lib.hid hw7
    clear hw7
    have Y7 := Lib.hid (Y6.out.step hdr)
    have Z7 := Lib.hid (Z6.out.step hdr)
    have BB7 := Lib.hid (held_trans BB6.out hdr)
    have SZ7 := hdr.size
    refine wpAnyH_takesJ (i := 0) (v := (.pointer (some ⟨w1.heap.size, 3, none⟩))) (some 48) rfl rfl (by kernel_rfl) (by kernel_rfl) (by kernel_rfl) (fun _ _ _ h => h) (Or.inl ⟨by rfl, (by intro W9 hSw; (try dsimp only at hSw); go_simp; first | done | with_reducible rfl)⟩) (by assumption) ?_
    simp only [Act.put, List.setIfInBounds_toArray]; try simp only [List.set_cons_zero, List.set_cons_succ]
    refine wpAnyH_takesJ (i := 1) (v := (.slice (some ⟨gS, 0, none⟩) ns1 cs1)) (some 49) rfl rfl (by kernel_rfl) (by kernel_rfl) (by kernel_rfl) (fun _ _ _ h => h) (Or.inl ⟨by rfl, (by intro W9 hSw; (try dsimp only at hSw); go_simp; first | done | with_reducible rfl)⟩) (by assumption) ?_
    simp only [Act.put, List.setIfInBounds_toArray]; try simp only [List.set_cons_zero, List.set_cons_succ]
    refine wpAnyH_takesJ (i := 2) (v := (.int .i64 (sd : Nat))) (some 50) rfl rfl (by kernel_rfl) (by kernel_rfl) (by kernel_rfl) (fun _ _ _ h => h) (Or.inl ⟨by rfl, (by intro W9 hSw; (try dsimp only at hSw); go_simp; first | done | with_reducible rfl)⟩) (by assumption) ?_
    simp only [Act.put, List.setIfInBounds_toArray]; try simp only [List.set_cons_zero, List.set_cons_succ]
    refine wpAnyH_takesJ (i := 3) (v := (.pointer (some ⟨w1.heap.size, 3, none⟩))) (some 51) rfl rfl (by kernel_rfl) (by kernel_rfl) (by kernel_rfl) (fun _ _ _ h => h) (Or.inl ⟨by rfl, (by intro W9 hSw; (try dsimp only at hSw); go_simp; first | done | with_reducible rfl)⟩) (by assumption) ?_
    simp only [Act.put, List.setIfInBounds_toArray]; try simp only [List.set_cons_zero, List.set_cons_succ]
    refine wpAnyH_takesJ (i := 4) (v := (.slice (some ⟨gS, 0, none⟩) ns1 cs1)) (some 52) rfl rfl (by kernel_rfl) (by kernel_rfl) (by kernel_rfl) (fun _ _ _ h => h) (Or.inl ⟨by rfl, (by intro W9 hSw; (try dsimp only at hSw); go_simp; first | done | with_reducible rfl)⟩) (by assumption) ?_
    simp only [Act.put, List.setIfInBounds_toArray]; try simp only [List.set_cons_zero, List.set_cons_succ]
    refine wpAnyH_takesJ (i := 5) (v := (.int .i64 (sd : Nat))) (some 53) rfl rfl (by kernel_rfl) (by kernel_rfl) (by kernel_rfl) (fun _ _ _ h => h) (Or.inl ⟨by rfl, (by intro W9 hSw; (try dsimp only at hSw); go_simp; first | done | with_reducible rfl)⟩) (by assumption) ?_
    simp only [Act.put, List.setIfInBounds_toArray]; try simp only [List.set_cons_zero, List.set_cons_succ]
    refine wpAnyH_takesJ (i := 6) (v := (.pointer (some ⟨gS, sd, none⟩))) (some 54) rfl rfl (by kernel_rfl) (by kernel_rfl) (by kernel_rfl) (fun _ _ _ h => h) (Or.inl ⟨by rfl, (by intro W9 hSw; (try dsimp only at hSw); go_simp; first | done | with_reducible rfl)⟩) (by assumption) ?_
    simp only [Act.put, List.setIfInBounds_toArray]; try simp only [List.set_cons_zero, List.set_cons_succ]
    refine wpAnyH_takesJ (i := 7) (v := (.slice Al rs rs)) (some 55) rfl rfl (by kernel_rfl) (by kernel_rfl) (by kernel_rfl) (fun _ _ _ h => h) (Or.inl ⟨by rfl, (by intro W9 hSw; (try dsimp only at hSw); go_simp; first | done | with_reducible rfl)⟩) (by assumption) ?_
    simp only [Act.put, List.setIfInBounds_toArray]; try simp only [List.set_cons_zero, List.set_cons_succ]
    refine wpAnyH_takesJ (i := 8) (v := (.slice Al nl cl)) (some 56) rfl rfl (by kernel_rfl) (by kernel_rfl) (by kernel_rfl) (fun _ _ _ h => h) (Or.inl ⟨by rfl, (by intro W9 hSw; (try dsimp only at hSw); go_simp; first | done | with_reducible rfl)⟩) (by assumption) ?_
    simp only [Act.put, List.setIfInBounds_toArray]; try simp only [List.set_cons_zero, List.set_cons_succ]
    refine wpAnyH_takesJ (i := 9) (v := (.int .i64 (rs : Nat))) (some 57) rfl rfl (by kernel_rfl) (by kernel_rfl) (by kernel_rfl) (fun _ _ _ h => h) (Or.inl ⟨by rfl, (by intro W9 hSw; (try dsimp only at hSw); go_simp; first | done | with_reducible rfl)⟩) (by assumption) ?_
    simp only [Act.put, List.setIfInBounds_toArray]; try simp only [List.set_cons_zero, List.set_cons_succ]
    refine wpAnyH_takesJ (i := 10) (v := (.slice Ar (nl - rs : Nat) (cl - rs : Nat))) (some 58) rfl rfl (by kernel_rfl) (by kernel_rfl) (by kernel_rfl) (fun _ _ _ h => h) (Or.inl ⟨by rfl, (by intro W9 hSw; (try dsimp only at hSw); go_simp; first | done | with_reducible rfl)⟩) (by assumption) ?_
    simp only [Act.put, List.setIfInBounds_toArray]; try simp only [List.set_cons_zero, List.set_cons_succ]
    refine wpAnyH_ready (rs := [11]) (by kernel_rfl) (by simp) ?_
    refine AllReadyH.cons rfl (fun K hK => ?_) AllReadyH.nil
    refine step_append_nobody (by rfl) (.tmp 55) (.tmp 58) (by rfl) Al rs rs (xl.take rs) (by rfl) (by rw [HW7.out, HW6.out]; exact (RA.out _ (Below.refl _ _)).drew) Ar (nl - rs) (cl - rs) hrn.out (by rfl) ?_
    have cc := keepcell hdr cs6
    have ff : w7.frozen? ⟨gS, sd, none⟩ = false := by rw [HW7.out, HW6.out, ← hls]; exact (by simpa using (xo_cellL T5.out.rows HE1.out).2)
    have MM : RM (More (fun _ => False) V) (w7.setCell ⟨gS, sd, none⟩ (.slice Al rs rs)) ⟨T1, nt1, ct1, R1, nr1, cr1, some ⟨gS, 0, none⟩, ns1, cs1⟩ (Jp.rowed r lg xl) := by
      rw [HW7.out, HW6.out, ← hls, set_twice]
      exact RX.out _ (Below.refl _ _).drew
    refine hK.out _ _ (by exact ⟨Y7.out.b5.c3, cc⟩) (fun hHeld => ?_)
    clear hK K hdr
    try dsimp only
    refine wpAnyH_takesJ (i := 12) (v := (.pointer (some ⟨gS, sd, none⟩))) (some 60) rfl rfl (by kernel_rfl) (by kernel_rfl) (by kernel_rfl) (fun _ _ _ h => h) (Or.inl ⟨by rfl, (by intro W9 hSw; (try dsimp only at hSw); go_simp; first | done | with_reducible rfl)⟩) (by assumption) ?_
    simp only [Act.put, List.setIfInBounds_toArray]; try simp only [List.set_cons_zero, List.set_cons_succ]
    refine wpAnyH_ready (rs := [13]) (by kernel_rfl) (by simp) ?_
    refine AllReadyH.cons rfl (fun K hK => ?_) AllReadyH.nil
    go_simp
    have Y9 := Y7.out.far (p := ⟨gS, sd, none⟩) (u := (.slice Al rs rs)) (by simp only; omega)
    have Z9 := Z7.out.far (p := ⟨gS, sd, none⟩) (u := (.slice Al rs rs)) (by simp only; omega)
    have BB9 := BB7.out.setCell (p := ⟨gS, sd, none⟩) (by simp only; omega) ((.slice Al rs rs))
    refine hK.out _ _ (by exact (⟨Y9.b5.c3, World.cell?_setCell_same _ _ _ cc⟩)) (fun hHeld => ?_)
    clear hK K
    try dsimp only
    refine wpAnyH_done (by kernel_rfl) ?_ _
    obtain ⟨w9, hw9⟩ : ∃ V, V = w7.setCell ⟨gS, sd, none⟩ ((.slice Al rs rs)) := ⟨_, rfl⟩
    rw [← hw9] at Y9 Z9 BB9 MM ⊢
    have HY9 := Lib.hid Y9
    have HZ9 := Lib.hid Z9
    have HF := Lib.hid (tell_yes (F := F) (w := w) (V := V) (Z := w.heap.size + 1) (e := ((mv : Nat) : Int)) (HBZ.out hmz.out) MM (by omega) (by omega) (by omega) BB9 (.slice T1 nt1 ct1) (.int .i64 r.size) (.slice R1 nr1 cr1) (.slice (some ⟨gS, 0, none⟩) ns1 cs1) (.int .u64 (r.on : Nat)))
    clear hw9 Y9 Z9 BB9 MM cc ff cs6 hHeld
    have d0 := ((HY9.out)).b5.c0
    have d1 := ((HY9.out)).b5.c1
    have d2 := ((HY9.out)).b5.c2
    have d3 := ((HY9.out)).b5.c3
    have d4 := ((HY9.out)).b5.c4
    have y0 := ((HZ9.out)).b5.c0
    have y1 := ((HZ9.out)).b5.c1
    have y2 := ((HZ9.out)).b5.c2
    have y3 := ((HZ9.out)).b5.c3
    have y4 := ((HZ9.out)).b5.c4
    have g0 := ((HZ9.out)).f0
    have g1 := ((HZ9.out)).f1
    have g2 := ((HZ9.out)).f2
    have g3 := ((HZ9.out)).f3
    have g4 := ((HZ9.out)).f4
    obtain ⟨k0, k1, k2, k3, k4⟩ := put5_told ((HZ9.out)) (.slice T1 nt1 ct1) (.int .i64 r.size) (.slice R1 nr1 cr1) (.slice (some ⟨gS, 0, none⟩) ns1 cs1) (.int .u64 (r.on : Nat))
    unfold put5 at k0 k1 k2 k3 k4
    go_wp2_with fail
    refine bodyPost_ret ?_ rfl HF.out
    first | (simp [results, Tryd.results12, go_sem, k0, k1, k2, k3, k4, jv]; done) | (simp [results, Tryd.results12, go_sem, k0, k1, k2, k3, k4, jv, Jp.rowed]; done)
  · have RD6 := Lib.hid ((T5.out.ready (may_tree HM.out) HE0.out).other hls HE1.out (l := xl.take rs) (A := Al) (n := rs) (c := rs) ((HRL.out.below HB5.out).cut3 rs f4) (fun ad e => ⟨ad, e, rfl⟩) (fun h e => h (by simp only at e; rw [e, List.take_nil])) (fun ad e => (HAL.out ad e).2))
    have RR6 := Lib.hid (row_farj (X := gS) (j := lg) (u := .slice Al rs rs) (HRS.out.below HB5.out) (fun _ ad e => HRB.out ad e))
    have cs6 := (xo_cellL RD6.out.rows RD6.out.at').1
    simp only at cs6
    obtain ⟨w6, hw6⟩ : ∃ V, V = w5.setCell ⟨gS, lg, none⟩ (.slice Al rs rs) := ⟨_, rfl⟩
    rw [← hw6] at Y6 Z6 BB6 cs6 RD6 RR6
    have HW6 := Lib.hid hw6
    clear hw6
    go_wp2_with (rw [← HW6.out])
    refine wp_region_held_drew (S := fun w' => w'.cell? ⟨w1.heap.size, 3, none⟩ = some (.slice (some ⟨gS, 0, none⟩) ns1 cs1)) (by kernel_rfl) Y6.out.b5.c3 (fun hHeld => ?_)
    have hdr := (Below.refl w6.heap.size w6).drew
    obtain ⟨w7, hw7⟩ : ∃ V, V = w6.drew := ⟨_, rfl⟩
    rw [← hw7] at hdr hHeld ⊢
    have HW7 := Lib.hid hw7
    clear hw7
    have Y7 := Lib.hid (Y6.out.step hdr)
    have Z7 := Lib.hid (Z6.out.step hdr)
    have BB7 := Lib.hid (held_trans BB6.out hdr)
    have SZ7 := hdr.size
    refine wpAnyH_takesJ (i := 0) (v := (.pointer (some ⟨w1.heap.size, 3, none⟩))) (some 48) rfl rfl (by kernel_rfl) (by kernel_rfl) (by kernel_rfl) (fun _ _ _ h => h) (Or.inl ⟨by rfl, (by intro W9 hSw; (try dsimp only at hSw); go_simp; first | done | with_reducible rfl)⟩) (by assumption) ?_
    simp only [Act.put, List.setIfInBounds_toArray]; try simp only [List.set_cons_zero, List.set_cons_succ]
    refine wpAnyH_takesJ (i := 1) (v := (.slice (some ⟨gS, 0, none⟩) ns1 cs1)) (some 49) rfl rfl (by kernel_rfl) (by kernel_rfl) (by kernel_rfl) (fun _ _ _ h => h) (Or.inl ⟨by rfl, (by intro W9 hSw; (try dsimp only at hSw); go_simp; first | done | with_reducible rfl)⟩) (by assumption) ?_
    simp only [Act.put, List.setIfInBounds_toArray]; try simp only [List.set_cons_zero, List.set_cons_succ]
    refine wpAnyH_takesJ (i := 2) (v := (.int .i64 (sd : Nat))) (some 50) rfl rfl (by kernel_rfl) (by kernel_rfl) (by kernel_rfl) (fun _ _ _ h => h) (Or.inl ⟨by rfl, (by intro W9 hSw; (try dsimp only at hSw); go_simp; first | done | with_reducible rfl)⟩) (by assumption) ?_
    simp only [Act.put, List.setIfInBounds_toArray]; try simp only [List.set_cons_zero, List.set_cons_succ]
    refine wpAnyH_takesJ (i := 3) (v := (.pointer (some ⟨w1.heap.size, 3, none⟩))) (some 51) rfl rfl (by kernel_rfl) (by kernel_rfl) (by kernel_rfl) (fun _ _ _ h => h) (Or.inl ⟨by rfl, (by intro W9 hSw; (try dsimp only at hSw); go_simp; first | done | with_reducible rfl)⟩) (by assumption) ?_
    simp only [Act.put, List.setIfInBounds_toArray]; try simp only [List.set_cons_zero, List.set_cons_succ]
    refine wpAnyH_takesJ (i := 4) (v := (.slice (some ⟨gS, 0, none⟩) ns1 cs1)) (some 52) rfl rfl (by kernel_rfl) (by kernel_rfl) (by kernel_rfl) (fun _ _ _ h => h) (Or.inl ⟨by rfl, (by intro W9 hSw; (try dsimp only at hSw); go_simp; first | done | with_reducible rfl)⟩) (by assumption) ?_
    simp only [Act.put, List.setIfInBounds_toArray]; try simp only [List.set_cons_zero, List.set_cons_succ]
    refine wpAnyH_takesJ (i := 5) (v := (.int .i64 (sd : Nat))) (some 53) rfl rfl (by kernel_rfl) (by kernel_rfl) (by kernel_rfl) (fun _ _ _ h => h) (Or.inl ⟨by rfl, (by intro W9 hSw; (try dsimp only at hSw); go_simp; first | done | with_reducible rfl)⟩) (by assumption) ?_
    simp only [Act.put, List.setIfInBounds_toArray]; try simp only [List.set_cons_zero, List.set_cons_succ]
    refine wpAnyH_takesJ (i := 6) (v := (.pointer (some ⟨gS, sd, none⟩))) (some 54) rfl rfl (by kernel_rfl) (by kernel_rfl) (by kernel_rfl) (fun _ _ _ h => h) (Or.inl ⟨by rfl, (by intro W9 hSw; (try dsimp only at hSw); go_simp; first | done | with_reducible rfl)⟩) (by assumption) ?_
    simp only [Act.put, List.setIfInBounds_toArray]; try simp only [List.set_cons_zero, List.set_cons_succ]
    refine wpAnyH_takesJ (i := 8) (v := (.slice Al nl cl)) (some 56) rfl rfl (by kernel_rfl) (by kernel_rfl) (by kernel_rfl) (fun _ _ _ h => h) (Or.inl ⟨by rfl, (by intro W9 hSw; (try dsimp only at hSw); go_simp; first | done | with_reducible rfl)⟩) (by assumption) ?_
    simp only [Act.put, List.setIfInBounds_toArray]; try simp only [List.set_cons_zero, List.set_cons_succ]
    refine wpAnyH_takesJ (i := 9) (v := (.int .i64 (rs : Nat))) (some 57) rfl rfl (by kernel_rfl) (by kernel_rfl) (by kernel_rfl) (fun _ _ _ h => h) (Or.inl ⟨by rfl, (by intro W9 hSw; (try dsimp only at hSw); go_simp; first | done | with_reducible rfl)⟩) (by assumption) ?_
    simp only [Act.put, List.setIfInBounds_toArray]; try simp only [List.set_cons_zero, List.set_cons_succ]
    refine wpAnyH_takesJ (i := 10) (v := (.slice Ar (nl - rs : Nat) (cl - rs : Nat))) (some 58) rfl rfl (by kernel_rfl) (by kernel_rfl) (by kernel_rfl) (fun _ _ _ h => h) (Or.inl ⟨by rfl, (by intro W9 hSw; (try dsimp only at hSw); go_simp; first | done | with_reducible rfl)⟩) (by assumption) ?_
    simp only [Act.put, List.setIfInBounds_toArray]; try simp only [List.set_cons_zero, List.set_cons_succ]
    have cs7 := keepcell hdr cs6
    refine wpAnyH_ready (rs := [7]) (by kernel_rfl) (by simp) ?_
    refine AllReadyH.cons rfl (fun K hK => ?_) AllReadyH.nil
    go_simp
    refine hK.out _ _ (by exact Y7.out.b5.c3) (fun hHeld => ?_)
    clear hK K
    try dsimp only
    refine wpAnyH_ready (rs := [11]) (by kernel_rfl) (by simp) ?_
    refine AllReadyH.cons rfl (fun K hK => ?_) AllReadyH.nil
    have RD7 := Lib.hid (RD6.out.step hdr)
    have R7 := Lib.hid (RR6.out.below hdr)
    refine step_append_rowat (by rfl) (.tmp 55) (.tmp 58) (by rfl) (V.heap.size + 2) (.slice Ad nd cd) nd xd (by rfl) RD7.out.ours Ar (nl - rs) (cl - rs) (xl.drop rs) (by rfl) R7.out (by omega) RD7.out.up ?_
    intro v8 w8 ho8 hg8 hat8
    obtain ⟨A8, c8, rfl⟩ := own_form ho8
    have nX : ∀ k, (Value.slice Ad nd cd).ownBlock = some k → V.heap.size + 2 ≤ k ∧ k < w1.heap.size := fun k hk => ⟨(RD7.out.ours.lt k hk).1, HQB.out k hk⟩
    have Y8 := Lib.hid (Y7.out.grown hg8 (fun e => by have := (nX _ e.symm).2; omega))
    have Z8 := Lib.hid (Z7.out.grown hg8 (fun e => by have := (nX _ e.symm).1; omega))
    have BB8 := Lib.hid (BB7.out.grown hg8 BB7.out.size (fun k hk => by have := (nX k hk).1; omega))
    have MM := RD7.out.push (F := fun _ => False) (w0 := V) (by omega) ho8 hg8 hat8
    have XX := RD7.out.rows.own.kept hg8 (by
      cases hob : (Value.slice Ad nd cd).ownBlock with
      | none => exact .inr (by simp [Value.ownBlock])
      | some k => exact .inr (RD7.out.t4 k hob))
    have cc : w8.cell? ⟨gS, sd, none⟩ = some (.slice Ad nd cd) := by
      have p4 := XX.cellAt sd (show sd < ns1 * 1 by omega)
      have p5 := flat_at csL_len _ sd _ 0 RD7.out.at' (by decide)
      rw [Nat.mul_one, Nat.add_zero] at p5
      rw [p5] at p4
      exact p4
    have ff := XX.frozenAt sd
    refine hK.out _ _ (by exact Y8.out.b5.c3) (fun hHeld => ?_)
    clear hK K hdr ho8 hg8 hat8 XX nX
    try dsimp only
    refine wpAnyH_takesJ (i := 12) (v := (.pointer (some ⟨gS, sd, none⟩))) (some 60) rfl rfl (by kernel_rfl) (by kernel_rfl) (by kernel_rfl) (fun _ _ _ h => h) (Or.inl ⟨by rfl, (by intro W9 hSw; (try dsimp only at hSw); go_simp; first | done | with_reducible rfl)⟩) (by assumption) ?_
    simp only [Act.put, List.setIfInBounds_toArray]; try simp only [List.set_cons_zero, List.set_cons_succ]
    refine wpAnyH_ready (rs := [13]) (by kernel_rfl) (by simp) ?_
    refine AllReadyH.cons rfl (fun K hK => ?_) AllReadyH.nil
    go_simp
    have Y9 := Y8.out.far (p := ⟨gS, sd, none⟩) (u := (.slice A8 (nd + (nl - rs)) c8)) (by simp only; omega)
    have Z9 := Z8.out.far (p := ⟨gS, sd, none⟩) (u := (.slice A8 (nd + (nl - rs)) c8)) (by simp only; omega)
    have BB9 := BB8.out.setCell (p := ⟨gS, sd, none⟩) (by simp only; omega) ((.slice A8 (nd + (nl - rs)) c8))
    refine hK.out _ _ (by exact (Y9.b5.c3)) (fun hHeld => ?_)
    clear hK K
    try dsimp only
    refine wpAnyH_done (by kernel_rfl) ?_ _
    obtain ⟨w9, hw9⟩ : ∃ V, V = w8.setCell ⟨gS, sd, none⟩ ((.slice A8 (nd + (nl - rs)) c8)) := ⟨_, rfl⟩
    rw [← hw9] at Y9 Z9 BB9 MM ⊢
    have HY9 := Lib.hid Y9
    have HZ9 := Lib.hid Z9
    have HF := Lib.hid (tell_yes (F := F) (w := w) (V := V) (Z := w.heap.size + 1) (e := ((mv : Nat) : Int)) (HBAL.out) MM (by omega) (by omega) (by omega) BB9 (.slice T1 nt1 ct1) (.int .i64 r.size) (.slice R1 nr1 cr1) (.slice (some ⟨gS, 0, none⟩) ns1 cs1) (.int .u64 (r.on : Nat)))
    clear hw9 Y9 Z9 BB9 MM cc ff cs6 hHeld
    have d0 := ((HY9.out)).b5.c0
    have d1 := ((HY9.out)).b5.c1
    have d2 := ((HY9.out)).b5.c2
    have d3 := ((HY9.out)).b5.c3
    have d4 := ((HY9.out)).b5.c4
    have y0 := ((HZ9.out)).b5.c0
    have y1 := ((HZ9.out)).b5.c1
    have y2 := ((HZ9.out)).b5.c2
    have y3 := ((HZ9.out)).b5.c3
    have y4 := ((HZ9.out)).b5.c4
    have g0 := ((HZ9.out)).f0
    have g1 := ((HZ9.out)).f1
    have g2 := ((HZ9.out)).f2
    have g3 := ((HZ9.out)).f3
    have g4 := ((HZ9.out)).f4
    obtain ⟨k0, k1, k2, k3, k4⟩ := put5_told ((HZ9.out)) (.slice T1 nt1 ct1) (.int .i64 r.size) (.slice R1 nr1 cr1) (.slice (some ⟨gS, 0, none⟩) ns1 cs1) (.int .u64 (r.on : Nat))
    unfold put5 at k0 k1 k2 k3 k4
    go_wp2_with fail
    refine bodyPost_ret ?_ rfl HF.out
    first | (simp [results, Tryd.results12, go_sem, k0, k1, k2, k3, k4, jv]; done) | (simp [results, Tryd.results12, go_sem, k0, k1, k2, k3, k4, jv, Jp.rowed]; done)
end Go.Proofs.YthbeldmgaioemaaDoor

