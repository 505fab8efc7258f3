/- steal.Steal, by its contract. -/
import Derived.Test.YtdohnhdjlhaaaaaGreatDoorM7
import Derived.Test.YtdohnhdjlhaaaaaGreatDoorM11
import Derived.Test.YtdohnhdjlhaaaaaGreatDoorWApart
import Derived.Test.YtdohnhdjlhaaaaaGreatDoorWIs
import Derived.Test.YtdohnhdjlhaaaaaGreatDoorWOf
namespace Go.Proofs.YtdohnhdjlhaaaaaGreatDoor
open Go.RowKit
set_option linter.unusedVariables false

set_option maxRecDepth 100000 in
set_option maxHeartbeats 2000000 in
theorem stealSteal_any {F : Nat → Prop} (d : Ad) (r : Jp.Rn) (p far : Int) (w : World) (h : RM F w d r) (hF : ∀ b, F b → b < w.heap.size) (hlow : Low r) (hp : In64 p) (hf : In64 far) (hT : Tab w) :
    Calls Tryz.prog 12 #[jv d r, .int .i64 p, .int .i64 far] w (TellJG F w (Jp.steal r p far)) := by
  obtain ⟨A0, nt, ct, R, nr, cr, S, ns, cs⟩ := d
  have H := Lib.hid h
  have HL := Lib.hid hlow
  have HTW := Lib.hid hT
  have HPI := Lib.hid hp
  have HFI := Lib.hid hf
  obtain ⟨V, hV, hX, hZ, hB, hsz⟩ := boxes2 w (.slice A0 nt ct) (.int .i64 r.size) (.slice R nr cr) (.slice S ns cs) (.int .u64 (r.on : Nat)) (.slice none 0 0) (.int .i64 0) (.slice none 0 0) (.slice none 0 0) (.int .u64 0) 33 33
  have hap := stealApart_any ⟨A0, nt, ct, R, nr, cr, S, ns, cs⟩ r V (h.below hB) hlow
  unfold jv at hap
  simp only at hap
  have AP := Lib.hid hap
  have E := Lib.hid hV
  have X0 := Lib.hid hX
  have Z0 := Lib.hid hZ
  have B0 := Lib.hid hB
  have d0 := hX.c0
  have d1 := hX.c1
  have d2 := hX.c2
  have d3 := hX.c3
  have d4 := hX.c4
  clear hV hX hZ hB hap h hlow hF hT hp hf
  unfold jv
  go_enter Tryz.func12, Tryz.ntmps12
  go_wp2_with (rw [← E.out])
  clear E
  refine AP.out.mono ?_
  rintro e w1 ⟨⟨T1, nt1, ct1, R1, nr1, cr1, S1, ns1, cs1⟩, B1', B2', B3', es, ls, rfl, htold, hb1⟩
  unfold jv
  simp only
  have hb2 := below_new w1 (.cells #[.slice T1 nt1 ct1, .int .i64 r.size, .slice R1 nr1 cr1, .slice S1 ns1 cs1, .int .u64 (r.on : Nat)] 33)
  obtain ⟨w2, hw2⟩ : ∃ w2, w2 = w1.alloc (.cells #[.slice T1 nt1 ct1, .int .i64 r.size, .slice R1 nr1 cr1, .slice S1 ns1 cs1, .int .u64 (r.on : Nat)] 33) := ⟨_, rfl⟩
  have hY := C5.new w1 (.slice T1 nt1 ct1) (.int .i64 r.size) (.slice R1 nr1 cr1) (.slice S1 ns1 cs1) (.int .u64 (r.on : Nat)) 33
  rw [← hw2] at hb2 hY
  have E2 := Lib.hid hw2
  have hb12 := hb1.trans (hb2.mono hb1.size)
  have X2 := Lib.hid (X0.out.step hb12)
  have Z2 := Lib.hid (Z0.out.step hb12)
  have BB2 := Lib.hid (held_trans B0.out hb12)
  have T2 := Lib.hid (htold.step hb2)
  have TD := Lib.hid htold
  have Y2 := Lib.hid hY
  have hs1' := hb1.size
  obtain ⟨Th, hTh⟩ : ∃ Th : Bool, (Th = true ↔ Jp.Thief r p) := by
    by_cases h : Jp.Thief r p
    · exact ⟨true, by simp [h]⟩
    · exact ⟨false, by simp [h]⟩
  have HTH := Lib.hid hTh
  have his := isThief_any ⟨A0, nt, ct, R, nr, cr, S, ns, cs⟩ r p Th w2 HTH (H.out.below BB2.out) HL.out HPI.out (HTW.out.step BB2.out)
  unfold jv at his
  simp only at his
  have IS := Lib.hid his
  have p0 := X2.out.c0
  have p1 := X2.out.c1
  have p2 := X2.out.c2
  have p3 := X2.out.c3
  have p4 := X2.out.c4
  clear hb1 hb2 hb12 hw2 hY htold his hTh X0 Z0 B0 AP d0 d1 d2 d3 d4
  go_wp2_with (rw [← E2.out])
  clear E2
  refine IS.out.mono ?_
  rintro e w3 ⟨rfl, hb3⟩
  have X3 := Lib.hid (X2.out.step hb3)
  have Z3 := Lib.hid (Z2.out.step hb3)
  have Y3 := Lib.hid (Y2.out.step hb3)
  have BB3 := Lib.hid (held_trans BB2.out hb3)
  have T3 := Lib.hid (T2.out.step hb3)
  have SZ2 := Y2.out.lt
  have SZ3 := hb3.size
  clear IS p0 p1 p2 p3 p4 X2 Z2 BB2 T2 Y2 hb3
  cases Th
  · have HP := Lib.hid (Jp.steal_no (r := r) (p := p) (far := far) (fun h => by have := HTH.out.2 h; cases this))
    have HM := Lib.hid (T3.out.rm (F := fun _ => False) (w0 := V) (by omega))
    have d0 := ((Y3.out)).b5.c0
    have d1 := ((Y3.out)).b5.c1
    have d2 := ((Y3.out)).b5.c2
    have d3 := ((Y3.out)).b5.c3
    have d4 := ((Y3.out)).b5.c4
    have y0 := ((Z3.out)).b5.c0
    have y1 := ((Z3.out)).b5.c1
    have y2 := ((Z3.out)).b5.c2
    have y3 := ((Z3.out)).b5.c3
    have y4 := ((Z3.out)).b5.c4
    have g0 := ((Z3.out)).f0
    have g1 := ((Z3.out)).f1
    have g2 := ((Z3.out)).f2
    have g3 := ((Z3.out)).f3
    have g4 := ((Z3.out)).f4
    have HF := Lib.hid (tellg (F := F) (w := w) (V := V) (Z := w.heap.size + 1) (g := 0) (k := (-1)) (HP.out) (HM.out) rfl rfl (by omega) (by omega) (by omega) (BB3.out) (.slice T1 nt1 ct1) (.int .i64 r.size) (.slice R1 nr1 cr1) (.slice S1 ns1 cs1) (.int .u64 (r.on : Nat)))
    obtain ⟨k0, k1, k2, k3, k4⟩ := put5_told ((Z3.out)) (.slice T1 nt1 ct1) (.int .i64 r.size) (.slice R1 nr1 cr1) (.slice S1 ns1 cs1) (.int .u64 (r.on : Nat))
    unfold put5 at k0 k1 k2 k3 k4
    go_wp2_with fail
    refine bodyPost_ret ?_ rfl HF.out
    first | (simp [results, Tryz.results12, go_sem, k0, k1, k2, k3, k4]; done) | (simp [results, Tryz.results12, go_sem, k0, k1, k2, k3, k4, Jp.rowed]; done)
  have HTF := Lib.hid (HTH.out.1 rfl)
  have HMAY := Lib.hid HTF.out.may
  obtain ⟨k, rfl, hk⟩ := Jp.thief_lt HTF.out
  have HST := Lib.hid (Jp.steal_on (far := far) HTF.out)
  obtain ⟨m0, hnd, hmn⟩ := Jp.node_at HMAY.out.tree (k := k) (by rw [← HMAY.out.rings]; exact hk)
  rw [← HMAY.out.rows] at hmn
  have hnr1 := TD.out.nr
  have hns1 := TD.out.ns
  simp only at hnr1 hns1
  have hk1 : k < nr1 := by omega
  have hm1 : m0 < ns1 := by omega
  have hvc := stealVict_any ⟨A0, nt, ct, R, nr, cr, S, ns, cs⟩ r (k : Int) far w3 (H.out.below BB3.out).bound (fun b hb => hb.2) HL.out HPI.out HFI.out (HTW.out.step BB3.out)
  unfold jv at hvc
  simp only at hvc
  have VC := Lib.hid hvc
  have p0 := X3.out.c0
  have p1 := X3.out.c1
  have p2 := X3.out.c2
  have p3 := X3.out.c3
  have p4 := X3.out.c4
  have HND := Lib.hid hnd
  have HNO := Lib.hid (show Jp.nodeOf r k = m0 by unfold Jp.nodeOf; rw [hnd]; rfl)
  clear hvc hnd HTH
  go_wp2_with fail
  refine VC.out.mono ?_
  rintro e w4 ⟨Av, nv, cv, rfl, hrv, hfv, hb4⟩
  have X4 := Lib.hid (X3.out.step hb4)
  have Z4 := Lib.hid (Z3.out.step hb4)
  have Y4 := Lib.hid (Y3.out.step hb4)
  have BB4 := Lib.hid (held_trans BB3.out hb4)
  have T4 := Lib.hid (T3.out.step hb4)
  have RV := Lib.hid hrv
  have FV := Lib.hid hfv
  have hlv := hrv.len
  clear VC p0 p1 p2 p3 p4 X3 Z3 BB3 T3 Y3 hb4 hrv hfv
  cases hv : Jp.victims r k far with
  | nil =>
    have HV := Lib.hid hv
    rw [hv] at hlv
    obtain rfl : nv = 0 := by rw [← hlv]; rfl
    clear hv hlv
    by_cases hfar : far < 3
    · have f1 : ¬ (3 ≤ far) := by omega
      have f2 : decide (3 ≤ far) = false := decide_eq_false f1
      have HP := Lib.hid (show Jp.steal r k far = (r, 0, -1) by rw [HST.out]; unfold Jp.stealOn; rw [HV.out]; simp only; rw [if_pos hfar])
      have HM := Lib.hid (T4.out.rm (F := fun _ => False) (w0 := V) (by omega))
      clear hfar
      have d0 := ((Y4.out)).b5.c0
      have d1 := ((Y4.out)).b5.c1
      have d2 := ((Y4.out)).b5.c2
      have d3 := ((Y4.out)).b5.c3
      have d4 := ((Y4.out)).b5.c4
      have y0 := ((Z4.out)).b5.c0
      have y1 := ((Z4.out)).b5.c1
      have y2 := ((Z4.out)).b5.c2
      have y3 := ((Z4.out)).b5.c3
      have y4 := ((Z4.out)).b5.c4
      have g0 := ((Z4.out)).f0
      have g1 := ((Z4.out)).f1
      have g2 := ((Z4.out)).f2
      have g3 := ((Z4.out)).f3
      have g4 := ((Z4.out)).f4
      have HF := Lib.hid (tellg (F := F) (w := w) (V := V) (Z := w.heap.size + 1) (g := 0) (k := (-1)) (HP.out) (HM.out) rfl rfl (by omega) (by omega) (by omega) (BB4.out) (.slice T1 nt1 ct1) (.int .i64 r.size) (.slice R1 nr1 cr1) (.slice S1 ns1 cs1) (.int .u64 (r.on : Nat)))
      obtain ⟨k0, k1, k2, k3, k4⟩ := put5_told ((Z4.out)) (.slice T1 nt1 ct1) (.int .i64 r.size) (.slice R1 nr1 cr1) (.slice S1 ns1 cs1) (.int .u64 (r.on : Nat))
      unfold put5 at k0 k1 k2 k3 k4
      go_wp2_with fail
      refine bodyPost_ret ?_ rfl HF.out
      first | (simp [results, Tryz.results12, go_sem, k0, k1, k2, k3, k4]; done) | (simp [results, Tryz.results12, go_sem, k0, k1, k2, k3, k4, Jp.rowed]; done)
    · have f1 : 3 ≤ far := by omega
      have f2 : decide (3 ≤ far) = true := decide_eq_true f1
      have HFA := Lib.hid hfar
      obtain ⟨gS, capS, eS, hgS1, hgS2, _, _⟩ := TD.out.rows.form (show 0 < ns1 by omega)
      injection eS with eS1 _ eS2
      subst eS1 eS2
      have h012 := TD.out.o01
      have h112 := TD.out.o12
      have hr64 := HL.out.rows
      have RO := Lib.hid (fun W (hb : Below w4.heap.size w4 W) => stealRow_any (F := fun _ => False) W V (T4.out.step hb) (may_tree HMAY.out) (by omega) hm1 (by omega))
      have NN := Lib.hid (fun W (hb : Below w4.heap.size w4 W) => node_any A0 nt ct r.tree (k : Int) W (Lib.hid H.out.tlen) H.out.tmax (Lib.hid H.out.fit) (((H.out.below BB4.out).below hb).tree))
      have q0 := X4.out.c0
      have q3 := Y4.out.b5.c3
      have hgSY : gS < w1.heap.size := hgS2
      clear hfar
      go_wp2_with fail
      refine wp_region_held_drew (S := fun w' => w'.cell? ⟨w.heap.size, 0, none⟩ = some (.slice A0 nt ct) ∧ w'.cell? ⟨w1.heap.size, 3, none⟩ = some (.slice (some ⟨gS, 0, none⟩) ns1 cs1)) (by kernel_rfl) ⟨q0, q3⟩ (fun hHeld => ?_)
      have hb1 := (Below.refl w4.heap.size w4).drew
      obtain ⟨x1, hx1⟩ : ∃ x1, x1 = w4.drew := ⟨_, rfl⟩
      rw [← hx1] at hb1 hHeld ⊢
      clear hx1
      refine wpAnyH_takesJ (i := 0) (v := (.pointer (some ⟨w1.heap.size, 3, none⟩))) (some 46) rfl rfl (by kernel_rfl) (by kernel_rfl) (by kernel_rfl) (fun _ _ _ h => h) (Or.inl ⟨by rfl, (by intro W9 hSw; (try dsimp only at hSw); go_simp; first | done | with_reducible rfl)⟩) (by assumption) ?_
      simp only [Act.put, List.setIfInBounds_toArray]; try simp only [List.set_cons_zero, List.set_cons_succ]
      refine wpAnyH_takesJ (i := 1) (v := (.slice (some ⟨gS, 0, none⟩) ns1 cs1)) (some 47) rfl rfl (by kernel_rfl) (by kernel_rfl) (by kernel_rfl) (fun _ _ _ h => h) (Or.inl ⟨by rfl, (by intro W9 hSw; (try dsimp only at hSw); go_simp; first | done | with_reducible rfl)⟩) (by assumption) ?_
      simp only [Act.put, List.setIfInBounds_toArray]; try simp only [List.set_cons_zero, List.set_cons_succ]
      refine wpAnyH_takesJ (i := 2) (v := (.pointer (some ⟨w.heap.size, 0, none⟩))) (some 48) rfl rfl (by kernel_rfl) (by kernel_rfl) (by kernel_rfl) (fun _ _ _ h => h) (Or.inl ⟨by rfl, (by intro W9 hSw; (try dsimp only at hSw); go_simp; first | done | with_reducible rfl)⟩) (by assumption) ?_
      simp only [Act.put, List.setIfInBounds_toArray]; try simp only [List.set_cons_zero, List.set_cons_succ]
      refine wpAnyH_takesJ (i := 3) (v := (.slice A0 nt ct)) (some 49) rfl rfl (by kernel_rfl) (by kernel_rfl) (by kernel_rfl) (fun _ _ _ h => h) (Or.inl ⟨by rfl, (by intro W9 hSw; (try dsimp only at hSw); go_simp; first | done | with_reducible rfl)⟩) (by assumption) ?_
      simp only [Act.put, List.setIfInBounds_toArray]; try simp only [List.set_cons_zero, List.set_cons_succ]
      refine wpAnyH_takesJ (i := 4) (v := (.int .i64 (k : Nat))) (some 50) rfl rfl (by kernel_rfl) (by kernel_rfl) (by kernel_rfl) (fun _ _ _ h => h) (Or.inl ⟨by rfl, (by intro W9 hSw; (try dsimp only at hSw); go_simp; first | done | with_reducible rfl)⟩) (by assumption) ?_
      simp only [Act.put, List.setIfInBounds_toArray]; try simp only [List.set_cons_zero, List.set_cons_succ]
      refine wpAnyH_ready (rs := [5]) (by kernel_rfl) (by simp) ?_
      refine AllReadyH.cons rfl (fun K hK => ?_) AllReadyH.nil
      go_simp
      go_at_call 31
      refine (NN.out _ (by exact hb1)).mono ?_
      rintro e x2 ⟨rfl, hbx⟩
      rw [HND.out]
      have hb2 := hb1.trans (hbx.mono hb1.size)
      refine hK.out _ _ (by exact ⟨keepcell hb2 q0, keepcell hb2 q3⟩) (fun hHeld => ?_)
      clear hK K hbx
      try dsimp only
      refine wpAnyH_ready (rs := [6]) (by kernel_rfl) (by simp) ?_
      refine AllReadyH.cons rfl (fun K hK => ?_) AllReadyH.nil
      go_simp
      go_at_call 30
      refine (RO.out _ (by exact hb2)).mono ?_
      rintro e x3 (⟨hfi, rfl, hbx⟩ | ⟨mm, hfi, rfl, hrg, hrm⟩)
      · have hb3 := hb2.trans (hbx.mono hb2.size)
        refine hK.out _ _ (by exact ⟨keepcell hb3 q0, keepcell hb3 q3⟩) (fun hHeld => ?_)
        clear hK K hbx
        try dsimp only
        refine wpAnyH_takesJ (i := 7) (v := (.tuple #[.int .i64 0, .bool false])) (some 45) rfl rfl (by kernel_rfl) (by kernel_rfl) (by kernel_rfl) (fun _ _ _ h => h) (Or.inl ⟨by rfl, (by intro W9 hSw; (try dsimp only at hSw); go_simp; first | done | with_reducible rfl)⟩) (by assumption) ?_
        simp only [Act.put, List.setIfInBounds_toArray]; try simp only [List.set_cons_zero, List.set_cons_succ]
        refine wpAnyH_takesJ (i := 8) (v := (.int .i64 0)) (some 53) rfl rfl (by kernel_rfl) (by kernel_rfl) (by kernel_rfl) (fun _ _ _ h => h) (Or.inl ⟨by rfl, (by intro W9 hSw; (try dsimp only at hSw); go_simp; first | done | with_reducible rfl)⟩) (by assumption) ?_
        simp only [Act.put, List.setIfInBounds_toArray]; try simp only [List.set_cons_zero, List.set_cons_succ]
        refine wpAnyH_takesJ (i := 9) (v := (.bool false)) (some 54) rfl rfl (by kernel_rfl) (by kernel_rfl) (by kernel_rfl) (fun _ _ _ h => h) (Or.inl ⟨by rfl, (by intro W9 hSw; (try dsimp only at hSw); go_simp; first | done | with_reducible rfl)⟩) (by assumption) ?_
        simp only [Act.put, List.setIfInBounds_toArray]; try simp only [List.set_cons_zero, List.set_cons_succ]
        refine wpAnyH_takesJ (i := 10) (v := (.int .i64 0)) (some 12) rfl rfl (by kernel_rfl) (by kernel_rfl) (by kernel_rfl) (fun _ _ _ h => h) (Or.inl ⟨by rfl, (by intro W9 hSw; (try dsimp only at hSw); go_simp; first | done | with_reducible rfl)⟩) (by assumption) ?_
        simp only [Act.put, List.setIfInBounds_toArray]; try simp only [List.set_cons_zero, List.set_cons_succ]
        refine wpAnyH_takesJ (i := 11) (v := (.bool false)) (some 13) rfl rfl (by kernel_rfl) (by kernel_rfl) (by kernel_rfl) (fun _ _ _ h => h) (Or.inl ⟨by rfl, (by intro W9 hSw; (try dsimp only at hSw); go_simp; first | done | with_reducible rfl)⟩) (by assumption) ?_
        simp only [Act.put, List.setIfInBounds_toArray]; try simp only [List.set_cons_zero, List.set_cons_succ]
        refine wpAnyH_done (by kernel_rfl) ?_ _
        have HP := Lib.hid (show Jp.steal r k far = (r, 0, -1) by rw [HST.out]; unfold Jp.stealOn; rw [HV.out]; simp only; rw [if_neg (by have := HFA.out; omega), HNO.out, hfi])
        have HM := Lib.hid ((T4.out.step hb3).rm (F := fun _ => False) (w0 := V) (by omega))
        have Y5 := Lib.hid (Y4.out.step hb3)
        have Z5 := Lib.hid (Z4.out.step hb3)
        have BB5 := Lib.hid (held_trans BB4.out hb3)
        clear hb1 hb2 hb3 hfi q0 q3 hHeld NN RO
        have d0 := ((Y5.out)).b5.c0
        have d1 := ((Y5.out)).b5.c1
        have d2 := ((Y5.out)).b5.c2
        have d3 := ((Y5.out)).b5.c3
        have d4 := ((Y5.out)).b5.c4
        have y0 := ((Z5.out)).b5.c0
        have y1 := ((Z5.out)).b5.c1
        have y2 := ((Z5.out)).b5.c2
        have y3 := ((Z5.out)).b5.c3
        have y4 := ((Z5.out)).b5.c4
        have g0 := ((Z5.out)).f0
        have g1 := ((Z5.out)).f1
        have g2 := ((Z5.out)).f2
        have g3 := ((Z5.out)).f3
        have g4 := ((Z5.out)).f4
        have HF := Lib.hid (tellg (F := F) (w := w) (V := V) (Z := w.heap.size + 1) (g := 0) (k := (-1)) (HP.out) (HM.out) rfl rfl (by omega) (by omega) (by omega) (BB5.out) (.slice T1 nt1 ct1) (.int .i64 r.size) (.slice R1 nr1 cr1) (.slice (some ⟨gS, 0, none⟩) ns1 cs1) (.int .u64 (r.on : Nat)))
        obtain ⟨k0, k1, k2, k3, k4⟩ := put5_told ((Z5.out)) (.slice T1 nt1 ct1) (.int .i64 r.size) (.slice R1 nr1 cr1) (.slice (some ⟨gS, 0, none⟩) ns1 cs1) (.int .u64 (r.on : Nat))
        unfold put5 at k0 k1 k2 k3 k4
        go_wp2_with fail
        refine bodyPost_ret ?_ rfl HF.out
        first | (simp [results, Tryz.results12, go_sem, k0, k1, k2, k3, k4]; done) | (simp [results, Tryz.results12, go_sem, k0, k1, k2, k3, k4, Jp.rowed]; done)
      · have q0' := hrg.cell _ _ _ (by omega) (keepcell hb2 q0)
        have q3' := hrg.cell _ _ _ (by omega) (keepcell hb2 q3)
        have HP := Lib.hid (show Jp.steal r k far = (Jp.rowed r mm (Jp.rowAt r mm).tail, (Jp.rowAt r mm).headD 0, 3) by rw [HST.out]; unfold Jp.stealOn; rw [HV.out]; simp only; rw [if_neg (by have := HFA.out; omega), HNO.out, hfi])
        obtain ⟨gg, hgg⟩ : ∃ gg, gg = (Jp.rowAt r mm).headD 0 := ⟨_, rfl⟩
        rw [← hgg] at HP ⊢
        clear hgg
        refine hK.out _ _ (by exact ⟨q0', q3'⟩) (fun hHeld => ?_)
        clear hK K
        try dsimp only
        refine wpAnyH_takesJ (i := 7) (v := (.tuple #[.int .i64 gg, .bool true])) (some 45) rfl rfl (by kernel_rfl) (by kernel_rfl) (by kernel_rfl) (fun _ _ _ h => h) (Or.inl ⟨by rfl, (by intro W9 hSw; (try dsimp only at hSw); go_simp; first | done | with_reducible rfl)⟩) (by assumption) ?_
        simp only [Act.put, List.setIfInBounds_toArray]; try simp only [List.set_cons_zero, List.set_cons_succ]
        refine wpAnyH_takesJ (i := 8) (v := (.int .i64 gg)) (some 53) rfl rfl (by kernel_rfl) (by kernel_rfl) (by kernel_rfl) (fun _ _ _ h => h) (Or.inl ⟨by rfl, (by intro W9 hSw; (try dsimp only at hSw); go_simp; first | done | with_reducible rfl)⟩) (by assumption) ?_
        simp only [Act.put, List.setIfInBounds_toArray]; try simp only [List.set_cons_zero, List.set_cons_succ]
        refine wpAnyH_takesJ (i := 9) (v := (.bool true)) (some 54) rfl rfl (by kernel_rfl) (by kernel_rfl) (by kernel_rfl) (fun _ _ _ h => h) (Or.inl ⟨by rfl, (by intro W9 hSw; (try dsimp only at hSw); go_simp; first | done | with_reducible rfl)⟩) (by assumption) ?_
        simp only [Act.put, List.setIfInBounds_toArray]; try simp only [List.set_cons_zero, List.set_cons_succ]
        refine wpAnyH_takesJ (i := 10) (v := (.int .i64 gg)) (some 12) rfl rfl (by kernel_rfl) (by kernel_rfl) (by kernel_rfl) (fun _ _ _ h => h) (Or.inl ⟨by rfl, (by intro W9 hSw; (try dsimp only at hSw); go_simp; first | done | with_reducible rfl)⟩) (by assumption) ?_
        simp only [Act.put, List.setIfInBounds_toArray]; try simp only [List.set_cons_zero, List.set_cons_succ]
        refine wpAnyH_takesJ (i := 11) (v := (.bool true)) (some 13) rfl rfl (by kernel_rfl) (by kernel_rfl) (by kernel_rfl) (fun _ _ _ h => h) (Or.inl ⟨by rfl, (by intro W9 hSw; (try dsimp only at hSw); go_simp; first | done | with_reducible rfl)⟩) (by assumption) ?_
        simp only [Act.put, List.setIfInBounds_toArray]; try simp only [List.set_cons_zero, List.set_cons_succ]
        refine wpAnyH_done (by kernel_rfl) ?_ _
        have HM := Lib.hid hrm
        have Y5 := Lib.hid (hrg.box _ _ _ _ _ _ (by omega) (Y4.out.step hb2))
        have Z5 := Lib.hid (hrg.box _ _ _ _ _ _ (by omega) (Z4.out.step hb2))
        have BB5 := Lib.hid (hrg.held _ _ (by omega) (by have := (held_trans BB4.out hb2).size; omega) (held_trans BB4.out hb2))
        clear hb1 hb2 hfi q0 q3 q0' q3' hHeld NN RO hrg hrm
        have d0 := ((Y5.out)).b5.c0
        have d1 := ((Y5.out)).b5.c1
        have d2 := ((Y5.out)).b5.c2
        have d3 := ((Y5.out)).b5.c3
        have d4 := ((Y5.out)).b5.c4
        have y0 := ((Z5.out)).b5.c0
        have y1 := ((Z5.out)).b5.c1
        have y2 := ((Z5.out)).b5.c2
        have y3 := ((Z5.out)).b5.c3
        have y4 := ((Z5.out)).b5.c4
        have g0 := ((Z5.out)).f0
        have g1 := ((Z5.out)).f1
        have g2 := ((Z5.out)).f2
        have g3 := ((Z5.out)).f3
        have g4 := ((Z5.out)).f4
        have HF := Lib.hid (tellg (F := F) (w := w) (V := V) (Z := w.heap.size + 1) (g := gg) (k := 3) (HP.out) (HM.out) rfl rfl (by omega) (by omega) (by omega) (BB5.out) (.slice T1 nt1 ct1) (.int .i64 r.size) (.slice R1 nr1 cr1) (.slice (some ⟨gS, 0, none⟩) ns1 cs1) (.int .u64 (r.on : Nat)))
        obtain ⟨k0, k1, k2, k3, k4⟩ := put5_told ((Z5.out)) (.slice T1 nt1 ct1) (.int .i64 r.size) (.slice R1 nr1 cr1) (.slice (some ⟨gS, 0, none⟩) ns1 cs1) (.int .u64 (r.on : Nat))
        unfold put5 at k0 k1 k2 k3 k4
        go_wp2_with fail
        refine bodyPost_ret ?_ rfl HF.out
        first | (simp [results, Tryz.results12, go_sem, k0, k1, k2, k3, k4]; done) | (simp [results, Tryz.results12, go_sem, k0, k1, k2, k3, k4, Jp.rowed]; done)
  | cons q l =>
    obtain ⟨_, _, ⟨j, rfl, hj⟩, hne, ha, _, _⟩ := Jp.victim_at (r := r) (p := k) (far := far) (q := q) (by rw [hv]; exact List.mem_cons_self ..)
    have hrv := RV.out
    rw [hv] at hrv hlv
    have hnv : 0 < nv := by rw [← hlv]; simp
    obtain ⟨bv, ov, rfl, hbv, hbc⟩ := hrv.cells hnv
    have v0 := hbc 0 (j : Int) rfl
    rw [Nat.add_zero] at v0
    have hfv : w3.heap.size ≤ bv := FV.out _ rfl
    obtain ⟨⟨x, l0⟩, hx⟩ : ∃ x, r.rings[j]? = some x := ⟨_, List.getElem?_eq_getElem hj⟩
    have hra := Jp.ringAt_some hx
    obtain ⟨y, t, hb⟩ := Jp.half_told (x := (x, l0)) (by rw [← hra]; exact ha)
    have hsh := Jp.half_short HMAY.out hx
    obtain ⟨gR, capR, eR, hgR1, hgR2, _, _⟩ := TD.out.own.form (show 0 < nr1 by omega)
    injection eR with eR1 _ eR2
    subst eR1 eR2
    obtain ⟨gS, capS, eS, hgS1, hgS2, _, _⟩ := TD.out.rows.form (show 0 < ns1 by omega)
    injection eS with eS1 _ eS2
    subst eS1 eS2
    obtain ⟨e0, he0⟩ : ∃ e, ls[m0]? = some e := ⟨_, List.getElem?_eq_getElem (by omega)⟩
    have hre0 : r.rows[m0]? = some e0.l := by rw [← TD.out.isl, List.getElem?_map, he0]; rfl
    have h012 := TD.out.o01
    have h112 := TD.out.o12
    have h212 := TD.out.o23
    have ST := Lib.hid (show ∀ b, b < V.heap.size ∨ w1.heap.size ≤ b → Stays gR gS e0 b from fun b h => ⟨fun e => by omega, fun e => by omega, fun e => by have := (TD.out.ours m0 e0 he0).lt b e; omega⟩)
    have hj1 : j < nr1 := by omega
    have RG := Lib.hid (fun W (hb' : Below w4.heap.size w4 W) => stealRing_any (F := fun _ => False) W V ((T4.out.step hb').ready (may_tree HMAY.out) he0) hk1 hj1 (by omega) hx (HL.out.ring (x, l0) (List.mem_of_getElem? hx)) hb hsh HMAY.out.high HND.out hm1 (HL.out.row e0.l (List.mem_of_getElem? hre0)))
    have HP := Lib.hid (show Jp.steal r k far = (Jp.ringed (Jp.ringed r j (Rp.half (x, l0)).1) k (0, t), y, Dp.far r.tree k j) by
      rw [HST.out]
      unfold Jp.stealOn
      rw [hv]
      simp only
      rw [show ((j : Int).toNat) = j from rfl, hra, hb]
      rfl)
    have n0 : (0 : Int) < (nv : Int) := by omega
    have n2 : 0 < nv := by omega
    obtain ⟨fr, hfr⟩ : ∃ fr, fr = Dp.far r.tree k j := ⟨_, rfl⟩
    rw [← hfr] at HP
    have FA := Lib.hid (fun W (hW : Below w.heap.size w W) => far_any A0 nt ct r.tree (k : Int) (j : Int) W (Lib.hid H.out.tlen) H.out.tmax (Lib.hid H.out.fit) ((H.out.below hW).tree))
    rw [← hfr] at FA
    obtain ⟨rh, hrh⟩ : ∃ rh, rh = Jp.ringed (Jp.ringed r j (Rp.half (x, l0)).1) k (0, t) := ⟨_, rfl⟩
    have hrs : rh.size = r.size ∧ rh.on = r.on := by rw [hrh]; exact ⟨rfl, rfl⟩
    rw [← hrh] at HP RG
    have HRS := Lib.hid hrs
    have HSV := BB4.out.size
    clear hv hlv hrv hbc hx hra hb hsh he0 hre0 ha hne hfr hrh hrs
    have d0 := ((Y4.out)).b5.c0
    have d1 := ((Y4.out)).b5.c1
    have d2 := ((Y4.out)).b5.c2
    have d3 := ((Y4.out)).b5.c3
    have d4 := ((Y4.out)).b5.c4
    unfold jv at RG
    simp only at RG
    go_wp2_with fail
    refine wp_region_held_drew (S := fun w' => w'.cell? ⟨w1.heap.size, 0, none⟩ = some (.slice T1 nt1 ct1) ∧ w'.cell? ⟨w1.heap.size, 1, none⟩ = some (.int .i64 r.size) ∧ w'.cell? ⟨w1.heap.size, 2, none⟩ = some (.slice (some ⟨gR, 0, none⟩) nr1 cr1) ∧ w'.cell? ⟨w1.heap.size, 3, none⟩ = some (.slice (some ⟨gS, 0, none⟩) ns1 cs1) ∧ w'.cell? ⟨w1.heap.size, 4, none⟩ = some (.int .u64 (r.on : Nat)) ∧ w'.cell? ⟨bv, ov, none⟩ = some (.int .i64 (j : Nat))) (by kernel_rfl) ⟨d0, d1, d2, d3, d4, v0⟩ (fun hHeld => ?_)
    have hb1 := (Below.refl w4.heap.size w4).drew
    obtain ⟨x1, hx1⟩ : ∃ x1, x1 = w4.drew := ⟨_, rfl⟩
    rw [← hx1] at hb1 hHeld ⊢
    clear hx1
    refine wpAnyH_takesJ (i := 0) (v := (.agg #[.slice T1 nt1 ct1, .int .i64 r.size, .slice (some ⟨gR, 0, none⟩) nr1 cr1, .slice (some ⟨gS, 0, none⟩) ns1 cs1, .int .u64 (r.on : Nat)])) (some 28) rfl rfl (by kernel_rfl) (by kernel_rfl) (by kernel_rfl) (fun _ _ _ h => h) (Or.inl ⟨by rfl, (by intro W9 hSw; (try dsimp only at hSw); go_simp; first | done | with_reducible rfl)⟩) (by assumption) ?_
    simp only [Act.put, List.setIfInBounds_toArray]; try simp only [List.set_cons_zero, List.set_cons_succ]
    refine wpAnyH_takesJ (i := 1) (v := (.int .i64 (k : Nat))) (some 29) rfl rfl (by kernel_rfl) (by kernel_rfl) (by kernel_rfl) (fun _ _ _ h => h) (Or.inl ⟨by rfl, (by intro W9 hSw; (try dsimp only at hSw); go_simp; first | done | with_reducible rfl)⟩) (by assumption) ?_
    simp only [Act.put, List.setIfInBounds_toArray]; try simp only [List.set_cons_zero, List.set_cons_succ]
    refine wpAnyH_takesJ (i := 2) (v := (.slice (some ⟨bv, ov, none⟩) nv cv)) (some 30) rfl rfl (by kernel_rfl) (by kernel_rfl) (by kernel_rfl) (fun _ _ _ h => h) (Or.inl ⟨by rfl, (by intro W9 hSw; (try dsimp only at hSw); go_simp; first | done | with_reducible rfl)⟩) (by assumption) ?_
    simp only [Act.put, List.setIfInBounds_toArray]; try simp only [List.set_cons_zero, List.set_cons_succ]
    refine wpAnyH_takesJ (i := 3) (v := (.pointer (some ⟨bv, ov, none⟩))) (some 31) rfl rfl (by kernel_rfl) (by kernel_rfl) (by kernel_rfl) (fun _ _ _ h => h) (Or.inl ⟨by rfl, (by intro W9 hSw; (try dsimp only at hSw); go_simp; first | done | with_reducible rfl)⟩) (by assumption) ?_
    simp only [Act.put, List.setIfInBounds_toArray]; try simp only [List.set_cons_zero, List.set_cons_succ]
    refine wpAnyH_takesJ (i := 4) (v := (.int .i64 (j : Nat))) (some 32) rfl rfl (by kernel_rfl) (by kernel_rfl) (by kernel_rfl) (fun _ _ _ h => h) (Or.inl ⟨by rfl, (by intro W9 hSw; (try dsimp only at hSw); go_simp; first | done | with_reducible rfl)⟩) (by assumption) ?_
    simp only [Act.put, List.setIfInBounds_toArray]; try simp only [List.set_cons_zero, List.set_cons_succ]
    refine wpAnyH_ready (rs := [5]) (by kernel_rfl) (by simp) ?_
    refine AllReadyH.cons rfl (fun K hK => ?_) AllReadyH.nil
    go_simp
    go_at_call 29
    refine (RG.out _ (by exact hb1)).mono ?_
    rintro e w5 ⟨rfl, hkp, hrm⟩
    have BB5 := Lib.hid (hkp.held _ _ (show w.heap.size ≤ V.heap.size + 2 by omega) (by have := hb1.size; omega) (held_trans BB4.out hb1))
    have Y5 := Lib.hid (hkp.box _ _ _ _ _ _ (ST.out _ (.inr (Nat.le_refl _))) (Y4.out.step hb1))
    have Z5 := Lib.hid (hkp.box _ _ _ _ _ _ (ST.out _ (.inl (by omega))) (Z4.out.step hb1))
    have q0 := hkp.cell _ _ _ (ST.out _ (.inl (by omega))) (keepcell hb1 X4.out.c0)
    have v5 := hkp.cell _ _ _ (ST.out _ (.inr (by omega))) (keepcell hb1 v0)
    have RM5 := Lib.hid hrm
    clear d0 d1 d2 d3 d4 v0 hkp hrm hb1
    have d0 := ((Y5.out)).b5.c0
    have d1 := ((Y5.out)).b5.c1
    have d2 := ((Y5.out)).b5.c2
    have d3 := ((Y5.out)).b5.c3
    have d4 := ((Y5.out)).b5.c4
    refine hK.out _ _ (by exact ⟨d0, d1, d2, d3, d4, v5⟩) (fun hHeld => ?_)
    clear hK K
    try dsimp only
    refine wpAnyH_takesJ (i := 6) (v := (.int .i64 y)) (some 11) rfl rfl (by kernel_rfl) (by kernel_rfl) (by kernel_rfl) (fun _ _ _ h => h) (Or.inl ⟨by rfl, (by intro W9 hSw; (try dsimp only at hSw); go_simp; first | done | with_reducible rfl)⟩) (by assumption) ?_
    simp only [Act.put, List.setIfInBounds_toArray]; try simp only [List.set_cons_zero, List.set_cons_succ]
    refine wpAnyH_done (by kernel_rfl) ?_ _
    clear hHeld
    go_wp2_with fail
    refine wp_region_held_drew (S := fun w' => w'.cell? ⟨w1.heap.size, 0, none⟩ = some (.slice T1 nt1 ct1) ∧ w'.cell? ⟨w1.heap.size, 1, none⟩ = some (.int .i64 r.size) ∧ w'.cell? ⟨w1.heap.size, 2, none⟩ = some (.slice (some ⟨gR, 0, none⟩) nr1 cr1) ∧ w'.cell? ⟨w1.heap.size, 3, none⟩ = some (.slice (some ⟨gS, 0, none⟩) ns1 cs1) ∧ w'.cell? ⟨w1.heap.size, 4, none⟩ = some (.int .u64 (r.on : Nat)) ∧ w'.cell? ⟨bv, ov, none⟩ = some (.int .i64 (j : Nat)) ∧ w'.cell? ⟨w.heap.size, 0, none⟩ = some (.slice A0 nt ct)) (by kernel_rfl) ⟨d0, d1, d2, d3, d4, v5, q0⟩ (fun hHeld => ?_)
    have hb1 := (Below.refl w5.heap.size w5).drew
    obtain ⟨x2, hx2⟩ : ∃ x2, x2 = w5.drew := ⟨_, rfl⟩
    rw [← hx2] at hb1 hHeld ⊢
    clear hx2
    refine wpAnyH_takesJ (i := 0) (v := (.agg #[.slice T1 nt1 ct1, .int .i64 r.size, .slice (some ⟨gR, 0, none⟩) nr1 cr1, .slice (some ⟨gS, 0, none⟩) ns1 cs1, .int .u64 (r.on : Nat)])) (some 34) rfl rfl (by kernel_rfl) (by kernel_rfl) (by kernel_rfl) (fun _ _ _ h => h) (Or.inl ⟨by rfl, (by intro W9 hSw; (try dsimp only at hSw); go_simp; first | done | with_reducible rfl)⟩) (by assumption) ?_
    simp only [Act.put, List.setIfInBounds_toArray]; try simp only [List.set_cons_zero, List.set_cons_succ]
    refine wpAnyH_takesJ (i := 1) (v := (.int .i64 y)) (some 35) rfl rfl (by kernel_rfl) (by kernel_rfl) (by kernel_rfl) (fun _ _ _ h => h) (Or.inl ⟨by rfl, (by intro W9 hSw; (try dsimp only at hSw); go_simp; first | done | with_reducible rfl)⟩) (by assumption) ?_
    simp only [Act.put, List.setIfInBounds_toArray]; try simp only [List.set_cons_zero, List.set_cons_succ]
    refine wpAnyH_takesJ (i := 2) (v := (.pointer (some ⟨w.heap.size, 0, none⟩))) (some 36) rfl rfl (by kernel_rfl) (by kernel_rfl) (by kernel_rfl) (fun _ _ _ h => h) (Or.inl ⟨by rfl, (by intro W9 hSw; (try dsimp only at hSw); go_simp; first | done | with_reducible rfl)⟩) (by assumption) ?_
    simp only [Act.put, List.setIfInBounds_toArray]; try simp only [List.set_cons_zero, List.set_cons_succ]
    refine wpAnyH_takesJ (i := 3) (v := (.slice A0 nt ct)) (some 37) rfl rfl (by kernel_rfl) (by kernel_rfl) (by kernel_rfl) (fun _ _ _ h => h) (Or.inl ⟨by rfl, (by intro W9 hSw; (try dsimp only at hSw); go_simp; first | done | with_reducible rfl)⟩) (by assumption) ?_
    simp only [Act.put, List.setIfInBounds_toArray]; try simp only [List.set_cons_zero, List.set_cons_succ]
    refine wpAnyH_takesJ (i := 4) (v := (.int .i64 (k : Nat))) (some 38) rfl rfl (by kernel_rfl) (by kernel_rfl) (by kernel_rfl) (fun _ _ _ h => h) (Or.inl ⟨by rfl, (by intro W9 hSw; (try dsimp only at hSw); go_simp; first | done | with_reducible rfl)⟩) (by assumption) ?_
    simp only [Act.put, List.setIfInBounds_toArray]; try simp only [List.set_cons_zero, List.set_cons_succ]
    refine wpAnyH_takesJ (i := 5) (v := (.slice (some ⟨bv, ov, none⟩) nv cv)) (some 39) rfl rfl (by kernel_rfl) (by kernel_rfl) (by kernel_rfl) (fun _ _ _ h => h) (Or.inl ⟨by rfl, (by intro W9 hSw; (try dsimp only at hSw); go_simp; first | done | with_reducible rfl)⟩) (by assumption) ?_
    simp only [Act.put, List.setIfInBounds_toArray]; try simp only [List.set_cons_zero, List.set_cons_succ]
    refine wpAnyH_takesJ (i := 6) (v := (.pointer (some ⟨bv, ov, none⟩))) (some 40) rfl rfl (by kernel_rfl) (by kernel_rfl) (by kernel_rfl) (fun _ _ _ h => h) (Or.inl ⟨by rfl, (by intro W9 hSw; (try dsimp only at hSw); go_simp; first | done | with_reducible rfl)⟩) (by assumption) ?_
    simp only [Act.put, List.setIfInBounds_toArray]; try simp only [List.set_cons_zero, List.set_cons_succ]
    refine wpAnyH_takesJ (i := 7) (v := (.int .i64 (j : Nat))) (some 41) rfl rfl (by kernel_rfl) (by kernel_rfl) (by kernel_rfl) (fun _ _ _ h => h) (Or.inl ⟨by rfl, (by intro W9 hSw; (try dsimp only at hSw); go_simp; first | done | with_reducible rfl)⟩) (by assumption) ?_
    simp only [Act.put, List.setIfInBounds_toArray]; try simp only [List.set_cons_zero, List.set_cons_succ]
    refine wpAnyH_ready (rs := [8]) (by kernel_rfl) (by simp) ?_
    refine AllReadyH.cons rfl (fun K hK => ?_) AllReadyH.nil
    go_simp
    go_at_call 24
    refine (FA.out _ (by exact held_trans BB5.out hb1)).mono ?_
    rintro e w6 ⟨rfl, hbx⟩
    have hb2 := hb1.trans (hbx.mono hb1.size)
    refine hK.out _ _ (by exact ⟨keepcell hb2 d0, keepcell hb2 d1, keepcell hb2 d2, keepcell hb2 d3, keepcell hb2 d4, keepcell hb2 v5, keepcell hb2 q0⟩) (fun hHeld => ?_)
    clear hK K hbx
    try dsimp only
    have Y6 := Lib.hid (Y5.out.step hb2)
    have Z6 := Lib.hid (Z5.out.step hb2)
    have BB6 := Lib.hid (held_trans BB5.out hb2)
    have RM6 := Lib.hid (RM5.out.below hb2)
    have v6 := keepcell hb2 v5
    have q6 := keepcell hb2 q0
    clear d0 d1 d2 d3 d4 v5 q0 hb1 hb2
    have y0 := Z6.out.b5.c0
    have y1 := Z6.out.b5.c1
    have y2 := Z6.out.b5.c2
    have y3 := Z6.out.b5.c3
    have y4 := Z6.out.b5.c4
    have g0 := Z6.out.f0
    have g1 := Z6.out.f1
    have g2 := Z6.out.f2
    have g3 := Z6.out.f3
    have g4 := Z6.out.f4
    refine wpAnyH_ready (rs := [9]) (by kernel_rfl) (by simp) ?_
    refine AllReadyH.cons rfl (fun K hK => ?_) AllReadyH.nil
    go_simp
    have d0 := ((Y6.out)).b5.c0
    have d1 := ((Y6.out)).b5.c1
    have d2 := ((Y6.out)).b5.c2
    have d3 := ((Y6.out)).b5.c3
    have d4 := ((Y6.out)).b5.c4
    have hYZ : w1.heap.size ≠ w.heap.size + 1 := by omega
    have hvZ : bv ≠ w.heap.size + 1 := by omega
    have hXZ : w.heap.size ≠ w.heap.size + 1 := by omega
    refine hK.out _ _ (by exact ⟨far5 hYZ d0, far5 hYZ d1, far5 hYZ d2, far5 hYZ d3, far5 hYZ d4, far5 hvZ v6, far5 hXZ q6⟩) (fun hHeld => ?_)
    clear hK K
    try dsimp only
    refine wpAnyH_takesJ (i := 10) (v := (.int .i64 y)) (some 7) rfl rfl (by kernel_rfl) (by kernel_rfl) (by kernel_rfl) (fun _ _ _ h => h) (Or.inl ⟨by rfl, (by intro W9 hSw; (try dsimp only at hSw); go_simp; first | done | with_reducible rfl)⟩) (by assumption) ?_
    simp only [Act.put, List.setIfInBounds_toArray]; try simp only [List.set_cons_zero, List.set_cons_succ]
    refine wpAnyH_takesJ (i := 11) (v := (.int .i64 fr)) (some 8) rfl rfl (by kernel_rfl) (by kernel_rfl) (by kernel_rfl) (fun _ _ _ h => h) (Or.inl ⟨by rfl, (by intro W9 hSw; (try dsimp only at hSw); go_simp; first | done | with_reducible rfl)⟩) (by assumption) ?_
    simp only [Act.put, List.setIfInBounds_toArray]; try simp only [List.set_cons_zero, List.set_cons_succ]
    refine wpAnyH_done (by kernel_rfl) ?_ _
    have HF := Lib.hid (tellg (F := F) (w := w) (V := V) (Z := w.heap.size + 1) (g := y) (k := fr) HP.out RM6.out HRS.out.1 HRS.out.2 (by omega) (by omega) (by omega) BB6.out (.slice T1 nt1 ct1) (.int .i64 r.size) (.slice (some ⟨gR, 0, none⟩) nr1 cr1) (.slice (some ⟨gS, 0, none⟩) ns1 cs1) (.int .u64 (r.on : Nat)))
    obtain ⟨k0, k1, k2, k3, k4⟩ := put5_told Z6.out (.slice T1 nt1 ct1) (.int .i64 r.size) (.slice (some ⟨gR, 0, none⟩) nr1 cr1) (.slice (some ⟨gS, 0, none⟩) ns1 cs1) (.int .u64 (r.on : Nat))
    unfold put5 at k0 k1 k2 k3 k4
    clear hHeld v6 q6 y0 y1 y2 y3 y4 g0 g1 g2 g3 g4 d0 d1 d2 d3 d4
    go_wp2_with fail
    refine bodyPost_ret ?_ rfl HF.out
    simp [results, Tryz.results12, go_sem, k0, k1, k2, k3, k4]
end Go.Proofs.YtdohnhdjlhaaaaaGreatDoor

