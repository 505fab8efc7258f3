/- plug.toRow, by its contract: who runs, and all of a ring, behind those of a row; the ring has nobody then. -/
import Derived.Test.YtcoccegmkcdeiaaDoorM12
import Derived.Test.YtcoccegmkcdeiaaDoorM1
import Derived.Test.YtcoccegmkcdeiaaDoorM5
import Derived.Test.YtcoccegmkcdeiaaDoorJRefMay
namespace Go.Proofs.YtcoccegmkcdeiaaDoor
open Go.RowKit
set_option linter.unusedVariables false

/-- Which blocks it leaves. -/
def StaysN (M g gS : Nat) (e0 : El) (b : Nat) : Prop := b < M ∧ b ≠ g ∧ b ≠ gS ∧ (Value.slice e0.A e0.n e0.c).ownBlock ≠ some b
theorem rowed_twice (r : Jp.Rn) (q : Nat) (a b : List Int) : Jp.rowed (Jp.rowed r q a) q b = Jp.rowed r q b := by
  unfold Jp.rowed
  simp only [List.set_set]
theorem row_cell {B0 q g nt ct nr cr ns cs : Nat} {T R : Option Addr} {r : Jp.Rn} {es ls : List El} {e0 : El} {W : World} (h : Ready B0 q ⟨T, nt, ct, R, nr, cr, some ⟨g, 0, none⟩, ns, cs⟩ r es ls e0 W) : W.cell? ⟨g, q, none⟩ = some (.slice e0.A e0.n e0.c) ∧ q < ns := by
  have hln : ls.length = ns := h.rows.len csL_len (by decide)
  have hqn : q < ns := by rw [← hln]; exact (List.getElem?_eq_some_iff.1 h.at').1
  have p4 := h.rows.own.cellAt q (show q < ns * 1 by omega)
  have p5 := flat_at csL_len ls q e0 0 h.at' (by decide)
  rw [Nat.mul_one, Nat.add_zero] at p5
  rw [p5] at p4
  exact ⟨p4, hqn⟩
/-- Where it stands behind a row's news. -/
structure Mid (w : World) (B0 q gR gS nt ct nr cr ns cs : Nat) (T : Option Addr) (r r1 : Jp.Rn) (C : List Int) (es : List El) (e0 e1 : El) (ls1 : List El) (W : World) : Prop where
  rd : Ready B0 q ⟨T, nt, ct, some ⟨gR, 0, none⟩, nr, cr, some ⟨gS, 0, none⟩, ns, cs⟩ r1 es ls1 e1 W
  kp : Kp (StaysN w.heap.size gR gS e0) B0 w W
  own : ∀ k, (Value.slice e1.A e1.n e1.c).ownBlock = some k → (Value.slice e0.A e0.n e0.c).ownBlock = some k ∨ w.heap.size < k
  box : B5 W w.heap.size (.slice T nt ct) (.int .i64 r.size) (.slice (some ⟨gR, 0, none⟩) nr cr) (.slice (some ⟨gS, 0, none⟩) ns cs) (.int .u64 (r.on : Nat))
  is : Jp.rowed r q (e0.l ++ C) = r1
  el : e1.l = e0.l ++ C
  few : e1.n ≤ 401
set_option maxRecDepth 100000 in
set_option maxHeartbeats 4000000 in
theorem toRow_any {F : Nat → Prop} {B0 q p gR gS nt ct nr cr ns cs : Nat} {T : Option Addr} {r : Jp.Rn} {es ls : List El} {e0 : El} {x : Int × List Int} (cur : Int) (w w0 : World) (h : Ready B0 q ⟨T, nt, ct, some ⟨gR, 0, none⟩, nr, cr, some ⟨gS, 0, none⟩, ns, cs⟩ r es ls e0 w) (hp : p < nr) (h0 : w0.heap.size ≤ B0)
    (hne : r.tree ≠ []) (hx : r.rings[p]? = some x) (hl : x.2.length ≤ 400) (hn : Dp.node r.tree p = (q : Nat)) (hen : e0.l.length ≤ 400) (hnr : nr ≤ 1000) (hns : ns ≤ 1000) :
    Calls Tryd.prog 40 #[jv ⟨T, nt, ct, some ⟨gR, 0, none⟩, nr, cr, some ⟨gS, 0, none⟩, ns, cs⟩ r, .int .i64 (p : Nat), .int .i64 cur] w fun e w' =>
      e = .returned (.tuple #[]) ∧ Kp (StaysN w.heap.size gR gS e0) B0 w w' ∧ RM (More F w0) w' ⟨T, nt, ct, some ⟨gR, 0, none⟩, nr, cr, some ⟨gS, 0, none⟩, ns, cs⟩ (Jp.ringed (Jp.rowed r q (e0.l ++ ((if cur = 0 then [] else [cur]) ++ Rp.all x))) p (0, [])) := by
  have H := Lib.hid h
  obtain ⟨ep, hep, hee⟩ : ∃ e, es[p]? = some e ∧ elG e = x := by
    have hei : (es.map elG)[p]? = some x := by rw [h.is]; exact hx
    rw [List.getElem?_map] at hei
    cases he : es[p]? with
    | none => rw [he] at hei; cases hei
    | some e => rw [he] at hei; injection hei with hei; exact ⟨e, rfl, hei⟩
  have hel : x = (ep.x, ep.l) := hee.symm
  subst hel
  obtain ⟨CC, hCC⟩ : ∃ CC : List Int, CC = (if cur = 0 then [] else [cur]) := ⟨_, rfl⟩
  rw [← hCC]
  have HCC := Lib.hid hCC
  clear hCC
  have HEP := Lib.hid hep
  have HEL := Lib.hid hl
  have HNE := Lib.hid hne
  have HEN := Lib.hid (show e0.n ≤ 400 by rw [← (h.rows.rows e0 (List.mem_of_getElem? h.at')).len]; exact hen)
  have hqn := (row_cell h).2
  obtain ⟨V, hV, hX, hB⟩ := B5.start w (.slice T nt ct) (.int .i64 r.size) (.slice (some ⟨gR, 0, none⟩) nr cr) (.slice (some ⟨gS, 0, none⟩) ns cs) (.int .u64 (r.on : Nat)) 33
  have E := Lib.hid hV
  have X0 := Lib.hid hX
  have B0' := Lib.hid hB
  have RD0 := Lib.hid (h.step hB)
  have NO := Lib.hid (node_any T nt ct r.tree p V (Lib.hid h.tlen) h.tmax (Lib.hid h.fit) (h.step hB).tree)
  rw [hn] at NO
  have d0 := hX.c0
  clear hV hX hB hep hee hx hl hne hen h hn
  unfold jv
  go_enter Tryd.func40, Tryd.ntmps40
  go_wp2_with (rw [← E.out])
  clear E
  refine NO.out.mono ?_
  rintro e w1 ⟨rfl, hb1⟩
  have X1 := Lib.hid (X0.out.step hb1)
  have K1 := Lib.hid (Kp.refl.step (P := StaysN w.heap.size gR gS e0) (B0 := B0) (held_trans B0'.out hb1))
  have RD1 := Lib.hid (RD0.out.step hb1)
  clear NO d0 X0 B0' RD0 hb1
  have i0 : (0 : Int) ≤ (q : Int) := by omega
  have i1 : (q : Int) < (ns : Int) := by omega
  have i2 : (0 : Int) ≤ (p : Int) := by omega
  have i3 : (p : Int) < (nr : Int) := by omega
  by_cases hz : cur = 0
  · have hM : Mid w B0 q gR gS nt ct nr cr ns cs T r r [] es e0 e0 ls w1 := ⟨RD1.out, K1.out, fun k hk => .inl hk, X1.out, by
      rw [List.append_nil]
      have h1 : r.rows[q]? = some e0.l := by rw [← RD1.out.isl, List.getElem?_map, RD1.out.at']; rfl
      exact Jp.rowed_same h1, (List.append_nil _).symm, by have := HEN.out; omega⟩
    obtain ⟨r1, e1, ls1, hM⟩ : ∃ r1 e1 ls1, Mid w B0 q gR gS nt ct nr cr ns cs T r r1 [] es e0 e1 ls1 w1 := ⟨_, _, _, hM⟩
    obtain ⟨wa, hwa⟩ : ∃ wa, wa = w1 := ⟨_, rfl⟩
    rw [← hwa] at hM ⊢
    have MI := Lib.hid hM
    have HC := Lib.hid (show [] = CC by rw [HCC.out, if_pos hz])
    have hzt : (cur != 0) = false := by rw [bne_eq_false_iff_eq]; exact hz
    clear hM hwa
    have HT1 := Lib.hid (show r1.tree ≠ [] by rw [← MI.out.is]; exact HNE.out)
    have Xa := Lib.hid MI.out.box
    have Ra := Lib.hid MI.out.rd
    have q3 := Xa.out.c3
    have q2 := Xa.out.c2
    have c0a := (row_cell Ra.out).1
    have r0 : wa.cell? ⟨gR, p * 2, none⟩ = some (.int .i64 ep.x) := by
      have p4 := Ra.out.own.own.cellAt (p * 2) (show p * 2 < nr * 2 by omega)
      have p5 := flat_at csG_len es p ep 0 HEP.out (by decide)
      rw [Nat.add_zero] at p5
      rw [p5] at p4
      exact p4
    have r1' : wa.cell? ⟨gR, p * 2 + 1, none⟩ = some (.slice ep.A ep.n ep.c) := by
      have p4 := Ra.out.own.own.cellAt (p * 2 + 1) (show p * 2 + 1 < nr * 2 by omega)
      have p5 := flat_at csG_len es p ep 1 HEP.out (by decide)
      rw [p5] at p4
      exact p4
    have HRW := Lib.hid (Ra.out.own.rows ep (List.mem_of_getElem? HEP.out))
    have hepn : ep.n ≤ 400 := by rw [← HRW.out.len]; exact HEL.out
    go_wp2_with fail
    refine wp_region_held_drew (S := fun w' => (w'.cell? ⟨w.heap.size, 3, none⟩ = some (.slice (some ⟨gS, 0, none⟩) ns cs) ∧ w'.cell? ⟨w.heap.size, 2, none⟩ = some (.slice (some ⟨gR, 0, none⟩) nr cr)) ∧ w'.cell? ⟨gR, p * 2, none⟩ = some (.int .i64 ep.x) ∧ w'.cell? ⟨gR, p * 2 + 1, none⟩ = some (.slice ep.A ep.n ep.c)) (by kernel_rfl) ⟨⟨q3, q2⟩, r0, r1'⟩ (fun hHeld => ?_)
    refine wpAnyH_takesJ (i := 0) (v := (.pointer (some ⟨w.heap.size, 3, none⟩))) (some 25) rfl rfl (by kernel_rfl) (by kernel_rfl) (by kernel_rfl) (fun _ _ _ h => h) (Or.inl ⟨by rfl, (by intro W9 hSw; (try dsimp only at hSw); go_simp; first | done | with_reducible rfl)⟩) (by assumption) ?_
    simp only [Act.put, List.setIfInBounds_toArray]; try simp only [List.set_cons_zero, List.set_cons_succ]
    refine wpAnyH_takesJ (i := 1) (v := (.slice (some ⟨gS, 0, none⟩) ns cs)) (some 26) rfl rfl (by kernel_rfl) (by kernel_rfl) (by kernel_rfl) (fun _ _ _ h => h) (Or.inl ⟨by rfl, (by intro W9 hSw; (try dsimp only at hSw); go_simp; first | done | with_reducible rfl)⟩) (by assumption) ?_
    simp only [Act.put, List.setIfInBounds_toArray]; try simp only [List.set_cons_zero, List.set_cons_succ]
    refine wpAnyH_takesJ (i := 2) (v := (.int .i64 (q : Nat))) (some 27) rfl rfl (by kernel_rfl) (by kernel_rfl) (by kernel_rfl) (fun _ _ _ h => h) (Or.inl ⟨by rfl, (by intro W9 hSw; (try dsimp only at hSw); go_simp; first | done | with_reducible rfl)⟩) (by assumption) ?_
    simp only [Act.put, List.setIfInBounds_toArray]; try simp only [List.set_cons_zero, List.set_cons_succ]
    refine wpAnyH_takesJ (i := 3) (v := (.pointer (some ⟨w.heap.size, 3, none⟩))) (some 28) rfl rfl (by kernel_rfl) (by kernel_rfl) (by kernel_rfl) (fun _ _ _ h => h) (Or.inl ⟨by rfl, (by intro W9 hSw; (try dsimp only at hSw); go_simp; first | done | with_reducible rfl)⟩) (by assumption) ?_
    simp only [Act.put, List.setIfInBounds_toArray]; try simp only [List.set_cons_zero, List.set_cons_succ]
    refine wpAnyH_takesJ (i := 4) (v := (.slice (some ⟨gS, 0, none⟩) ns cs)) (some 29) rfl rfl (by kernel_rfl) (by kernel_rfl) (by kernel_rfl) (fun _ _ _ h => h) (Or.inl ⟨by rfl, (by intro W9 hSw; (try dsimp only at hSw); go_simp; first | done | with_reducible rfl)⟩) (by assumption) ?_
    simp only [Act.put, List.setIfInBounds_toArray]; try simp only [List.set_cons_zero, List.set_cons_succ]
    refine wpAnyH_takesJ (i := 5) (v := (.int .i64 (q : Nat))) (some 30) rfl rfl (by kernel_rfl) (by kernel_rfl) (by kernel_rfl) (fun _ _ _ h => h) (Or.inl ⟨by rfl, (by intro W9 hSw; (try dsimp only at hSw); go_simp; first | done | with_reducible rfl)⟩) (by assumption) ?_
    simp only [Act.put, List.setIfInBounds_toArray]; try simp only [List.set_cons_zero, List.set_cons_succ]
    refine wpAnyH_takesJ (i := 6) (v := (.pointer (some ⟨gS, q, none⟩))) (some 31) rfl rfl (by kernel_rfl) (by kernel_rfl) (by kernel_rfl) (fun _ _ _ h => h) (Or.inl ⟨by rfl, (by intro W9 hSw; (try dsimp only at hSw); go_simp; first | done | with_reducible rfl)⟩) (by assumption) ?_
    simp only [Act.put, List.setIfInBounds_toArray]; try simp only [List.set_cons_zero, List.set_cons_succ]
    refine wpAnyH_takesJ (i := 8) (v := (.pointer (some ⟨w.heap.size, 2, none⟩))) (some 33) rfl rfl (by kernel_rfl) (by kernel_rfl) (by kernel_rfl) (fun _ _ _ h => h) (Or.inl ⟨by rfl, (by intro W9 hSw; (try dsimp only at hSw); go_simp; first | done | with_reducible rfl)⟩) (by assumption) ?_
    simp only [Act.put, List.setIfInBounds_toArray]; try simp only [List.set_cons_zero, List.set_cons_succ]
    refine wpAnyH_takesJ (i := 9) (v := (.slice (some ⟨gR, 0, none⟩) nr cr)) (some 34) rfl rfl (by kernel_rfl) (by kernel_rfl) (by kernel_rfl) (fun _ _ _ h => h) (Or.inl ⟨by rfl, (by intro W9 hSw; (try dsimp only at hSw); go_simp; first | done | with_reducible rfl)⟩) (by assumption) ?_
    simp only [Act.put, List.setIfInBounds_toArray]; try simp only [List.set_cons_zero, List.set_cons_succ]
    refine wpAnyH_takesJ (i := 10) (v := (.int .i64 (p : Nat))) (some 35) rfl rfl (by kernel_rfl) (by kernel_rfl) (by kernel_rfl) (fun _ _ _ h => h) (Or.inl ⟨by rfl, (by intro W9 hSw; (try dsimp only at hSw); go_simp; first | done | with_reducible rfl)⟩) (by assumption) ?_
    simp only [Act.put, List.setIfInBounds_toArray]; try simp only [List.set_cons_zero, List.set_cons_succ]
    refine wpAnyH_takesJ (i := 11) (v := (.pointer (some ⟨gR, p * 2, none⟩))) (some 36) rfl rfl (by kernel_rfl) (by kernel_rfl) (by kernel_rfl) (fun _ _ _ h => h) (Or.inl ⟨by rfl, (by intro W9 hSw; (try dsimp only at hSw); go_simp; first | done | with_reducible rfl)⟩) (by assumption) ?_
    simp only [Act.put, List.setIfInBounds_toArray]; try simp only [List.set_cons_zero, List.set_cons_succ]
    refine wpAnyH_takesJ (i := 12) (v := (.agg #[.int .i64 ep.x, .slice ep.A ep.n ep.c])) (some 37) rfl rfl (by kernel_rfl) (by kernel_rfl) (by kernel_rfl) (fun _ _ _ h => h) (Or.inl ⟨by rfl, (by intro W9 hSw; (try dsimp only at hSw); go_simp; first | done | with_reducible rfl)⟩) (by assumption) ?_
    simp only [Act.put, List.setIfInBounds_toArray]; try simp only [List.set_cons_zero, List.set_cons_succ]
    refine wpAnyH_ready (rs := [7, 13]) (by kernel_rfl) (by simp) ?_
    refine AllReadyH.cons rfl (fun K hK => ?_) (AllReadyH.cons rfl (fun K hK => ?_) AllReadyH.nil)
    · go_simp
      refine hK.out _ _ (by exact ⟨⟨q3, q2⟩, r0, r1'⟩) (fun hHeld => ?_)
      clear hK K
      try dsimp only
      refine wpAnyH_ready (rs := [13]) (by kernel_rfl) (by simp) ?_
      refine AllReadyH.cons rfl (fun K hK => ?_) AllReadyH.nil
      go_simp
      go_at_call 14
      refine (all_any ep.x ep.A ep.n ep.c ep.l wa.drew HRW.out.drew (by omega)).mono ?_
      rintro e w7 ⟨Aa, na, ca, rfl, hra, hfa, hb7d⟩
      have hb7 := below_of_drew hb7d
      have s3 := keepcell hb7 q3
      have s2 := keepcell hb7 q2
      have s0 := keepcell hb7 r0
      have s1 := keepcell hb7 r1'
      refine hK.out _ _ (by exact ⟨⟨s3, s2⟩, s0, s1⟩) (fun hHeld => ?_)
      clear hK K
      try dsimp only
      have R7 := Lib.hid (Ra.out.step hb7)
      have X7 := Lib.hid (Xa.out.step hb7)
      have K7 := Lib.hid (MI.out.kp.step hb7)
      have RA7 := Lib.hid hra
      have SZ7 := Lib.hid hb7.size
      have hna : na ≤ 401 := by
        rw [← hra.len]
        have h1 := Rp.all_length (ep.x, ep.l)
        have h2 := HEL.out
        simp only at h1 h2
        omega
      have hlt := Xa.out.lt
      have hfew := MI.out.few
      clear hra hfa hb7 hb7d
      refine wpAnyH_ready (rs := [14]) (by kernel_rfl) (by simp) ?_
      refine AllReadyH.cons rfl (fun K hK => ?_) AllReadyH.nil
      refine step_append_rowat (by rfl) (.tmp 32) (.tmp 38) (by rfl) B0 (.slice e1.A e1.n e1.c) e1.n e1.l (by rfl) R7.out.ours Aa na ca (Rp.all (ep.x, ep.l)) (by rfl) RA7.out (by omega) R7.out.up ?_
      intro v8 w8 ho8 hg8 hat8
      obtain ⟨A8, c8, rfl⟩ := own_form ho8
      have nX : ∀ k, (Value.slice e1.A e1.n e1.c).ownBlock = some k → B0 ≤ k ∧ ¬ StaysN w.heap.size gR gS e0 k ∧ k ≠ w.heap.size := fun k hk => ⟨(R7.out.ours.lt k hk).1, fun h => by
        rcases MI.out.own k hk with e | e
        · exact h.2.2.2 e
        · have := h.1; omega, fun e2 => by
        rcases MI.out.own k hk with e | e
        · have := (H.out.ours.lt k e).2; omega
        · omega⟩
      have hgS := H.out.rows.own.lt gS rfl
      have hgR := H.out.own.own.lt gR rfl
      have X8 := X7.out.grown hg8 (fun e => (nX _ e.symm).2.2 rfl)
      have K8 := (K7.out.grown hg8 (fun k hk => ⟨(nX k hk).1, (nX k hk).2.1⟩)).set (j := q) (u := .slice A8 (e1.n + na) c8) hgS.1 (fun h => h.2.2.1 rfl)
      have R8 := R7.out.more HT1.out ho8 hg8 hat8
      have XX := Lib.hid (R7.out.rows.own.kept hg8 (by
        cases hob : (Value.slice e1.A e1.n e1.c).ownBlock with
        | none => exact .inr (by simp [Value.ownBlock])
        | some k => exact .inr (R7.out.t4 k hob)))
      have GG := R7.out.own.own.kept hg8 (by
        cases hob : (Value.slice e1.A e1.n e1.c).ownBlock with
        | none => exact .inr (by simp [Value.ownBlock])
        | some k => exact .inr (R7.out.t2 k hob))
      have g0 : w8.cell? ⟨gR, p * 2, none⟩ = some (.int .i64 ep.x) := by
        have p4 := GG.cellAt (p * 2) (show p * 2 < nr * 2 by omega)
        have p5 := flat_at csG_len es p ep 0 HEP.out (by decide)
        rw [Nat.add_zero] at p5
        rw [p5] at p4
        exact p4
      have g1 : w8.cell? ⟨gR, p * 2 + 1, none⟩ = some (.slice ep.A ep.n ep.c) := by
        have p4 := GG.cellAt (p * 2 + 1) (show p * 2 + 1 < nr * 2 by omega)
        have p5 := flat_at csG_len es p ep 1 HEP.out (by decide)
        rw [p5] at p4
        exact p4
      have y3 := X8.c3
      have y2 := X8.c2
      refine hK.out _ _ (by exact ⟨⟨y3, y2⟩, g0, g1⟩) (fun hHeld => ?_)
      clear hK K
      try dsimp only
      refine wpAnyH_takesJ (i := 15) (v := (.pointer (some ⟨gS, q, none⟩))) (some 40) rfl rfl (by kernel_rfl) (by kernel_rfl) (by kernel_rfl) (fun _ _ _ h => h) (Or.inl ⟨by rfl, (by intro W9 hSw; (try dsimp only at hSw); go_simp; first | done | with_reducible rfl)⟩) (by assumption) ?_
      simp only [Act.put, List.setIfInBounds_toArray]; try simp only [List.set_cons_zero, List.set_cons_succ]
      have cc : w8.cell? ⟨gS, q, none⟩ = some (.slice e1.A e1.n e1.c) := by
        have p4 := XX.out.cellAt q (show q < ns * 1 by omega)
        have p5 := flat_at csL_len ls1 q e1 0 R7.out.at' (by decide)
        rw [Nat.mul_one, Nat.add_zero] at p5
        rw [p5] at p4
        exact p4
      have ff := XX.out.frozenAt q
      refine wpAnyH_ready (rs := [16]) (by kernel_rfl) (by simp) ?_
      refine AllReadyH.cons rfl (fun K hK => ?_) AllReadyH.nil
      go_simp
      have hRS : gR ≠ gS := fun e => R7.out.r2 gR rfl (by rw [e]; rfl)
      have X9 := X8.far (p := ⟨gS, q, none⟩) (u := .slice A8 (e1.n + na) c8) (by simp only; omega)
      have g0 := farcell (j := q) (u := .slice A8 (e1.n + na) c8) hRS g0
      have g1 := farcell (j := q) (u := .slice A8 (e1.n + na) c8) hRS g1
      have y3 := X9.c3
      have y2 := X9.c2
      refine hK.out _ _ (by exact ⟨⟨y3, y2⟩, g0, g1⟩) (fun hHeld => ?_)
      clear hK K
      try dsimp only
      refine wpAnyH_done (by kernel_rfl) ?_ _
      obtain ⟨w9, hw9⟩ : ∃ W6, W6 = w8.setCell ⟨gS, q, none⟩ (.slice A8 (e1.n + na) c8) := ⟨_, rfl⟩
      rw [← hw9] at X9 g0 g1 K8 R8 y2 y3 ⊢
      have hRI := R8.ring (p := p) (x := (0, [])) (A := none) (n := 0) (c := 0) (by omega) ⟨rfl, Nat.le_refl _, by omega, (fun _ => rfl), (fun i z hi => by simp at hi)⟩ (B := w9.heap.size) (fun ad h => by cases h) R8.up (R8.own.own.lt gR rfl).2 (fun k hk => (R8.ours.lt k hk).2) (fun k hk => (R8.rows.own.lt k hk).2)
      have hKF := (K8.set (j := p * 2) (u := .int .i64 0) hgR.1 (fun h => h.2.1 rfl)).set (j := p * 2 + 1) (u := .slice none 0 0) hgR.1 (fun h => h.2.1 rfl)
      have f0 := R8.own.own.frozenAt (p * 2)
      have f1 := R8.own.own.frozenAt (p * 2 + 1)
      have KF := Lib.hid hKF
      have RI := Lib.hid hRI
      have HIS := Lib.hid (show Jp.ringed (Jp.rowed r1 q (e1.l ++ Rp.all (ep.x, ep.l))) p (0, []) = Jp.ringed (Jp.rowed r q (e0.l ++ (CC ++ Rp.all (ep.x, ep.l)))) p (0, []) by
        rw [← MI.out.is, MI.out.el, rowed_twice, ← HC.out, List.append_assoc])
      clear hw9 cc ff XX GG R8 K8 X8 ho8 hg8 hat8 nX hRI hKF y3 s3 s2 s0 s1 R7 X7 K7 RA7
      go_wp2_with fail
      go_end0
      exact ⟨rfl, KF.out, by rw [← HIS.out]; exact RI.out.rm h0⟩
    · go_simp
      go_at_call 14
      refine (all_any ep.x ep.A ep.n ep.c ep.l wa.drew HRW.out.drew (by omega)).mono ?_
      rintro e w7 ⟨Aa, na, ca, rfl, hra, hfa, hb7d⟩
      have hb7 := below_of_drew hb7d
      have s3 := keepcell hb7 q3
      have s2 := keepcell hb7 q2
      have s0 := keepcell hb7 r0
      have s1 := keepcell hb7 r1'
      refine hK.out _ _ (by exact ⟨⟨s3, s2⟩, s0, s1⟩) (fun hHeld => ?_)
      clear hK K
      try dsimp only
      have c7 := keepcell hb7 c0a
      refine wpAnyH_ready (rs := [7]) (by kernel_rfl) (by simp) ?_
      refine AllReadyH.cons rfl (fun K hK => ?_) AllReadyH.nil
      go_simp
      refine hK.out _ _ (by exact ⟨⟨s3, s2⟩, s0, s1⟩) (fun hHeld => ?_)
      clear hK K
      try dsimp only
      have R7 := Lib.hid (Ra.out.step hb7)
      have X7 := Lib.hid (Xa.out.step hb7)
      have K7 := Lib.hid (MI.out.kp.step hb7)
      have RA7 := Lib.hid hra
      have SZ7 := Lib.hid hb7.size
      have hna : na ≤ 401 := by
        rw [← hra.len]
        have h1 := Rp.all_length (ep.x, ep.l)
        have h2 := HEL.out
        simp only at h1 h2
        omega
      have hlt := Xa.out.lt
      have hfew := MI.out.few
      clear hra hfa hb7 hb7d
      refine wpAnyH_ready (rs := [14]) (by kernel_rfl) (by simp) ?_
      refine AllReadyH.cons rfl (fun K hK => ?_) AllReadyH.nil
      refine step_append_rowat (by rfl) (.tmp 32) (.tmp 38) (by rfl) B0 (.slice e1.A e1.n e1.c) e1.n e1.l (by rfl) R7.out.ours Aa na ca (Rp.all (ep.x, ep.l)) (by rfl) RA7.out (by omega) R7.out.up ?_
      intro v8 w8 ho8 hg8 hat8
      obtain ⟨A8, c8, rfl⟩ := own_form ho8
      have nX : ∀ k, (Value.slice e1.A e1.n e1.c).ownBlock = some k → B0 ≤ k ∧ ¬ StaysN w.heap.size gR gS e0 k ∧ k ≠ w.heap.size := fun k hk => ⟨(R7.out.ours.lt k hk).1, fun h => by
        rcases MI.out.own k hk with e | e
        · exact h.2.2.2 e
        · have := h.1; omega, fun e2 => by
        rcases MI.out.own k hk with e | e
        · have := (H.out.ours.lt k e).2; omega
        · omega⟩
      have hgS := H.out.rows.own.lt gS rfl
      have hgR := H.out.own.own.lt gR rfl
      have X8 := X7.out.grown hg8 (fun e => (nX _ e.symm).2.2 rfl)
      have K8 := (K7.out.grown hg8 (fun k hk => ⟨(nX k hk).1, (nX k hk).2.1⟩)).set (j := q) (u := .slice A8 (e1.n + na) c8) hgS.1 (fun h => h.2.2.1 rfl)
      have R8 := R7.out.more HT1.out ho8 hg8 hat8
      have XX := Lib.hid (R7.out.rows.own.kept hg8 (by
        cases hob : (Value.slice e1.A e1.n e1.c).ownBlock with
        | none => exact .inr (by simp [Value.ownBlock])
        | some k => exact .inr (R7.out.t4 k hob)))
      have GG := R7.out.own.own.kept hg8 (by
        cases hob : (Value.slice e1.A e1.n e1.c).ownBlock with
        | none => exact .inr (by simp [Value.ownBlock])
        | some k => exact .inr (R7.out.t2 k hob))
      have g0 : w8.cell? ⟨gR, p * 2, none⟩ = some (.int .i64 ep.x) := by
        have p4 := GG.cellAt (p * 2) (show p * 2 < nr * 2 by omega)
        have p5 := flat_at csG_len es p ep 0 HEP.out (by decide)
        rw [Nat.add_zero] at p5
        rw [p5] at p4
        exact p4
      have g1 : w8.cell? ⟨gR, p * 2 + 1, none⟩ = some (.slice ep.A ep.n ep.c) := by
        have p4 := GG.cellAt (p * 2 + 1) (show p * 2 + 1 < nr * 2 by omega)
        have p5 := flat_at csG_len es p ep 1 HEP.out (by decide)
        rw [p5] at p4
        exact p4
      have y3 := X8.c3
      have y2 := X8.c2
      refine hK.out _ _ (by exact ⟨⟨y3, y2⟩, g0, g1⟩) (fun hHeld => ?_)
      clear hK K
      try dsimp only
      refine wpAnyH_takesJ (i := 15) (v := (.pointer (some ⟨gS, q, none⟩))) (some 40) rfl rfl (by kernel_rfl) (by kernel_rfl) (by kernel_rfl) (fun _ _ _ h => h) (Or.inl ⟨by rfl, (by intro W9 hSw; (try dsimp only at hSw); go_simp; first | done | with_reducible rfl)⟩) (by assumption) ?_
      simp only [Act.put, List.setIfInBounds_toArray]; try simp only [List.set_cons_zero, List.set_cons_succ]
      have cc : w8.cell? ⟨gS, q, none⟩ = some (.slice e1.A e1.n e1.c) := by
        have p4 := XX.out.cellAt q (show q < ns * 1 by omega)
        have p5 := flat_at csL_len ls1 q e1 0 R7.out.at' (by decide)
        rw [Nat.mul_one, Nat.add_zero] at p5
        rw [p5] at p4
        exact p4
      have ff := XX.out.frozenAt q
      refine wpAnyH_ready (rs := [16]) (by kernel_rfl) (by simp) ?_
      refine AllReadyH.cons rfl (fun K hK => ?_) AllReadyH.nil
      go_simp
      have hRS : gR ≠ gS := fun e => R7.out.r2 gR rfl (by rw [e]; rfl)
      have X9 := X8.far (p := ⟨gS, q, none⟩) (u := .slice A8 (e1.n + na) c8) (by simp only; omega)
      have g0 := farcell (j := q) (u := .slice A8 (e1.n + na) c8) hRS g0
      have g1 := farcell (j := q) (u := .slice A8 (e1.n + na) c8) hRS g1
      have y3 := X9.c3
      have y2 := X9.c2
      refine hK.out _ _ (by exact ⟨⟨y3, y2⟩, g0, g1⟩) (fun hHeld => ?_)
      clear hK K
      try dsimp only
      refine wpAnyH_done (by kernel_rfl) ?_ _
      obtain ⟨w9, hw9⟩ : ∃ W6, W6 = w8.setCell ⟨gS, q, none⟩ (.slice A8 (e1.n + na) c8) := ⟨_, rfl⟩
      rw [← hw9] at X9 g0 g1 K8 R8 y2 y3 ⊢
      have hRI := R8.ring (p := p) (x := (0, [])) (A := none) (n := 0) (c := 0) (by omega) ⟨rfl, Nat.le_refl _, by omega, (fun _ => rfl), (fun i z hi => by simp at hi)⟩ (B := w9.heap.size) (fun ad h => by cases h) R8.up (R8.own.own.lt gR rfl).2 (fun k hk => (R8.ours.lt k hk).2) (fun k hk => (R8.rows.own.lt k hk).2)
      have hKF := (K8.set (j := p * 2) (u := .int .i64 0) hgR.1 (fun h => h.2.1 rfl)).set (j := p * 2 + 1) (u := .slice none 0 0) hgR.1 (fun h => h.2.1 rfl)
      have f0 := R8.own.own.frozenAt (p * 2)
      have f1 := R8.own.own.frozenAt (p * 2 + 1)
      have KF := Lib.hid hKF
      have RI := Lib.hid hRI
      have HIS := Lib.hid (show Jp.ringed (Jp.rowed r1 q (e1.l ++ Rp.all (ep.x, ep.l))) p (0, []) = Jp.ringed (Jp.rowed r q (e0.l ++ (CC ++ Rp.all (ep.x, ep.l)))) p (0, []) by
        rw [← MI.out.is, MI.out.el, rowed_twice, ← HC.out, List.append_assoc])
      clear hw9 cc ff XX GG R8 K8 X8 ho8 hg8 hat8 nX hRI hKF y3 s3 s2 s0 s1 R7 X7 K7 RA7
      go_wp2_with fail
      go_end0
      exact ⟨rfl, KF.out, by rw [← HIS.out]; exact RI.out.rm h0⟩
  · have c0 := (row_cell RD1.out).1
    have hzt : (cur != 0) = true := by rw [bne_iff_ne]; exact hz
    have q3 := X1.out.c3
    go_wp2_with fail
    refine wp_region_held_drew (S := fun w' => w'.cell? ⟨w.heap.size, 3, none⟩ = some (.slice (some ⟨gS, 0, none⟩) ns cs)) (by kernel_rfl) q3 (fun hHeld => ?_)
    refine wpAnyH_takesJ (i := 0) (v := (.pointer (some ⟨w.heap.size, 3, none⟩))) (some 13) rfl rfl (by kernel_rfl) (by kernel_rfl) (by kernel_rfl) (fun _ _ _ h => h) (Or.inl ⟨by rfl, (by intro W9 hSw; (try dsimp only at hSw); go_simp; first | done | with_reducible rfl)⟩) (by assumption) ?_
    simp only [Act.put, List.setIfInBounds_toArray]; try simp only [List.set_cons_zero, List.set_cons_succ]
    refine wpAnyH_takesJ (i := 1) (v := (.slice (some ⟨gS, 0, none⟩) ns cs)) (some 14) rfl rfl (by kernel_rfl) (by kernel_rfl) (by kernel_rfl) (fun _ _ _ h => h) (Or.inl ⟨by rfl, (by intro W9 hSw; (try dsimp only at hSw); go_simp; first | done | with_reducible rfl)⟩) (by assumption) ?_
    simp only [Act.put, List.setIfInBounds_toArray]; try simp only [List.set_cons_zero, List.set_cons_succ]
    refine wpAnyH_takesJ (i := 2) (v := (.int .i64 (q : Nat))) (some 15) rfl rfl (by kernel_rfl) (by kernel_rfl) (by kernel_rfl) (fun _ _ _ h => h) (Or.inl ⟨by rfl, (by intro W9 hSw; (try dsimp only at hSw); go_simp; first | done | with_reducible rfl)⟩) (by assumption) ?_
    simp only [Act.put, List.setIfInBounds_toArray]; try simp only [List.set_cons_zero, List.set_cons_succ]
    refine wpAnyH_takesJ (i := 3) (v := (.pointer (some ⟨w.heap.size, 3, none⟩))) (some 16) rfl rfl (by kernel_rfl) (by kernel_rfl) (by kernel_rfl) (fun _ _ _ h => h) (Or.inl ⟨by rfl, (by intro W9 hSw; (try dsimp only at hSw); go_simp; first | done | with_reducible rfl)⟩) (by assumption) ?_
    simp only [Act.put, List.setIfInBounds_toArray]; try simp only [List.set_cons_zero, List.set_cons_succ]
    refine wpAnyH_takesJ (i := 4) (v := (.slice (some ⟨gS, 0, none⟩) ns cs)) (some 17) rfl rfl (by kernel_rfl) (by kernel_rfl) (by kernel_rfl) (fun _ _ _ h => h) (Or.inl ⟨by rfl, (by intro W9 hSw; (try dsimp only at hSw); go_simp; first | done | with_reducible rfl)⟩) (by assumption) ?_
    simp only [Act.put, List.setIfInBounds_toArray]; try simp only [List.set_cons_zero, List.set_cons_succ]
    refine wpAnyH_takesJ (i := 5) (v := (.int .i64 (q : Nat))) (some 18) rfl rfl (by kernel_rfl) (by kernel_rfl) (by kernel_rfl) (fun _ _ _ h => h) (Or.inl ⟨by rfl, (by intro W9 hSw; (try dsimp only at hSw); go_simp; first | done | with_reducible rfl)⟩) (by assumption) ?_
    simp only [Act.put, List.setIfInBounds_toArray]; try simp only [List.set_cons_zero, List.set_cons_succ]
    refine wpAnyH_takesJ (i := 6) (v := (.pointer (some ⟨gS, q, none⟩))) (some 19) rfl rfl (by kernel_rfl) (by kernel_rfl) (by kernel_rfl) (fun _ _ _ h => h) (Or.inl ⟨by rfl, (by intro W9 hSw; (try dsimp only at hSw); go_simp; first | done | with_reducible rfl)⟩) (by assumption) ?_
    simp only [Act.put, List.setIfInBounds_toArray]; try simp only [List.set_cons_zero, List.set_cons_succ]
    refine wpAnyH_takesJ (i := 8) (v := (.int .i64 cur)) (some 21) rfl rfl (by kernel_rfl) (by kernel_rfl) (by kernel_rfl) (fun _ _ _ h => h) (Or.inl ⟨by rfl, (by intro W9 hSw; (try dsimp only at hSw); go_simp; first | done | with_reducible rfl)⟩) (by assumption) ?_
    simp only [Act.put, List.setIfInBounds_toArray]; try simp only [List.set_cons_zero, List.set_cons_succ]
    refine wpAnyH_ready (rs := [7, 9]) (by kernel_rfl) (by simp) ?_
    refine AllReadyH.cons rfl (fun K hK => ?_) (AllReadyH.cons rfl (fun K hK => ?_) AllReadyH.nil)
    · go_simp
      refine hK.out _ _ (by exact q3) (fun hHeld => ?_)
      clear hK K
      try dsimp only
      refine wpAnyH_ready (rs := [9]) (by kernel_rfl) (by simp) ?_
      refine AllReadyH.cons rfl (fun K hK => ?_) AllReadyH.nil
      go_simp
      have hb4 : Below w1.heap.size w1 (w1.alloc (.cells #[.int .i64 cur] 3)).drew := (below_new w1 _).drew
      have R4 := Lib.hid (row_at w1 cur _ rfl).drew
      obtain ⟨w4, hw4⟩ : ∃ w4, w4 = (w1.alloc (.cells #[.int .i64 cur] 3)).drew := ⟨_, rfl⟩
      rw [← hw4] at hb4 R4
      rw [← hw4]
      clear hw4
      have X4 := Lib.hid (X1.out.step hb4)
      have K4 := Lib.hid (K1.out.step hb4)
      have RD4 := Lib.hid (RD1.out.step hb4)
      have c4 := keepcell hb4 c0
      have SZ4 := Lib.hid hb4.size
      refine hK.out _ _ (by exact X4.out.c3) (fun hHeld => ?_)
      clear hK K hb4
      try dsimp only
      refine wpAnyH_ready (rs := [10]) (by kernel_rfl) (by simp) ?_
      refine AllReadyH.cons rfl (fun K hK => ?_) AllReadyH.nil
      refine step_append_rowat (by rfl) (.tmp 20) (.tmp 22) (by rfl) B0 (.slice e0.A e0.n e0.c) e0.n e0.l (by rfl) RD4.out.ours (some ⟨w1.heap.size, 0, none⟩) 1 1 [cur] (by rfl) R4.out (by have := HEN.out; omega) RD4.out.up ?_
      intro v5 w5 ho5 hg5 hat5
      obtain ⟨A5, c5, rfl⟩ := own_form ho5
      have nX : ∀ k, (Value.slice e0.A e0.n e0.c).ownBlock = some k → B0 ≤ k ∧ k < w.heap.size := fun k hk => H.out.ours.lt k hk
      have hgS := H.out.rows.own.lt gS rfl
      have X5 := X4.out.grown hg5 (fun e => by have := (nX _ e.symm).2; omega)
      have K5 := (K4.out.grown hg5 (fun k hk => ⟨(nX k hk).1, fun h => h.2.2.2 hk⟩)).set (j := q) (u := .slice A5 (e0.n + 1) c5) hgS.1 (fun h => h.2.2.1 rfl)
      have RD5 := RD4.out.more HNE.out ho5 hg5 hat5
      have XX := Lib.hid (RD4.out.rows.own.kept hg5 (by
        cases hob : (Value.slice e0.A e0.n e0.c).ownBlock with
        | none => exact .inr (by simp [Value.ownBlock])
        | some k => exact .inr (RD4.out.t4 k hob)))
      have hX3 := X5.c3
      refine hK.out _ _ (by exact hX3) (fun hHeld => ?_)
      clear hK K
      try dsimp only
      refine wpAnyH_takesJ (i := 11) (v := (.pointer (some ⟨gS, q, none⟩))) (some 24) rfl rfl (by kernel_rfl) (by kernel_rfl) (by kernel_rfl) (fun _ _ _ h => h) (Or.inl ⟨by rfl, (by intro W9 hSw; (try dsimp only at hSw); go_simp; first | done | with_reducible rfl)⟩) (by assumption) ?_
      simp only [Act.put, List.setIfInBounds_toArray]; try simp only [List.set_cons_zero, List.set_cons_succ]
      have cc : w5.cell? ⟨gS, q, none⟩ = some (.slice e0.A e0.n e0.c) := by
        have p4 := XX.out.cellAt q (show q < ns * 1 by omega)
        have p5 := flat_at csL_len ls q e0 0 RD4.out.at' (by decide)
        rw [Nat.mul_one, Nat.add_zero] at p5
        rw [p5] at p4
        exact p4
      have ff := XX.out.frozenAt q
      refine wpAnyH_ready (rs := [12]) (by kernel_rfl) (by simp) ?_
      refine AllReadyH.cons rfl (fun K hK => ?_) AllReadyH.nil
      go_simp
      have X6 := X5.far (p := ⟨gS, q, none⟩) (u := .slice A5 (e0.n + 1) c5) (by simp only; omega)
      have hX3 := X6.c3
      refine hK.out _ _ (by exact hX3) (fun hHeld => ?_)
      clear hK K
      try dsimp only
      refine wpAnyH_done (by kernel_rfl) ?_ _
      have hM : Mid w B0 q gR gS nt ct nr cr ns cs T r (Jp.rowed r q (e0.l ++ [cur])) [cur] es e0 ⟨e0.x, e0.l ++ [cur], A5, e0.n + 1, c5⟩ (ls.set q ⟨e0.x, e0.l ++ [cur], A5, e0.n + 1, c5⟩) (w5.setCell ⟨gS, q, none⟩ (.slice A5 (e0.n + 1) c5)) :=
        ⟨RD5, K5, fun k hk => by
          rcases hat5 with e | e
          · exact .inl (by rw [← e]; exact hk)
          · exact .inr (by have := hk.symm.trans e; injection this with this; have := SZ4.out; have := X1.out.lt; omega), X6, rfl, rfl, by have := HEN.out; simp only; omega⟩
      obtain ⟨wa, hwa⟩ : ∃ W6, W6 = w5.setCell ⟨gS, q, none⟩ (.slice A5 (e0.n + 1) c5) := ⟨_, rfl⟩
      obtain ⟨r1, hr1⟩ : ∃ r1, r1 = Jp.rowed r q (e0.l ++ [cur]) := ⟨_, rfl⟩
      obtain ⟨e1, he1⟩ : ∃ e1, e1 = (⟨e0.x, e0.l ++ [cur], A5, e0.n + 1, c5⟩ : El) := ⟨_, rfl⟩
      rw [← hwa, ← hr1, ← he1] at hM
      rw [← hwa]
      obtain ⟨ls1, hls1⟩ : ∃ ls1, ls1 = ls.set q e1 := ⟨_, rfl⟩
      rw [← hls1] at hM
      have MI := Lib.hid hM
      have HC := Lib.hid (show [cur] = CC by rw [HCC.out, if_neg hz])
      clear hwa hr1 he1 hls1 hM cc ff X5 K5 RD5 XX X6 hX3 ho5 hg5 hat5 X4 K4 RD4 c4 SZ4 R4
      have HT1 := Lib.hid (show r1.tree ≠ [] by rw [← MI.out.is]; exact HNE.out)
      have Xa := Lib.hid MI.out.box
      have Ra := Lib.hid MI.out.rd
      have q3 := Xa.out.c3
      have q2 := Xa.out.c2
      have c0a := (row_cell Ra.out).1
      have r0 : wa.cell? ⟨gR, p * 2, none⟩ = some (.int .i64 ep.x) := by
        have p4 := Ra.out.own.own.cellAt (p * 2) (show p * 2 < nr * 2 by omega)
        have p5 := flat_at csG_len es p ep 0 HEP.out (by decide)
        rw [Nat.add_zero] at p5
        rw [p5] at p4
        exact p4
      have r1' : wa.cell? ⟨gR, p * 2 + 1, none⟩ = some (.slice ep.A ep.n ep.c) := by
        have p4 := Ra.out.own.own.cellAt (p * 2 + 1) (show p * 2 + 1 < nr * 2 by omega)
        have p5 := flat_at csG_len es p ep 1 HEP.out (by decide)
        rw [p5] at p4
        exact p4
      have HRW := Lib.hid (Ra.out.own.rows ep (List.mem_of_getElem? HEP.out))
      have hepn : ep.n ≤ 400 := by rw [← HRW.out.len]; exact HEL.out
      go_wp2_with fail
      refine wp_region_held_drew (S := fun w' => (w'.cell? ⟨w.heap.size, 3, none⟩ = some (.slice (some ⟨gS, 0, none⟩) ns cs) ∧ w'.cell? ⟨w.heap.size, 2, none⟩ = some (.slice (some ⟨gR, 0, none⟩) nr cr)) ∧ w'.cell? ⟨gR, p * 2, none⟩ = some (.int .i64 ep.x) ∧ w'.cell? ⟨gR, p * 2 + 1, none⟩ = some (.slice ep.A ep.n ep.c)) (by kernel_rfl) ⟨⟨q3, q2⟩, r0, r1'⟩ (fun hHeld => ?_)
      refine wpAnyH_takesJ (i := 0) (v := (.pointer (some ⟨w.heap.size, 3, none⟩))) (some 25) rfl rfl (by kernel_rfl) (by kernel_rfl) (by kernel_rfl) (fun _ _ _ h => h) (Or.inl ⟨by rfl, (by intro W9 hSw; (try dsimp only at hSw); go_simp; first | done | with_reducible rfl)⟩) (by assumption) ?_
      simp only [Act.put, List.setIfInBounds_toArray]; try simp only [List.set_cons_zero, List.set_cons_succ]
      refine wpAnyH_takesJ (i := 1) (v := (.slice (some ⟨gS, 0, none⟩) ns cs)) (some 26) rfl rfl (by kernel_rfl) (by kernel_rfl) (by kernel_rfl) (fun _ _ _ h => h) (Or.inl ⟨by rfl, (by intro W9 hSw; (try dsimp only at hSw); go_simp; first | done | with_reducible rfl)⟩) (by assumption) ?_
      simp only [Act.put, List.setIfInBounds_toArray]; try simp only [List.set_cons_zero, List.set_cons_succ]
      refine wpAnyH_takesJ (i := 2) (v := (.int .i64 (q : Nat))) (some 27) rfl rfl (by kernel_rfl) (by kernel_rfl) (by kernel_rfl) (fun _ _ _ h => h) (Or.inl ⟨by rfl, (by intro W9 hSw; (try dsimp only at hSw); go_simp; first | done | with_reducible rfl)⟩) (by assumption) ?_
      simp only [Act.put, List.setIfInBounds_toArray]; try simp only [List.set_cons_zero, List.set_cons_succ]
      refine wpAnyH_takesJ (i := 3) (v := (.pointer (some ⟨w.heap.size, 3, none⟩))) (some 28) rfl rfl (by kernel_rfl) (by kernel_rfl) (by kernel_rfl) (fun _ _ _ h => h) (Or.inl ⟨by rfl, (by intro W9 hSw; (try dsimp only at hSw); go_simp; first | done | with_reducible rfl)⟩) (by assumption) ?_
      simp only [Act.put, List.setIfInBounds_toArray]; try simp only [List.set_cons_zero, List.set_cons_succ]
      refine wpAnyH_takesJ (i := 4) (v := (.slice (some ⟨gS, 0, none⟩) ns cs)) (some 29) rfl rfl (by kernel_rfl) (by kernel_rfl) (by kernel_rfl) (fun _ _ _ h => h) (Or.inl ⟨by rfl, (by intro W9 hSw; (try dsimp only at hSw); go_simp; first | done | with_reducible rfl)⟩) (by assumption) ?_
      simp only [Act.put, List.setIfInBounds_toArray]; try simp only [List.set_cons_zero, List.set_cons_succ]
      refine wpAnyH_takesJ (i := 5) (v := (.int .i64 (q : Nat))) (some 30) rfl rfl (by kernel_rfl) (by kernel_rfl) (by kernel_rfl) (fun _ _ _ h => h) (Or.inl ⟨by rfl, (by intro W9 hSw; (try dsimp only at hSw); go_simp; first | done | with_reducible rfl)⟩) (by assumption) ?_
      simp only [Act.put, List.setIfInBounds_toArray]; try simp only [List.set_cons_zero, List.set_cons_succ]
      refine wpAnyH_takesJ (i := 6) (v := (.pointer (some ⟨gS, q, none⟩))) (some 31) rfl rfl (by kernel_rfl) (by kernel_rfl) (by kernel_rfl) (fun _ _ _ h => h) (Or.inl ⟨by rfl, (by intro W9 hSw; (try dsimp only at hSw); go_simp; first | done | with_reducible rfl)⟩) (by assumption) ?_
      simp only [Act.put, List.setIfInBounds_toArray]; try simp only [List.set_cons_zero, List.set_cons_succ]
      refine wpAnyH_takesJ (i := 8) (v := (.pointer (some ⟨w.heap.size, 2, none⟩))) (some 33) rfl rfl (by kernel_rfl) (by kernel_rfl) (by kernel_rfl) (fun _ _ _ h => h) (Or.inl ⟨by rfl, (by intro W9 hSw; (try dsimp only at hSw); go_simp; first | done | with_reducible rfl)⟩) (by assumption) ?_
      simp only [Act.put, List.setIfInBounds_toArray]; try simp only [List.set_cons_zero, List.set_cons_succ]
      refine wpAnyH_takesJ (i := 9) (v := (.slice (some ⟨gR, 0, none⟩) nr cr)) (some 34) rfl rfl (by kernel_rfl) (by kernel_rfl) (by kernel_rfl) (fun _ _ _ h => h) (Or.inl ⟨by rfl, (by intro W9 hSw; (try dsimp only at hSw); go_simp; first | done | with_reducible rfl)⟩) (by assumption) ?_
      simp only [Act.put, List.setIfInBounds_toArray]; try simp only [List.set_cons_zero, List.set_cons_succ]
      refine wpAnyH_takesJ (i := 10) (v := (.int .i64 (p : Nat))) (some 35) rfl rfl (by kernel_rfl) (by kernel_rfl) (by kernel_rfl) (fun _ _ _ h => h) (Or.inl ⟨by rfl, (by intro W9 hSw; (try dsimp only at hSw); go_simp; first | done | with_reducible rfl)⟩) (by assumption) ?_
      simp only [Act.put, List.setIfInBounds_toArray]; try simp only [List.set_cons_zero, List.set_cons_succ]
      refine wpAnyH_takesJ (i := 11) (v := (.pointer (some ⟨gR, p * 2, none⟩))) (some 36) rfl rfl (by kernel_rfl) (by kernel_rfl) (by kernel_rfl) (fun _ _ _ h => h) (Or.inl ⟨by rfl, (by intro W9 hSw; (try dsimp only at hSw); go_simp; first | done | with_reducible rfl)⟩) (by assumption) ?_
      simp only [Act.put, List.setIfInBounds_toArray]; try simp only [List.set_cons_zero, List.set_cons_succ]
      refine wpAnyH_takesJ (i := 12) (v := (.agg #[.int .i64 ep.x, .slice ep.A ep.n ep.c])) (some 37) rfl rfl (by kernel_rfl) (by kernel_rfl) (by kernel_rfl) (fun _ _ _ h => h) (Or.inl ⟨by rfl, (by intro W9 hSw; (try dsimp only at hSw); go_simp; first | done | with_reducible rfl)⟩) (by assumption) ?_
      simp only [Act.put, List.setIfInBounds_toArray]; try simp only [List.set_cons_zero, List.set_cons_succ]
      refine wpAnyH_ready (rs := [7, 13]) (by kernel_rfl) (by simp) ?_
      refine AllReadyH.cons rfl (fun K hK => ?_) (AllReadyH.cons rfl (fun K hK => ?_) AllReadyH.nil)
      · go_simp
        refine hK.out _ _ (by exact ⟨⟨q3, q2⟩, r0, r1'⟩) (fun hHeld => ?_)
        clear hK K
        try dsimp only
        refine wpAnyH_ready (rs := [13]) (by kernel_rfl) (by simp) ?_
        refine AllReadyH.cons rfl (fun K hK => ?_) AllReadyH.nil
        go_simp
        go_at_call 14
        refine (all_any ep.x ep.A ep.n ep.c ep.l wa.drew HRW.out.drew (by omega)).mono ?_
        rintro e w7 ⟨Aa, na, ca, rfl, hra, hfa, hb7d⟩
        have hb7 := below_of_drew hb7d
        have s3 := keepcell hb7 q3
        have s2 := keepcell hb7 q2
        have s0 := keepcell hb7 r0
        have s1 := keepcell hb7 r1'
        refine hK.out _ _ (by exact ⟨⟨s3, s2⟩, s0, s1⟩) (fun hHeld => ?_)
        clear hK K
        try dsimp only
        have R7 := Lib.hid (Ra.out.step hb7)
        have X7 := Lib.hid (Xa.out.step hb7)
        have K7 := Lib.hid (MI.out.kp.step hb7)
        have RA7 := Lib.hid hra
        have SZ7 := Lib.hid hb7.size
        have hna : na ≤ 401 := by
          rw [← hra.len]
          have h1 := Rp.all_length (ep.x, ep.l)
          have h2 := HEL.out
          simp only at h1 h2
          omega
        have hlt := Xa.out.lt
        have hfew := MI.out.few
        clear hra hfa hb7 hb7d
        refine wpAnyH_ready (rs := [14]) (by kernel_rfl) (by simp) ?_
        refine AllReadyH.cons rfl (fun K hK => ?_) AllReadyH.nil
        refine step_append_rowat (by rfl) (.tmp 32) (.tmp 38) (by rfl) B0 (.slice e1.A e1.n e1.c) e1.n e1.l (by rfl) R7.out.ours Aa na ca (Rp.all (ep.x, ep.l)) (by rfl) RA7.out (by omega) R7.out.up ?_
        intro v8 w8 ho8 hg8 hat8
        obtain ⟨A8, c8, rfl⟩ := own_form ho8
        have nX : ∀ k, (Value.slice e1.A e1.n e1.c).ownBlock = some k → B0 ≤ k ∧ ¬ StaysN w.heap.size gR gS e0 k ∧ k ≠ w.heap.size := fun k hk => ⟨(R7.out.ours.lt k hk).1, fun h => by
          rcases MI.out.own k hk with e | e
          · exact h.2.2.2 e
          · have := h.1; omega, fun e2 => by
          rcases MI.out.own k hk with e | e
          · have := (H.out.ours.lt k e).2; omega
          · omega⟩
        have hgS := H.out.rows.own.lt gS rfl
        have hgR := H.out.own.own.lt gR rfl
        have X8 := X7.out.grown hg8 (fun e => (nX _ e.symm).2.2 rfl)
        have K8 := (K7.out.grown hg8 (fun k hk => ⟨(nX k hk).1, (nX k hk).2.1⟩)).set (j := q) (u := .slice A8 (e1.n + na) c8) hgS.1 (fun h => h.2.2.1 rfl)
        have R8 := R7.out.more HT1.out ho8 hg8 hat8
        have XX := Lib.hid (R7.out.rows.own.kept hg8 (by
          cases hob : (Value.slice e1.A e1.n e1.c).ownBlock with
          | none => exact .inr (by simp [Value.ownBlock])
          | some k => exact .inr (R7.out.t4 k hob)))
        have GG := R7.out.own.own.kept hg8 (by
          cases hob : (Value.slice e1.A e1.n e1.c).ownBlock with
          | none => exact .inr (by simp [Value.ownBlock])
          | some k => exact .inr (R7.out.t2 k hob))
        have g0 : w8.cell? ⟨gR, p * 2, none⟩ = some (.int .i64 ep.x) := by
          have p4 := GG.cellAt (p * 2) (show p * 2 < nr * 2 by omega)
          have p5 := flat_at csG_len es p ep 0 HEP.out (by decide)
          rw [Nat.add_zero] at p5
          rw [p5] at p4
          exact p4
        have g1 : w8.cell? ⟨gR, p * 2 + 1, none⟩ = some (.slice ep.A ep.n ep.c) := by
          have p4 := GG.cellAt (p * 2 + 1) (show p * 2 + 1 < nr * 2 by omega)
          have p5 := flat_at csG_len es p ep 1 HEP.out (by decide)
          rw [p5] at p4
          exact p4
        have y3 := X8.c3
        have y2 := X8.c2
        refine hK.out _ _ (by exact ⟨⟨y3, y2⟩, g0, g1⟩) (fun hHeld => ?_)
        clear hK K
        try dsimp only
        refine wpAnyH_takesJ (i := 15) (v := (.pointer (some ⟨gS, q, none⟩))) (some 40) rfl rfl (by kernel_rfl) (by kernel_rfl) (by kernel_rfl) (fun _ _ _ h => h) (Or.inl ⟨by rfl, (by intro W9 hSw; (try dsimp only at hSw); go_simp; first | done | with_reducible rfl)⟩) (by assumption) ?_
        simp only [Act.put, List.setIfInBounds_toArray]; try simp only [List.set_cons_zero, List.set_cons_succ]
        have cc : w8.cell? ⟨gS, q, none⟩ = some (.slice e1.A e1.n e1.c) := by
          have p4 := XX.out.cellAt q (show q < ns * 1 by omega)
          have p5 := flat_at csL_len ls1 q e1 0 R7.out.at' (by decide)
          rw [Nat.mul_one, Nat.add_zero] at p5
          rw [p5] at p4
          exact p4
        have ff := XX.out.frozenAt q
        refine wpAnyH_ready (rs := [16]) (by kernel_rfl) (by simp) ?_
        refine AllReadyH.cons rfl (fun K hK => ?_) AllReadyH.nil
        go_simp
        have hRS : gR ≠ gS := fun e => R7.out.r2 gR rfl (by rw [e]; rfl)
        have X9 := X8.far (p := ⟨gS, q, none⟩) (u := .slice A8 (e1.n + na) c8) (by simp only; omega)
        have g0 := farcell (j := q) (u := .slice A8 (e1.n + na) c8) hRS g0
        have g1 := farcell (j := q) (u := .slice A8 (e1.n + na) c8) hRS g1
        have y3 := X9.c3
        have y2 := X9.c2
        refine hK.out _ _ (by exact ⟨⟨y3, y2⟩, g0, g1⟩) (fun hHeld => ?_)
        clear hK K
        try dsimp only
        refine wpAnyH_done (by kernel_rfl) ?_ _
        obtain ⟨w9, hw9⟩ : ∃ W6, W6 = w8.setCell ⟨gS, q, none⟩ (.slice A8 (e1.n + na) c8) := ⟨_, rfl⟩
        rw [← hw9] at X9 g0 g1 K8 R8 y2 y3 ⊢
        have hRI := R8.ring (p := p) (x := (0, [])) (A := none) (n := 0) (c := 0) (by omega) ⟨rfl, Nat.le_refl _, by omega, (fun _ => rfl), (fun i z hi => by simp at hi)⟩ (B := w9.heap.size) (fun ad h => by cases h) R8.up (R8.own.own.lt gR rfl).2 (fun k hk => (R8.ours.lt k hk).2) (fun k hk => (R8.rows.own.lt k hk).2)
        have hKF := (K8.set (j := p * 2) (u := .int .i64 0) hgR.1 (fun h => h.2.1 rfl)).set (j := p * 2 + 1) (u := .slice none 0 0) hgR.1 (fun h => h.2.1 rfl)
        have f0 := R8.own.own.frozenAt (p * 2)
        have f1 := R8.own.own.frozenAt (p * 2 + 1)
        have KF := Lib.hid hKF
        have RI := Lib.hid hRI
        have HIS := Lib.hid (show Jp.ringed (Jp.rowed r1 q (e1.l ++ Rp.all (ep.x, ep.l))) p (0, []) = Jp.ringed (Jp.rowed r q (e0.l ++ (CC ++ Rp.all (ep.x, ep.l)))) p (0, []) by
          rw [← MI.out.is, MI.out.el, rowed_twice, ← HC.out, List.append_assoc])
        clear hw9 cc ff XX GG R8 K8 X8 ho8 hg8 hat8 nX hRI hKF y3 s3 s2 s0 s1 R7 X7 K7 RA7
        go_wp2_with fail
        go_end0
        exact ⟨rfl, KF.out, by rw [← HIS.out]; exact RI.out.rm h0⟩
      · go_simp
        go_at_call 14
        refine (all_any ep.x ep.A ep.n ep.c ep.l wa.drew HRW.out.drew (by omega)).mono ?_
        rintro e w7 ⟨Aa, na, ca, rfl, hra, hfa, hb7d⟩
        have hb7 := below_of_drew hb7d
        have s3 := keepcell hb7 q3
        have s2 := keepcell hb7 q2
        have s0 := keepcell hb7 r0
        have s1 := keepcell hb7 r1'
        refine hK.out _ _ (by exact ⟨⟨s3, s2⟩, s0, s1⟩) (fun hHeld => ?_)
        clear hK K
        try dsimp only
        have c7 := keepcell hb7 c0a
        refine wpAnyH_ready (rs := [7]) (by kernel_rfl) (by simp) ?_
        refine AllReadyH.cons rfl (fun K hK => ?_) AllReadyH.nil
        go_simp
        refine hK.out _ _ (by exact ⟨⟨s3, s2⟩, s0, s1⟩) (fun hHeld => ?_)
        clear hK K
        try dsimp only
        have R7 := Lib.hid (Ra.out.step hb7)
        have X7 := Lib.hid (Xa.out.step hb7)
        have K7 := Lib.hid (MI.out.kp.step hb7)
        have RA7 := Lib.hid hra
        have SZ7 := Lib.hid hb7.size
        have hna : na ≤ 401 := by
          rw [← hra.len]
          have h1 := Rp.all_length (ep.x, ep.l)
          have h2 := HEL.out
          simp only at h1 h2
          omega
        have hlt := Xa.out.lt
        have hfew := MI.out.few
        clear hra hfa hb7 hb7d
        refine wpAnyH_ready (rs := [14]) (by kernel_rfl) (by simp) ?_
        refine AllReadyH.cons rfl (fun K hK => ?_) AllReadyH.nil
        refine step_append_rowat (by rfl) (.tmp 32) (.tmp 38) (by rfl) B0 (.slice e1.A e1.n e1.c) e1.n e1.l (by rfl) R7.out.ours Aa na ca (Rp.all (ep.x, ep.l)) (by rfl) RA7.out (by omega) R7.out.up ?_
        intro v8 w8 ho8 hg8 hat8
        obtain ⟨A8, c8, rfl⟩ := own_form ho8
        have nX : ∀ k, (Value.slice e1.A e1.n e1.c).ownBlock = some k → B0 ≤ k ∧ ¬ StaysN w.heap.size gR gS e0 k ∧ k ≠ w.heap.size := fun k hk => ⟨(R7.out.ours.lt k hk).1, fun h => by
          rcases MI.out.own k hk with e | e
          · exact h.2.2.2 e
          · have := h.1; omega, fun e2 => by
          rcases MI.out.own k hk with e | e
          · have := (H.out.ours.lt k e).2; omega
          · omega⟩
        have hgS := H.out.rows.own.lt gS rfl
        have hgR := H.out.own.own.lt gR rfl
        have X8 := X7.out.grown hg8 (fun e => (nX _ e.symm).2.2 rfl)
        have K8 := (K7.out.grown hg8 (fun k hk => ⟨(nX k hk).1, (nX k hk).2.1⟩)).set (j := q) (u := .slice A8 (e1.n + na) c8) hgS.1 (fun h => h.2.2.1 rfl)
        have R8 := R7.out.more HT1.out ho8 hg8 hat8
        have XX := Lib.hid (R7.out.rows.own.kept hg8 (by
          cases hob : (Value.slice e1.A e1.n e1.c).ownBlock with
          | none => exact .inr (by simp [Value.ownBlock])
          | some k => exact .inr (R7.out.t4 k hob)))
        have GG := R7.out.own.own.kept hg8 (by
          cases hob : (Value.slice e1.A e1.n e1.c).ownBlock with
          | none => exact .inr (by simp [Value.ownBlock])
          | some k => exact .inr (R7.out.t2 k hob))
        have g0 : w8.cell? ⟨gR, p * 2, none⟩ = some (.int .i64 ep.x) := by
          have p4 := GG.cellAt (p * 2) (show p * 2 < nr * 2 by omega)
          have p5 := flat_at csG_len es p ep 0 HEP.out (by decide)
          rw [Nat.add_zero] at p5
          rw [p5] at p4
          exact p4
        have g1 : w8.cell? ⟨gR, p * 2 + 1, none⟩ = some (.slice ep.A ep.n ep.c) := by
          have p4 := GG.cellAt (p * 2 + 1) (show p * 2 + 1 < nr * 2 by omega)
          have p5 := flat_at csG_len es p ep 1 HEP.out (by decide)
          rw [p5] at p4
          exact p4
        have y3 := X8.c3
        have y2 := X8.c2
        refine hK.out _ _ (by exact ⟨⟨y3, y2⟩, g0, g1⟩) (fun hHeld => ?_)
        clear hK K
        try dsimp only
        refine wpAnyH_takesJ (i := 15) (v := (.pointer (some ⟨gS, q, none⟩))) (some 40) rfl rfl (by kernel_rfl) (by kernel_rfl) (by kernel_rfl) (fun _ _ _ h => h) (Or.inl ⟨by rfl, (by intro W9 hSw; (try dsimp only at hSw); go_simp; first | done | with_reducible rfl)⟩) (by assumption) ?_
        simp only [Act.put, List.setIfInBounds_toArray]; try simp only [List.set_cons_zero, List.set_cons_succ]
        have cc : w8.cell? ⟨gS, q, none⟩ = some (.slice e1.A e1.n e1.c) := by
          have p4 := XX.out.cellAt q (show q < ns * 1 by omega)
          have p5 := flat_at csL_len ls1 q e1 0 R7.out.at' (by decide)
          rw [Nat.mul_one, Nat.add_zero] at p5
          rw [p5] at p4
          exact p4
        have ff := XX.out.frozenAt q
        refine wpAnyH_ready (rs := [16]) (by kernel_rfl) (by simp) ?_
        refine AllReadyH.cons rfl (fun K hK => ?_) AllReadyH.nil
        go_simp
        have hRS : gR ≠ gS := fun e => R7.out.r2 gR rfl (by rw [e]; rfl)
        have X9 := X8.far (p := ⟨gS, q, none⟩) (u := .slice A8 (e1.n + na) c8) (by simp only; omega)
        have g0 := farcell (j := q) (u := .slice A8 (e1.n + na) c8) hRS g0
        have g1 := farcell (j := q) (u := .slice A8 (e1.n + na) c8) hRS g1
        have y3 := X9.c3
        have y2 := X9.c2
        refine hK.out _ _ (by exact ⟨⟨y3, y2⟩, g0, g1⟩) (fun hHeld => ?_)
        clear hK K
        try dsimp only
        refine wpAnyH_done (by kernel_rfl) ?_ _
        obtain ⟨w9, hw9⟩ : ∃ W6, W6 = w8.setCell ⟨gS, q, none⟩ (.slice A8 (e1.n + na) c8) := ⟨_, rfl⟩
        rw [← hw9] at X9 g0 g1 K8 R8 y2 y3 ⊢
        have hRI := R8.ring (p := p) (x := (0, [])) (A := none) (n := 0) (c := 0) (by omega) ⟨rfl, Nat.le_refl _, by omega, (fun _ => rfl), (fun i z hi => by simp at hi)⟩ (B := w9.heap.size) (fun ad h => by cases h) R8.up (R8.own.own.lt gR rfl).2 (fun k hk => (R8.ours.lt k hk).2) (fun k hk => (R8.rows.own.lt k hk).2)
        have hKF := (K8.set (j := p * 2) (u := .int .i64 0) hgR.1 (fun h => h.2.1 rfl)).set (j := p * 2 + 1) (u := .slice none 0 0) hgR.1 (fun h => h.2.1 rfl)
        have f0 := R8.own.own.frozenAt (p * 2)
        have f1 := R8.own.own.frozenAt (p * 2 + 1)
        have KF := Lib.hid hKF
        have RI := Lib.hid hRI
        have HIS := Lib.hid (show Jp.ringed (Jp.rowed r1 q (e1.l ++ Rp.all (ep.x, ep.l))) p (0, []) = Jp.ringed (Jp.rowed r q (e0.l ++ (CC ++ Rp.all (ep.x, ep.l)))) p (0, []) by
          rw [← MI.out.is, MI.out.el, rowed_twice, ← HC.out, List.append_assoc])
        clear hw9 cc ff XX GG R8 K8 X8 ho8 hg8 hat8 nX hRI hKF y3 s3 s2 s0 s1 R7 X7 K7 RA7
        go_wp2_with fail
        go_end0
        exact ⟨rfl, KF.out, by rw [← HIS.out]; exact RI.out.rm h0⟩
    · go_simp
      have hb4 : Below w1.heap.size w1 (w1.alloc (.cells #[.int .i64 cur] 3)).drew := (below_new w1 _).drew
      have R4 := Lib.hid (row_at w1 cur _ rfl).drew
      obtain ⟨w4, hw4⟩ : ∃ w4, w4 = (w1.alloc (.cells #[.int .i64 cur] 3)).drew := ⟨_, rfl⟩
      rw [← hw4] at hb4 R4
      rw [← hw4]
      clear hw4
      have X4 := Lib.hid (X1.out.step hb4)
      have K4 := Lib.hid (K1.out.step hb4)
      have RD4 := Lib.hid (RD1.out.step hb4)
      have c4 := keepcell hb4 c0
      have SZ4 := Lib.hid hb4.size
      refine hK.out _ _ (by exact X4.out.c3) (fun hHeld => ?_)
      clear hK K hb4
      try dsimp only
      refine wpAnyH_ready (rs := [7]) (by kernel_rfl) (by simp) ?_
      refine AllReadyH.cons rfl (fun K hK => ?_) AllReadyH.nil
      go_simp
      refine hK.out _ _ (by exact X4.out.c3) (fun hHeld => ?_)
      clear hK K
      try dsimp only
      refine wpAnyH_ready (rs := [10]) (by kernel_rfl) (by simp) ?_
      refine AllReadyH.cons rfl (fun K hK => ?_) AllReadyH.nil
      refine step_append_rowat (by rfl) (.tmp 20) (.tmp 22) (by rfl) B0 (.slice e0.A e0.n e0.c) e0.n e0.l (by rfl) RD4.out.ours (some ⟨w1.heap.size, 0, none⟩) 1 1 [cur] (by rfl) R4.out (by have := HEN.out; omega) RD4.out.up ?_
      intro v5 w5 ho5 hg5 hat5
      obtain ⟨A5, c5, rfl⟩ := own_form ho5
      have nX : ∀ k, (Value.slice e0.A e0.n e0.c).ownBlock = some k → B0 ≤ k ∧ k < w.heap.size := fun k hk => H.out.ours.lt k hk
      have hgS := H.out.rows.own.lt gS rfl
      have X5 := X4.out.grown hg5 (fun e => by have := (nX _ e.symm).2; omega)
      have K5 := (K4.out.grown hg5 (fun k hk => ⟨(nX k hk).1, fun h => h.2.2.2 hk⟩)).set (j := q) (u := .slice A5 (e0.n + 1) c5) hgS.1 (fun h => h.2.2.1 rfl)
      have RD5 := RD4.out.more HNE.out ho5 hg5 hat5
      have XX := Lib.hid (RD4.out.rows.own.kept hg5 (by
        cases hob : (Value.slice e0.A e0.n e0.c).ownBlock with
        | none => exact .inr (by simp [Value.ownBlock])
        | some k => exact .inr (RD4.out.t4 k hob)))
      have hX3 := X5.c3
      refine hK.out _ _ (by exact hX3) (fun hHeld => ?_)
      clear hK K
      try dsimp only
      refine wpAnyH_takesJ (i := 11) (v := (.pointer (some ⟨gS, q, none⟩))) (some 24) rfl rfl (by kernel_rfl) (by kernel_rfl) (by kernel_rfl) (fun _ _ _ h => h) (Or.inl ⟨by rfl, (by intro W9 hSw; (try dsimp only at hSw); go_simp; first | done | with_reducible rfl)⟩) (by assumption) ?_
      simp only [Act.put, List.setIfInBounds_toArray]; try simp only [List.set_cons_zero, List.set_cons_succ]
      have cc : w5.cell? ⟨gS, q, none⟩ = some (.slice e0.A e0.n e0.c) := by
        have p4 := XX.out.cellAt q (show q < ns * 1 by omega)
        have p5 := flat_at csL_len ls q e0 0 RD4.out.at' (by decide)
        rw [Nat.mul_one, Nat.add_zero] at p5
        rw [p5] at p4
        exact p4
      have ff := XX.out.frozenAt q
      refine wpAnyH_ready (rs := [12]) (by kernel_rfl) (by simp) ?_
      refine AllReadyH.cons rfl (fun K hK => ?_) AllReadyH.nil
      go_simp
      have X6 := X5.far (p := ⟨gS, q, none⟩) (u := .slice A5 (e0.n + 1) c5) (by simp only; omega)
      have hX3 := X6.c3
      refine hK.out _ _ (by exact hX3) (fun hHeld => ?_)
      clear hK K
      try dsimp only
      refine wpAnyH_done (by kernel_rfl) ?_ _
      have hM : Mid w B0 q gR gS nt ct nr cr ns cs T r (Jp.rowed r q (e0.l ++ [cur])) [cur] es e0 ⟨e0.x, e0.l ++ [cur], A5, e0.n + 1, c5⟩ (ls.set q ⟨e0.x, e0.l ++ [cur], A5, e0.n + 1, c5⟩) (w5.setCell ⟨gS, q, none⟩ (.slice A5 (e0.n + 1) c5)) :=
        ⟨RD5, K5, fun k hk => by
          rcases hat5 with e | e
          · exact .inl (by rw [← e]; exact hk)
          · exact .inr (by have := hk.symm.trans e; injection this with this; have := SZ4.out; have := X1.out.lt; omega), X6, rfl, rfl, by have := HEN.out; simp only; omega⟩
      obtain ⟨wa, hwa⟩ : ∃ W6, W6 = w5.setCell ⟨gS, q, none⟩ (.slice A5 (e0.n + 1) c5) := ⟨_, rfl⟩
      obtain ⟨r1, hr1⟩ : ∃ r1, r1 = Jp.rowed r q (e0.l ++ [cur]) := ⟨_, rfl⟩
      obtain ⟨e1, he1⟩ : ∃ e1, e1 = (⟨e0.x, e0.l ++ [cur], A5, e0.n + 1, c5⟩ : El) := ⟨_, rfl⟩
      rw [← hwa, ← hr1, ← he1] at hM
      rw [← hwa]
      obtain ⟨ls1, hls1⟩ : ∃ ls1, ls1 = ls.set q e1 := ⟨_, rfl⟩
      rw [← hls1] at hM
      have MI := Lib.hid hM
      have HC := Lib.hid (show [cur] = CC by rw [HCC.out, if_neg hz])
      clear hwa hr1 he1 hls1 hM cc ff X5 K5 RD5 XX X6 hX3 ho5 hg5 hat5 X4 K4 RD4 c4 SZ4 R4
      have HT1 := Lib.hid (show r1.tree ≠ [] by rw [← MI.out.is]; exact HNE.out)
      have Xa := Lib.hid MI.out.box
      have Ra := Lib.hid MI.out.rd
      have q3 := Xa.out.c3
      have q2 := Xa.out.c2
      have c0a := (row_cell Ra.out).1
      have r0 : wa.cell? ⟨gR, p * 2, none⟩ = some (.int .i64 ep.x) := by
        have p4 := Ra.out.own.own.cellAt (p * 2) (show p * 2 < nr * 2 by omega)
        have p5 := flat_at csG_len es p ep 0 HEP.out (by decide)
        rw [Nat.add_zero] at p5
        rw [p5] at p4
        exact p4
      have r1' : wa.cell? ⟨gR, p * 2 + 1, none⟩ = some (.slice ep.A ep.n ep.c) := by
        have p4 := Ra.out.own.own.cellAt (p * 2 + 1) (show p * 2 + 1 < nr * 2 by omega)
        have p5 := flat_at csG_len es p ep 1 HEP.out (by decide)
        rw [p5] at p4
        exact p4
      have HRW := Lib.hid (Ra.out.own.rows ep (List.mem_of_getElem? HEP.out))
      have hepn : ep.n ≤ 400 := by rw [← HRW.out.len]; exact HEL.out
      go_wp2_with fail
      refine wp_region_held_drew (S := fun w' => (w'.cell? ⟨w.heap.size, 3, none⟩ = some (.slice (some ⟨gS, 0, none⟩) ns cs) ∧ w'.cell? ⟨w.heap.size, 2, none⟩ = some (.slice (some ⟨gR, 0, none⟩) nr cr)) ∧ w'.cell? ⟨gR, p * 2, none⟩ = some (.int .i64 ep.x) ∧ w'.cell? ⟨gR, p * 2 + 1, none⟩ = some (.slice ep.A ep.n ep.c)) (by kernel_rfl) ⟨⟨q3, q2⟩, r0, r1'⟩ (fun hHeld => ?_)
      refine wpAnyH_takesJ (i := 0) (v := (.pointer (some ⟨w.heap.size, 3, none⟩))) (some 25) rfl rfl (by kernel_rfl) (by kernel_rfl) (by kernel_rfl) (fun _ _ _ h => h) (Or.inl ⟨by rfl, (by intro W9 hSw; (try dsimp only at hSw); go_simp; first | done | with_reducible rfl)⟩) (by assumption) ?_
      simp only [Act.put, List.setIfInBounds_toArray]; try simp only [List.set_cons_zero, List.set_cons_succ]
      refine wpAnyH_takesJ (i := 1) (v := (.slice (some ⟨gS, 0, none⟩) ns cs)) (some 26) rfl rfl (by kernel_rfl) (by kernel_rfl) (by kernel_rfl) (fun _ _ _ h => h) (Or.inl ⟨by rfl, (by intro W9 hSw; (try dsimp only at hSw); go_simp; first | done | with_reducible rfl)⟩) (by assumption) ?_
      simp only [Act.put, List.setIfInBounds_toArray]; try simp only [List.set_cons_zero, List.set_cons_succ]
      refine wpAnyH_takesJ (i := 2) (v := (.int .i64 (q : Nat))) (some 27) rfl rfl (by kernel_rfl) (by kernel_rfl) (by kernel_rfl) (fun _ _ _ h => h) (Or.inl ⟨by rfl, (by intro W9 hSw; (try dsimp only at hSw); go_simp; first | done | with_reducible rfl)⟩) (by assumption) ?_
      simp only [Act.put, List.setIfInBounds_toArray]; try simp only [List.set_cons_zero, List.set_cons_succ]
      refine wpAnyH_takesJ (i := 3) (v := (.pointer (some ⟨w.heap.size, 3, none⟩))) (some 28) rfl rfl (by kernel_rfl) (by kernel_rfl) (by kernel_rfl) (fun _ _ _ h => h) (Or.inl ⟨by rfl, (by intro W9 hSw; (try dsimp only at hSw); go_simp; first | done | with_reducible rfl)⟩) (by assumption) ?_
      simp only [Act.put, List.setIfInBounds_toArray]; try simp only [List.set_cons_zero, List.set_cons_succ]
      refine wpAnyH_takesJ (i := 4) (v := (.slice (some ⟨gS, 0, none⟩) ns cs)) (some 29) rfl rfl (by kernel_rfl) (by kernel_rfl) (by kernel_rfl) (fun _ _ _ h => h) (Or.inl ⟨by rfl, (by intro W9 hSw; (try dsimp only at hSw); go_simp; first | done | with_reducible rfl)⟩) (by assumption) ?_
      simp only [Act.put, List.setIfInBounds_toArray]; try simp only [List.set_cons_zero, List.set_cons_succ]
      refine wpAnyH_takesJ (i := 5) (v := (.int .i64 (q : Nat))) (some 30) rfl rfl (by kernel_rfl) (by kernel_rfl) (by kernel_rfl) (fun _ _ _ h => h) (Or.inl ⟨by rfl, (by intro W9 hSw; (try dsimp only at hSw); go_simp; first | done | with_reducible rfl)⟩) (by assumption) ?_
      simp only [Act.put, List.setIfInBounds_toArray]; try simp only [List.set_cons_zero, List.set_cons_succ]
      refine wpAnyH_takesJ (i := 6) (v := (.pointer (some ⟨gS, q, none⟩))) (some 31) rfl rfl (by kernel_rfl) (by kernel_rfl) (by kernel_rfl) (fun _ _ _ h => h) (Or.inl ⟨by rfl, (by intro W9 hSw; (try dsimp only at hSw); go_simp; first | done | with_reducible rfl)⟩) (by assumption) ?_
      simp only [Act.put, List.setIfInBounds_toArray]; try simp only [List.set_cons_zero, List.set_cons_succ]
      refine wpAnyH_takesJ (i := 8) (v := (.pointer (some ⟨w.heap.size, 2, none⟩))) (some 33) rfl rfl (by kernel_rfl) (by kernel_rfl) (by kernel_rfl) (fun _ _ _ h => h) (Or.inl ⟨by rfl, (by intro W9 hSw; (try dsimp only at hSw); go_simp; first | done | with_reducible rfl)⟩) (by assumption) ?_
      simp only [Act.put, List.setIfInBounds_toArray]; try simp only [List.set_cons_zero, List.set_cons_succ]
      refine wpAnyH_takesJ (i := 9) (v := (.slice (some ⟨gR, 0, none⟩) nr cr)) (some 34) rfl rfl (by kernel_rfl) (by kernel_rfl) (by kernel_rfl) (fun _ _ _ h => h) (Or.inl ⟨by rfl, (by intro W9 hSw; (try dsimp only at hSw); go_simp; first | done | with_reducible rfl)⟩) (by assumption) ?_
      simp only [Act.put, List.setIfInBounds_toArray]; try simp only [List.set_cons_zero, List.set_cons_succ]
      refine wpAnyH_takesJ (i := 10) (v := (.int .i64 (p : Nat))) (some 35) rfl rfl (by kernel_rfl) (by kernel_rfl) (by kernel_rfl) (fun _ _ _ h => h) (Or.inl ⟨by rfl, (by intro W9 hSw; (try dsimp only at hSw); go_simp; first | done | with_reducible rfl)⟩) (by assumption) ?_
      simp only [Act.put, List.setIfInBounds_toArray]; try simp only [List.set_cons_zero, List.set_cons_succ]
      refine wpAnyH_takesJ (i := 11) (v := (.pointer (some ⟨gR, p * 2, none⟩))) (some 36) rfl rfl (by kernel_rfl) (by kernel_rfl) (by kernel_rfl) (fun _ _ _ h => h) (Or.inl ⟨by rfl, (by intro W9 hSw; (try dsimp only at hSw); go_simp; first | done | with_reducible rfl)⟩) (by assumption) ?_
      simp only [Act.put, List.setIfInBounds_toArray]; try simp only [List.set_cons_zero, List.set_cons_succ]
      refine wpAnyH_takesJ (i := 12) (v := (.agg #[.int .i64 ep.x, .slice ep.A ep.n ep.c])) (some 37) rfl rfl (by kernel_rfl) (by kernel_rfl) (by kernel_rfl) (fun _ _ _ h => h) (Or.inl ⟨by rfl, (by intro W9 hSw; (try dsimp only at hSw); go_simp; first | done | with_reducible rfl)⟩) (by assumption) ?_
      simp only [Act.put, List.setIfInBounds_toArray]; try simp only [List.set_cons_zero, List.set_cons_succ]
      refine wpAnyH_ready (rs := [7, 13]) (by kernel_rfl) (by simp) ?_
      refine AllReadyH.cons rfl (fun K hK => ?_) (AllReadyH.cons rfl (fun K hK => ?_) AllReadyH.nil)
      · go_simp
        refine hK.out _ _ (by exact ⟨⟨q3, q2⟩, r0, r1'⟩) (fun hHeld => ?_)
        clear hK K
        try dsimp only
        refine wpAnyH_ready (rs := [13]) (by kernel_rfl) (by simp) ?_
        refine AllReadyH.cons rfl (fun K hK => ?_) AllReadyH.nil
        go_simp
        go_at_call 14
        refine (all_any ep.x ep.A ep.n ep.c ep.l wa.drew HRW.out.drew (by omega)).mono ?_
        rintro e w7 ⟨Aa, na, ca, rfl, hra, hfa, hb7d⟩
        have hb7 := below_of_drew hb7d
        have s3 := keepcell hb7 q3
        have s2 := keepcell hb7 q2
        have s0 := keepcell hb7 r0
        have s1 := keepcell hb7 r1'
        refine hK.out _ _ (by exact ⟨⟨s3, s2⟩, s0, s1⟩) (fun hHeld => ?_)
        clear hK K
        try dsimp only
        have R7 := Lib.hid (Ra.out.step hb7)
        have X7 := Lib.hid (Xa.out.step hb7)
        have K7 := Lib.hid (MI.out.kp.step hb7)
        have RA7 := Lib.hid hra
        have SZ7 := Lib.hid hb7.size
        have hna : na ≤ 401 := by
          rw [← hra.len]
          have h1 := Rp.all_length (ep.x, ep.l)
          have h2 := HEL.out
          simp only at h1 h2
          omega
        have hlt := Xa.out.lt
        have hfew := MI.out.few
        clear hra hfa hb7 hb7d
        refine wpAnyH_ready (rs := [14]) (by kernel_rfl) (by simp) ?_
        refine AllReadyH.cons rfl (fun K hK => ?_) AllReadyH.nil
        refine step_append_rowat (by rfl) (.tmp 32) (.tmp 38) (by rfl) B0 (.slice e1.A e1.n e1.c) e1.n e1.l (by rfl) R7.out.ours Aa na ca (Rp.all (ep.x, ep.l)) (by rfl) RA7.out (by omega) R7.out.up ?_
        intro v8 w8 ho8 hg8 hat8
        obtain ⟨A8, c8, rfl⟩ := own_form ho8
        have nX : ∀ k, (Value.slice e1.A e1.n e1.c).ownBlock = some k → B0 ≤ k ∧ ¬ StaysN w.heap.size gR gS e0 k ∧ k ≠ w.heap.size := fun k hk => ⟨(R7.out.ours.lt k hk).1, fun h => by
          rcases MI.out.own k hk with e | e
          · exact h.2.2.2 e
          · have := h.1; omega, fun e2 => by
          rcases MI.out.own k hk with e | e
          · have := (H.out.ours.lt k e).2; omega
          · omega⟩
        have hgS := H.out.rows.own.lt gS rfl
        have hgR := H.out.own.own.lt gR rfl
        have X8 := X7.out.grown hg8 (fun e => (nX _ e.symm).2.2 rfl)
        have K8 := (K7.out.grown hg8 (fun k hk => ⟨(nX k hk).1, (nX k hk).2.1⟩)).set (j := q) (u := .slice A8 (e1.n + na) c8) hgS.1 (fun h => h.2.2.1 rfl)
        have R8 := R7.out.more HT1.out ho8 hg8 hat8
        have XX := Lib.hid (R7.out.rows.own.kept hg8 (by
          cases hob : (Value.slice e1.A e1.n e1.c).ownBlock with
          | none => exact .inr (by simp [Value.ownBlock])
          | some k => exact .inr (R7.out.t4 k hob)))
        have GG := R7.out.own.own.kept hg8 (by
          cases hob : (Value.slice e1.A e1.n e1.c).ownBlock with
          | none => exact .inr (by simp [Value.ownBlock])
          | some k => exact .inr (R7.out.t2 k hob))
        have g0 : w8.cell? ⟨gR, p * 2, none⟩ = some (.int .i64 ep.x) := by
          have p4 := GG.cellAt (p * 2) (show p * 2 < nr * 2 by omega)
          have p5 := flat_at csG_len es p ep 0 HEP.out (by decide)
          rw [Nat.add_zero] at p5
          rw [p5] at p4
          exact p4
        have g1 : w8.cell? ⟨gR, p * 2 + 1, none⟩ = some (.slice ep.A ep.n ep.c) := by
          have p4 := GG.cellAt (p * 2 + 1) (show p * 2 + 1 < nr * 2 by omega)
          have p5 := flat_at csG_len es p ep 1 HEP.out (by decide)
          rw [p5] at p4
          exact p4
        have y3 := X8.c3
        have y2 := X8.c2
        refine hK.out _ _ (by exact ⟨⟨y3, y2⟩, g0, g1⟩) (fun hHeld => ?_)
        clear hK K
        try dsimp only
        refine wpAnyH_takesJ (i := 15) (v := (.pointer (some ⟨gS, q, none⟩))) (some 40) rfl rfl (by kernel_rfl) (by kernel_rfl) (by kernel_rfl) (fun _ _ _ h => h) (Or.inl ⟨by rfl, (by intro W9 hSw; (try dsimp only at hSw); go_simp; first | done | with_reducible rfl)⟩) (by assumption) ?_
        simp only [Act.put, List.setIfInBounds_toArray]; try simp only [List.set_cons_zero, List.set_cons_succ]
        have cc : w8.cell? ⟨gS, q, none⟩ = some (.slice e1.A e1.n e1.c) := by
          have p4 := XX.out.cellAt q (show q < ns * 1 by omega)
          have p5 := flat_at csL_len ls1 q e1 0 R7.out.at' (by decide)
          rw [Nat.mul_one, Nat.add_zero] at p5
          rw [p5] at p4
          exact p4
        have ff := XX.out.frozenAt q
        refine wpAnyH_ready (rs := [16]) (by kernel_rfl) (by simp) ?_
        refine AllReadyH.cons rfl (fun K hK => ?_) AllReadyH.nil
        go_simp
        have hRS : gR ≠ gS := fun e => R7.out.r2 gR rfl (by rw [e]; rfl)
        have X9 := X8.far (p := ⟨gS, q, none⟩) (u := .slice A8 (e1.n + na) c8) (by simp only; omega)
        have g0 := farcell (j := q) (u := .slice A8 (e1.n + na) c8) hRS g0
        have g1 := farcell (j := q) (u := .slice A8 (e1.n + na) c8) hRS g1
        have y3 := X9.c3
        have y2 := X9.c2
        refine hK.out _ _ (by exact ⟨⟨y3, y2⟩, g0, g1⟩) (fun hHeld => ?_)
        clear hK K
        try dsimp only
        refine wpAnyH_done (by kernel_rfl) ?_ _
        obtain ⟨w9, hw9⟩ : ∃ W6, W6 = w8.setCell ⟨gS, q, none⟩ (.slice A8 (e1.n + na) c8) := ⟨_, rfl⟩
        rw [← hw9] at X9 g0 g1 K8 R8 y2 y3 ⊢
        have hRI := R8.ring (p := p) (x := (0, [])) (A := none) (n := 0) (c := 0) (by omega) ⟨rfl, Nat.le_refl _, by omega, (fun _ => rfl), (fun i z hi => by simp at hi)⟩ (B := w9.heap.size) (fun ad h => by cases h) R8.up (R8.own.own.lt gR rfl).2 (fun k hk => (R8.ours.lt k hk).2) (fun k hk => (R8.rows.own.lt k hk).2)
        have hKF := (K8.set (j := p * 2) (u := .int .i64 0) hgR.1 (fun h => h.2.1 rfl)).set (j := p * 2 + 1) (u := .slice none 0 0) hgR.1 (fun h => h.2.1 rfl)
        have f0 := R8.own.own.frozenAt (p * 2)
        have f1 := R8.own.own.frozenAt (p * 2 + 1)
        have KF := Lib.hid hKF
        have RI := Lib.hid hRI
        have HIS := Lib.hid (show Jp.ringed (Jp.rowed r1 q (e1.l ++ Rp.all (ep.x, ep.l))) p (0, []) = Jp.ringed (Jp.rowed r q (e0.l ++ (CC ++ Rp.all (ep.x, ep.l)))) p (0, []) by
          rw [← MI.out.is, MI.out.el, rowed_twice, ← HC.out, List.append_assoc])
        clear hw9 cc ff XX GG R8 K8 X8 ho8 hg8 hat8 nX hRI hKF y3 s3 s2 s0 s1 R7 X7 K7 RA7
        go_wp2_with fail
        go_end0
        exact ⟨rfl, KF.out, by rw [← HIS.out]; exact RI.out.rm h0⟩
      · go_simp
        go_at_call 14
        refine (all_any ep.x ep.A ep.n ep.c ep.l wa.drew HRW.out.drew (by omega)).mono ?_
        rintro e w7 ⟨Aa, na, ca, rfl, hra, hfa, hb7d⟩
        have hb7 := below_of_drew hb7d
        have s3 := keepcell hb7 q3
        have s2 := keepcell hb7 q2
        have s0 := keepcell hb7 r0
        have s1 := keepcell hb7 r1'
        refine hK.out _ _ (by exact ⟨⟨s3, s2⟩, s0, s1⟩) (fun hHeld => ?_)
        clear hK K
        try dsimp only
        have c7 := keepcell hb7 c0a
        refine wpAnyH_ready (rs := [7]) (by kernel_rfl) (by simp) ?_
        refine AllReadyH.cons rfl (fun K hK => ?_) AllReadyH.nil
        go_simp
        refine hK.out _ _ (by exact ⟨⟨s3, s2⟩, s0, s1⟩) (fun hHeld => ?_)
        clear hK K
        try dsimp only
        have R7 := Lib.hid (Ra.out.step hb7)
        have X7 := Lib.hid (Xa.out.step hb7)
        have K7 := Lib.hid (MI.out.kp.step hb7)
        have RA7 := Lib.hid hra
        have SZ7 := Lib.hid hb7.size
        have hna : na ≤ 401 := by
          rw [← hra.len]
          have h1 := Rp.all_length (ep.x, ep.l)
          have h2 := HEL.out
          simp only at h1 h2
          omega
        have hlt := Xa.out.lt
        have hfew := MI.out.few
        clear hra hfa hb7 hb7d
        refine wpAnyH_ready (rs := [14]) (by kernel_rfl) (by simp) ?_
        refine AllReadyH.cons rfl (fun K hK => ?_) AllReadyH.nil
        refine step_append_rowat (by rfl) (.tmp 32) (.tmp 38) (by rfl) B0 (.slice e1.A e1.n e1.c) e1.n e1.l (by rfl) R7.out.ours Aa na ca (Rp.all (ep.x, ep.l)) (by rfl) RA7.out (by omega) R7.out.up ?_
        intro v8 w8 ho8 hg8 hat8
        obtain ⟨A8, c8, rfl⟩ := own_form ho8
        have nX : ∀ k, (Value.slice e1.A e1.n e1.c).ownBlock = some k → B0 ≤ k ∧ ¬ StaysN w.heap.size gR gS e0 k ∧ k ≠ w.heap.size := fun k hk => ⟨(R7.out.ours.lt k hk).1, fun h => by
          rcases MI.out.own k hk with e | e
          · exact h.2.2.2 e
          · have := h.1; omega, fun e2 => by
          rcases MI.out.own k hk with e | e
          · have := (H.out.ours.lt k e).2; omega
          · omega⟩
        have hgS := H.out.rows.own.lt gS rfl
        have hgR := H.out.own.own.lt gR rfl
        have X8 := X7.out.grown hg8 (fun e => (nX _ e.symm).2.2 rfl)
        have K8 := (K7.out.grown hg8 (fun k hk => ⟨(nX k hk).1, (nX k hk).2.1⟩)).set (j := q) (u := .slice A8 (e1.n + na) c8) hgS.1 (fun h => h.2.2.1 rfl)
        have R8 := R7.out.more HT1.out ho8 hg8 hat8
        have XX := Lib.hid (R7.out.rows.own.kept hg8 (by
          cases hob : (Value.slice e1.A e1.n e1.c).ownBlock with
          | none => exact .inr (by simp [Value.ownBlock])
          | some k => exact .inr (R7.out.t4 k hob)))
        have GG := R7.out.own.own.kept hg8 (by
          cases hob : (Value.slice e1.A e1.n e1.c).ownBlock with
          | none => exact .inr (by simp [Value.ownBlock])
          | some k => exact .inr (R7.out.t2 k hob))
        have g0 : w8.cell? ⟨gR, p * 2, none⟩ = some (.int .i64 ep.x) := by
          have p4 := GG.cellAt (p * 2) (show p * 2 < nr * 2 by omega)
          have p5 := flat_at csG_len es p ep 0 HEP.out (by decide)
          rw [Nat.add_zero] at p5
          rw [p5] at p4
          exact p4
        have g1 : w8.cell? ⟨gR, p * 2 + 1, none⟩ = some (.slice ep.A ep.n ep.c) := by
          have p4 := GG.cellAt (p * 2 + 1) (show p * 2 + 1 < nr * 2 by omega)
          have p5 := flat_at csG_len es p ep 1 HEP.out (by decide)
          rw [p5] at p4
          exact p4
        have y3 := X8.c3
        have y2 := X8.c2
        refine hK.out _ _ (by exact ⟨⟨y3, y2⟩, g0, g1⟩) (fun hHeld => ?_)
        clear hK K
        try dsimp only
        refine wpAnyH_takesJ (i := 15) (v := (.pointer (some ⟨gS, q, none⟩))) (some 40) rfl rfl (by kernel_rfl) (by kernel_rfl) (by kernel_rfl) (fun _ _ _ h => h) (Or.inl ⟨by rfl, (by intro W9 hSw; (try dsimp only at hSw); go_simp; first | done | with_reducible rfl)⟩) (by assumption) ?_
        simp only [Act.put, List.setIfInBounds_toArray]; try simp only [List.set_cons_zero, List.set_cons_succ]
        have cc : w8.cell? ⟨gS, q, none⟩ = some (.slice e1.A e1.n e1.c) := by
          have p4 := XX.out.cellAt q (show q < ns * 1 by omega)
          have p5 := flat_at csL_len ls1 q e1 0 R7.out.at' (by decide)
          rw [Nat.mul_one, Nat.add_zero] at p5
          rw [p5] at p4
          exact p4
        have ff := XX.out.frozenAt q
        refine wpAnyH_ready (rs := [16]) (by kernel_rfl) (by simp) ?_
        refine AllReadyH.cons rfl (fun K hK => ?_) AllReadyH.nil
        go_simp
        have hRS : gR ≠ gS := fun e => R7.out.r2 gR rfl (by rw [e]; rfl)
        have X9 := X8.far (p := ⟨gS, q, none⟩) (u := .slice A8 (e1.n + na) c8) (by simp only; omega)
        have g0 := farcell (j := q) (u := .slice A8 (e1.n + na) c8) hRS g0
        have g1 := farcell (j := q) (u := .slice A8 (e1.n + na) c8) hRS g1
        have y3 := X9.c3
        have y2 := X9.c2
        refine hK.out _ _ (by exact ⟨⟨y3, y2⟩, g0, g1⟩) (fun hHeld => ?_)
        clear hK K
        try dsimp only
        refine wpAnyH_done (by kernel_rfl) ?_ _
        obtain ⟨w9, hw9⟩ : ∃ W6, W6 = w8.setCell ⟨gS, q, none⟩ (.slice A8 (e1.n + na) c8) := ⟨_, rfl⟩
        rw [← hw9] at X9 g0 g1 K8 R8 y2 y3 ⊢
        have hRI := R8.ring (p := p) (x := (0, [])) (A := none) (n := 0) (c := 0) (by omega) ⟨rfl, Nat.le_refl _, by omega, (fun _ => rfl), (fun i z hi => by simp at hi)⟩ (B := w9.heap.size) (fun ad h => by cases h) R8.up (R8.own.own.lt gR rfl).2 (fun k hk => (R8.ours.lt k hk).2) (fun k hk => (R8.rows.own.lt k hk).2)
        have hKF := (K8.set (j := p * 2) (u := .int .i64 0) hgR.1 (fun h => h.2.1 rfl)).set (j := p * 2 + 1) (u := .slice none 0 0) hgR.1 (fun h => h.2.1 rfl)
        have f0 := R8.own.own.frozenAt (p * 2)
        have f1 := R8.own.own.frozenAt (p * 2 + 1)
        have KF := Lib.hid hKF
        have RI := Lib.hid hRI
        have HIS := Lib.hid (show Jp.ringed (Jp.rowed r1 q (e1.l ++ Rp.all (ep.x, ep.l))) p (0, []) = Jp.ringed (Jp.rowed r q (e0.l ++ (CC ++ Rp.all (ep.x, ep.l)))) p (0, []) by
          rw [← MI.out.is, MI.out.el, rowed_twice, ← HC.out, List.append_assoc])
        clear hw9 cc ff XX GG R8 K8 X8 ho8 hg8 hat8 nX hRI hKF y3 s3 s2 s0 s1 R7 X7 K7 RA7
        go_wp2_with fail
        go_end0
        exact ⟨rfl, KF.out, by rw [← HIS.out]; exact RI.out.rm h0⟩
end Go.Proofs.YtcoccegmkcdeiaaDoor

