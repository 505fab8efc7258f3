/- The document's Put, by its contract. -/
import Derived.Test.YtgloibgmaiadfaaGreatDoorJRefPush
import Derived.Test.YtgloibgmaiadfaaGreatDoorM5
import Derived.Test.YtgloibgmaiadfaaGreatDoorM7
import Derived.Test.YtgloibgmaiadfaaGreatDoorM6
namespace Go.Proofs.YtgloibgmaiadfaaGreatDoor
open Go.RowKit
set_option linter.unusedVariables false

set_option maxRecDepth 100000 in
set_option maxHeartbeats 2000000 in
theorem jrefPut_any {F : Nat → Prop} (d : Ad) (r : Jp.Rn) (n g : Int) (w : World) (h : RM F w d r) (hF : ∀ b, F b → b < w.heap.size) (hlow : Low r) (hg : In64 g) :
    Calls Tryz.prog 8 #[jv d r, .int .i64 n, .int .i64 g] w (TellJE F w (Jp.put r n g)) := by
  obtain ⟨A0, nt, ct, R, nr, cr, S, ns, cs⟩ := d
  have H := Lib.hid h
  have HL := Lib.hid hlow
  obtain ⟨hr1, hr2, hr3⟩ := h.nr
  obtain ⟨hs1, hs2, hs3⟩ := h.ns
  have hr4 := hlow.rings
  have hs4 := hlow.rows
  simp only at hr1 hr2 hr3 hs1 hs2 hs3
  have HFW := Lib.hid hF
  clear h hlow hF
  obtain ⟨V, hV, hX, hZ, hB, hsz⟩ := boxes2 w (.slice A0 nt ct) (.int .i64 r.size) (.slice R nr cr) (.slice S ns cs) (.int .u64 (r.on : Nat)) (.slice none 0 0) (.int .i64 0) (.slice none 0 0) (.slice none 0 0) (.int .u64 0) 27 27
  have E := Lib.hid hV
  have X0 := Lib.hid hX
  have Z0 := Lib.hid hZ
  have B0 := Lib.hid hB
  have SZ := Lib.hid hsz
  have hMY := fun T HT => jrefMay_any ⟨A0, nt, ct, R, nr, cr, S, ns, cs⟩ r T V HT (H.out.below B0.out) HL.out
  unfold jv at hMY
  simp only at hMY
  have MY := Lib.hid hMY
  clear hV hX hB hZ hMY hsz
  unfold jv
  go_enter Tryz.func8, Tryz.ntmps8
  go_wp2_with fail
  rw [← E.out]
  clear E
  by_cases hM : ¬ Jp.May r
  · refine (MY.out false (Lib.hid (by simp [hM]))).mono ?_
    rintro e w1 ⟨rfl, hb1⟩
    have X1 := X0.out.step hb1
    have Z1 := Z0.out.step hb1
    have B1 := held_trans B0.out hb1
    have HP := Lib.hid (Jp.put_arg (r := r) (p := n) (g := g) (.inl hM))
    have d0 := (X1).c0
    have d1 := (X1).c1
    have d2 := (X1).c2
    have d3 := (X1).c3
    have d4 := (X1).c4
    have y0 := (Z1).b5.c0
    have y1 := (Z1).b5.c1
    have y2 := (Z1).b5.c2
    have y3 := (Z1).b5.c3
    have y4 := (Z1).b5.c4
    have g0 := (Z1).f0
    have g1 := (Z1).f1
    have g2 := (Z1).f2
    have g3 := (Z1).f3
    have g4 := (Z1).f4
    have HF := Lib.hid (TellJE.is (F := F) (w0 := w) (d := ⟨A0, nt, ct, R, nr, cr, S, ns, cs⟩) (r := r) (e := 1) (HP.out) ((H.out.below (below_put (b := w.heap.size + 1) B1 (by omega) (.slice A0 nt ct) (.int .i64 r.size) (.slice R nr cr) (.slice S ns cs) (.int .u64 (r.on : Nat)))).mono More.in) (below_put (b := w.heap.size + 1) B1 (by omega) (.slice A0 nt ct) (.int .i64 r.size) (.slice R nr cr) (.slice S ns cs) (.int .u64 (r.on : Nat))))
    obtain ⟨k0, k1, k2, k3, k4⟩ := put5_told (Z1) (.slice A0 nt ct) (.int .i64 r.size) (.slice R nr cr) (.slice S ns cs) (.int .u64 (r.on : Nat))
    unfold put5 at k0 k1 k2 k3 k4
    go_wp2_with fail
    refine bodyPost_ret ?_ rfl HF.out
    simp [results, Tryz.results8, go_sem, k0, k1, k2, k3, k4, jv]
  have hM := Classical.not_not.1 hM
  refine (MY.out true (Lib.hid (by simp [hM]))).mono ?_
  rintro e w1 ⟨rfl, hb1⟩
  have X1 := Lib.hid (X0.out.step hb1)
  have Z1 := Lib.hid (Z0.out.step hb1)
  have B1 := Lib.hid (held_trans B0.out hb1)
  have SZ1 := Lib.hid (Nat.lt_of_lt_of_le SZ.out hb1.size)
  have q2 := X1.out.c2
  clear hb1 X0 Z0 B0 MY
  by_cases n0 : n < 0
  · have HP := Lib.hid (Jp.put_arg (r := r) (p := n) (g := g) (.inr (.inl n0)))
    clear hM
    have d0 := ((X1.out)).c0
    have d1 := ((X1.out)).c1
    have d2 := ((X1.out)).c2
    have d3 := ((X1.out)).c3
    have d4 := ((X1.out)).c4
    have y0 := ((Z1.out)).b5.c0
    have y1 := ((Z1.out)).b5.c1
    have y2 := ((Z1.out)).b5.c2
    have y3 := ((Z1.out)).b5.c3
    have y4 := ((Z1.out)).b5.c4
    have g0 := ((Z1.out)).f0
    have g1 := ((Z1.out)).f1
    have g2 := ((Z1.out)).f2
    have g3 := ((Z1.out)).f3
    have g4 := ((Z1.out)).f4
    have HF := Lib.hid (TellJE.is (F := F) (w0 := w) (d := ⟨A0, nt, ct, R, nr, cr, S, ns, cs⟩) (r := r) (e := 1) (HP.out) ((H.out.below (below_put (b := w.heap.size + 1) (B1.out) (by omega) (.slice A0 nt ct) (.int .i64 r.size) (.slice R nr cr) (.slice S ns cs) (.int .u64 (r.on : Nat)))).mono More.in) (below_put (b := w.heap.size + 1) (B1.out) (by omega) (.slice A0 nt ct) (.int .i64 r.size) (.slice R nr cr) (.slice S ns cs) (.int .u64 (r.on : Nat))))
    obtain ⟨k0, k1, k2, k3, k4⟩ := put5_told ((Z1.out)) (.slice A0 nt ct) (.int .i64 r.size) (.slice R nr cr) (.slice S ns cs) (.int .u64 (r.on : Nat))
    unfold put5 at k0 k1 k2 k3 k4
    go_wp2_with fail
    refine bodyPost_ret ?_ rfl HF.out
    simp [results, Tryz.results8, go_sem, k0, k1, k2, k3, k4, jv]
  by_cases n1 : (nr : Int) ≤ n
  · have HP := Lib.hid (Jp.put_arg (r := r) (p := n) (g := g) (.inr (.inr (.inl (by rw [hr1]; exact n1)))))
    clear hM
    have d0 := ((X1.out)).c0
    have d1 := ((X1.out)).c1
    have d2 := ((X1.out)).c2
    have d3 := ((X1.out)).c3
    have d4 := ((X1.out)).c4
    have y0 := ((Z1.out)).b5.c0
    have y1 := ((Z1.out)).b5.c1
    have y2 := ((Z1.out)).b5.c2
    have y3 := ((Z1.out)).b5.c3
    have y4 := ((Z1.out)).b5.c4
    have g0 := ((Z1.out)).f0
    have g1 := ((Z1.out)).f1
    have g2 := ((Z1.out)).f2
    have g3 := ((Z1.out)).f3
    have g4 := ((Z1.out)).f4
    have HF := Lib.hid (TellJE.is (F := F) (w0 := w) (d := ⟨A0, nt, ct, R, nr, cr, S, ns, cs⟩) (r := r) (e := 1) (HP.out) ((H.out.below (below_put (b := w.heap.size + 1) (B1.out) (by omega) (.slice A0 nt ct) (.int .i64 r.size) (.slice R nr cr) (.slice S ns cs) (.int .u64 (r.on : Nat)))).mono More.in) (below_put (b := w.heap.size + 1) (B1.out) (by omega) (.slice A0 nt ct) (.int .i64 r.size) (.slice R nr cr) (.slice S ns cs) (.int .u64 (r.on : Nat))))
    obtain ⟨k0, k1, k2, k3, k4⟩ := put5_told ((Z1.out)) (.slice A0 nt ct) (.int .i64 r.size) (.slice R nr cr) (.slice S ns cs) (.int .u64 (r.on : Nat))
    unfold put5 at k0 k1 k2 k3 k4
    go_wp2_with fail
    refine bodyPost_ret ?_ rfl HF.out
    simp [results, Tryz.results8, go_sem, k0, k1, k2, k3, k4, jv]
  by_cases l1 : g < 1
  · have HP := Lib.hid (Jp.put_arg (r := r) (p := n) (g := g) (.inr (.inr (.inr l1))))
    clear hM
    have d0 := ((X1.out)).c0
    have d1 := ((X1.out)).c1
    have d2 := ((X1.out)).c2
    have d3 := ((X1.out)).c3
    have d4 := ((X1.out)).c4
    have y0 := ((Z1.out)).b5.c0
    have y1 := ((Z1.out)).b5.c1
    have y2 := ((Z1.out)).b5.c2
    have y3 := ((Z1.out)).b5.c3
    have y4 := ((Z1.out)).b5.c4
    have g0 := ((Z1.out)).f0
    have g1 := ((Z1.out)).f1
    have g2 := ((Z1.out)).f2
    have g3 := ((Z1.out)).f3
    have g4 := ((Z1.out)).f4
    have HF := Lib.hid (TellJE.is (F := F) (w0 := w) (d := ⟨A0, nt, ct, R, nr, cr, S, ns, cs⟩) (r := r) (e := 1) (HP.out) ((H.out.below (below_put (b := w.heap.size + 1) (B1.out) (by omega) (.slice A0 nt ct) (.int .i64 r.size) (.slice R nr cr) (.slice S ns cs) (.int .u64 (r.on : Nat)))).mono More.in) (below_put (b := w.heap.size + 1) (B1.out) (by omega) (.slice A0 nt ct) (.int .i64 r.size) (.slice R nr cr) (.slice S ns cs) (.int .u64 (r.on : Nat))))
    obtain ⟨k0, k1, k2, k3, k4⟩ := put5_told ((Z1.out)) (.slice A0 nt ct) (.int .i64 r.size) (.slice R nr cr) (.slice S ns cs) (.int .u64 (r.on : Nat))
    unfold put5 at k0 k1 k2 k3 k4
    go_wp2_with fail
    refine bodyPost_ret ?_ rfl HF.out
    simp [results, Tryz.results8, go_sem, k0, k1, k2, k3, k4, jv]
  have HNA := Lib.hid (show ¬ (¬ Jp.May r ∨ n < 0 ∨ (r.rings.length : Int) ≤ n ∨ g < 1) from fun h => by
    rcases h with h | h | h | h
    · exact h hM
    · exact n0 h
    · exact n1 (by rw [← hr1]; exact h)
    · exact l1 h)
  have hAL := jrefAll_any ⟨A0, nt, ct, R, nr, cr, S, ns, cs⟩ r w1 (H.out.below B1.out) HL.out
  unfold jv at hAL
  simp only at hAL
  have AL := Lib.hid hAL
  have HMM := Lib.hid hM
  have q0 := X1.out.c0
  have q1 := X1.out.c1
  have q3 := X1.out.c3
  have q4 := X1.out.c4
  clear hM hAL
  go_wp2_with fail
  refine AL.out.mono ?_
  rintro e w2 ⟨A2, n2, c2, rfl, hr2', _, hb2⟩
  have HN := Lib.hid (in_any A2 n2 c2 (Jp.all r) g w2 w2.heap.size (Lib.hid hr2'.len) (by have := hr2'.cap; have := hr2'.most; omega) hr2'.row)
  have X2 := Lib.hid (X1.out.step hb2)
  have Z2 := Lib.hid (Z1.out.step hb2)
  have B2 := Lib.hid (held_trans B1.out hb2)
  have SZ2 := Lib.hid (Nat.lt_of_lt_of_le SZ1.out hb2.size)
  clear hr2' hb2 AL q0 q1 q2 q3 q4 X1 Z1 B1
  go_wp2_with fail
  refine HN.out.mono ?_
  rintro e w3 ⟨rfl, rfl⟩
  by_cases hh : Tp.has (Jp.all r) g = true
  · have HP := Lib.hid (Jp.put_there HNA.out hh)
    rw [hh]
    clear HN
    have d0 := ((X2.out)).c0
    have d1 := ((X2.out)).c1
    have d2 := ((X2.out)).c2
    have d3 := ((X2.out)).c3
    have d4 := ((X2.out)).c4
    have y0 := ((Z2.out)).b5.c0
    have y1 := ((Z2.out)).b5.c1
    have y2 := ((Z2.out)).b5.c2
    have y3 := ((Z2.out)).b5.c3
    have y4 := ((Z2.out)).b5.c4
    have g0 := ((Z2.out)).f0
    have g1 := ((Z2.out)).f1
    have g2 := ((Z2.out)).f2
    have g3 := ((Z2.out)).f3
    have g4 := ((Z2.out)).f4
    have HF := Lib.hid (TellJE.is (F := F) (w0 := w) (d := ⟨A0, nt, ct, R, nr, cr, S, ns, cs⟩) (r := r) (e := 5) (HP.out) ((H.out.below (below_put (b := w.heap.size + 1) (B2.out) (by omega) (.slice A0 nt ct) (.int .i64 r.size) (.slice R nr cr) (.slice S ns cs) (.int .u64 (r.on : Nat)))).mono More.in) (below_put (b := w.heap.size + 1) (B2.out) (by omega) (.slice A0 nt ct) (.int .i64 r.size) (.slice R nr cr) (.slice S ns cs) (.int .u64 (r.on : Nat))))
    obtain ⟨k0, k1, k2, k3, k4⟩ := put5_told ((Z2.out)) (.slice A0 nt ct) (.int .i64 r.size) (.slice R nr cr) (.slice S ns cs) (.int .u64 (r.on : Nat))
    unfold put5 at k0 k1 k2 k3 k4
    go_wp2_with fail
    refine bodyPost_ret ?_ rfl HF.out
    simp [results, Tryz.results8, go_sem, k0, k1, k2, k3, k4, jv]
  have hf := has_false hh
  rw [hf]
  obtain ⟨k, rfl⟩ := Int.eq_ofNat_of_zero_le (show 0 ≤ n by omega)
  have hON := fun W => jrefOn_any ⟨A0, nt, ct, R, nr, cr, S, ns, cs⟩ r (k : Int) W H.out.on
  obtain ⟨ob, hob⟩ : ∃ ob, ob = Jp.onP r (k : Int) := ⟨_, rfl⟩
  rw [← hob] at hON
  unfold jv at hON
  simp only at hON
  have ON := Lib.hid hON
  have HOB := Lib.hid hob
  have q0 := X2.out.c0
  have q1 := X2.out.c1
  have q2 := X2.out.c2
  have q3 := X2.out.c3
  have q4 := X2.out.c4
  have hkn : k < nr := by omega
  have HF1 := Lib.hid hf
  clear hON hob HN hh hf n0 n1 l1
  go_wp2_with fail
  refine (ON.out _).mono ?_
  rintro e w4 ⟨rfl, hb4⟩
  have X4 := Lib.hid (X2.out.step hb4)
  have Z4 := Lib.hid (Z2.out.step hb4)
  have B4 := Lib.hid (held_trans B2.out hb4)
  have SZ4 := Lib.hid (Nat.lt_of_lt_of_le SZ2.out hb4.size)
  clear hb4 ON X2 Z2 B2 q0 q1 q2 q3 q4
  cases ob with
  | false =>
    have HP := Lib.hid (Jp.put_off HNA.out HF1.out HOB.out.symm)
    have d0 := ((X4.out)).c0
    have d1 := ((X4.out)).c1
    have d2 := ((X4.out)).c2
    have d3 := ((X4.out)).c3
    have d4 := ((X4.out)).c4
    have y0 := ((Z4.out)).b5.c0
    have y1 := ((Z4.out)).b5.c1
    have y2 := ((Z4.out)).b5.c2
    have y3 := ((Z4.out)).b5.c3
    have y4 := ((Z4.out)).b5.c4
    have g0 := ((Z4.out)).f0
    have g1 := ((Z4.out)).f1
    have g2 := ((Z4.out)).f2
    have g3 := ((Z4.out)).f3
    have g4 := ((Z4.out)).f4
    have HF := Lib.hid (TellJE.is (F := F) (w0 := w) (d := ⟨A0, nt, ct, R, nr, cr, S, ns, cs⟩) (r := r) (e := 4) (HP.out) ((H.out.below (below_put (b := w.heap.size + 1) (B4.out) (by omega) (.slice A0 nt ct) (.int .i64 r.size) (.slice R nr cr) (.slice S ns cs) (.int .u64 (r.on : Nat)))).mono More.in) (below_put (b := w.heap.size + 1) (B4.out) (by omega) (.slice A0 nt ct) (.int .i64 r.size) (.slice R nr cr) (.slice S ns cs) (.int .u64 (r.on : Nat))))
    obtain ⟨k0, k1, k2, k3, k4⟩ := put5_told ((Z4.out)) (.slice A0 nt ct) (.int .i64 r.size) (.slice R nr cr) (.slice S ns cs) (.int .u64 (r.on : Nat))
    unfold put5 at k0 k1 k2 k3 k4
    go_wp2_with fail
    refine bodyPost_ret ?_ rfl HF.out
    simp [results, Tryz.results8, go_sem, k0, k1, k2, k3, k4, jv]
  | true =>
    have HP := Lib.hid (Jp.put_done HNA.out HF1.out HOB.out.symm)
    obtain ⟨x, hx⟩ : ∃ x, r.rings[k]? = some x := ⟨_, List.getElem?_eq_getElem (by omega)⟩
    obtain ⟨b, off, A, m, c, hR, hbw, c00, c01, hrow0, hAF⟩ := H.out.ringAt2 hx
    have c0 := keepcell B4.out c00
    have c1 := keepcell B4.out c01
    have HR := Lib.hid (hrow0.below B4.out)
    have hm : m ≤ 400 := by rw [← hrow0.len]; exact HL.out.ring x (List.mem_of_getElem? hx)
    simp only at hR
    subst hR
    have HXR := Lib.hid (show Jp.ringAt r k = x by unfold Jp.ringAt; rw [hx]; rfl)
    obtain ⟨nd, hnd, hnl⟩ := Jp.node_at HMM.out.tree (k := k) (by rw [← HMM.out.rings, hr1]; exact hkn)
    have hnl' : nd < ns := by rw [← hs1, HMM.out.rows]; exact hnl
    have HND := Lib.hid hnd
    have HAF := Lib.hid hAF
    have hsp := Jp.put_spill x g r.size
    obtain ⟨pr, hpr⟩ : ∃ pr, pr = Rp.put x g r.size := ⟨_, rfl⟩
    have hPT := fun W (hv : Row W A m c x.2) => refPut_at x.1 A m c x.2 g r.size W hv (by omega)
    rw [show Rp.put (x.1, x.2) g r.size = pr from hpr.symm] at hPT
    rw [← hpr] at hsp
    have hxl := hrow0.len
    have PT := Lib.hid hPT
    have HPR := Lib.hid hpr
    have HSP := Lib.hid hsp
    have HXL := Lib.hid hxl
    have i0 : (0 : Int) ≤ (k : Int) := by omega
    have i1 : (k : Int) < (nr : Int) := by omega
    have q0 := X4.out.c0
    have q1 := X4.out.c1
    have q2 := X4.out.c2
    have q3 := X4.out.c3
    have q4 := X4.out.c4
    clear hx hrow0 c00 c01 hnd hnl hAF hsp hpr hPT hxl HNA HF1 HOB HMM
    go_upto_region 7 with fail
    go_cut [8, 9] (fun p s wx => ∃ (X : Nat) (A8 : Option Addr) (n8 c8 : Nat) (B8 : Option Addr) (m8 d8 : Nat), p = .pointer (some ⟨X, 0, none⟩) ∧ s = .slice B8 m8 d8 ∧ Hid (wx.cell? ⟨X, 0, none⟩ = some (.int .i64 pr.1.1)) ∧ Hid (wx.cell? ⟨X, 1, none⟩ = some (.slice A8 n8 c8)) ∧ Hid (Row wx A8 n8 c8 pr.1.2) ∧ Hid (pr.1.2 ≠ [] → ∀ ad, A8 = some ad → More F w4 ad.block) ∧ Hid (Row wx B8 m8 d8 pr.2) ∧ Hid (From w4.heap.size B8) ∧ Hid (w4.heap.size ≤ X) ∧ Hid (Below w4.heap.size w4 wx))
    case first =>
      go_wp2_with fail
      refine wp_region_held_drew (S := fun w' => (w'.cell? ⟨w.heap.size, 0, none⟩ = some (.slice A0 nt ct) ∧ w'.cell? ⟨w.heap.size, 1, none⟩ = some (.int .i64 r.size) ∧ w'.cell? ⟨w.heap.size, 2, none⟩ = some (.slice (some ⟨b, off, none⟩) nr cr) ∧ w'.cell? ⟨w.heap.size, 3, none⟩ = some (.slice S ns cs) ∧ w'.cell? ⟨w.heap.size, 4, none⟩ = some (.int .u64 (r.on : Nat))) ∧ w'.cell? ⟨b, off + k * 2, none⟩ = some (.int .i64 x.1) ∧ w'.cell? ⟨b, off + k * 2 + 1, none⟩ = some (.slice A m c)) (by kernel_rfl) ⟨⟨q0, q1, q2, q3, q4⟩, c0, c1⟩ (fun hHeld => ?_)
      refine wpAnyH_takesJ (i := 0) (v := (.pointer (some ⟨w.heap.size, 2, none⟩))) (some 41) rfl rfl (by kernel_rfl) (by kernel_rfl) (by kernel_rfl) (fun _ _ _ h => h) (Or.inl ⟨by rfl, (by intro W9 hSw; (try dsimp only at hSw); go_simp; first | done | with_reducible rfl)⟩) (by assumption) ?_
      simp only [Act.put, List.setIfInBounds_toArray]; try simp only [List.set_cons_zero, List.set_cons_succ]
      refine wpAnyH_takesJ (i := 1) (v := (.slice (some ⟨b, off, none⟩) nr cr)) (some 42) rfl rfl (by kernel_rfl) (by kernel_rfl) (by kernel_rfl) (fun _ _ _ h => h) (Or.inl ⟨by rfl, (by intro W9 hSw; (try dsimp only at hSw); go_simp; first | done | with_reducible rfl)⟩) (by assumption) ?_
      simp only [Act.put, List.setIfInBounds_toArray]; try simp only [List.set_cons_zero, List.set_cons_succ]
      refine wpAnyH_takesJ (i := 2) (v := (.int .i64 (k : Nat))) (some 43) rfl rfl (by kernel_rfl) (by kernel_rfl) (by kernel_rfl) (fun _ _ _ h => h) (Or.inl ⟨by rfl, (by intro W9 hSw; (try dsimp only at hSw); go_simp; first | done | with_reducible rfl)⟩) (by assumption) ?_
      simp only [Act.put, List.setIfInBounds_toArray]; try simp only [List.set_cons_zero, List.set_cons_succ]
      refine wpAnyH_takesJ (i := 3) (v := (.pointer (some ⟨b, off + k * 2, none⟩))) (some 44) rfl rfl (by kernel_rfl) (by kernel_rfl) (by kernel_rfl) (fun _ _ _ h => h) (Or.inl ⟨by rfl, (by intro W9 hSw; (try dsimp only at hSw); go_simp; first | done | with_reducible rfl)⟩) (by assumption) ?_
      simp only [Act.put, List.setIfInBounds_toArray]; try simp only [List.set_cons_zero, List.set_cons_succ]
      refine wpAnyH_takesJ (i := 4) (v := (.agg #[.int .i64 x.1, .slice A m c])) (some 45) rfl rfl (by kernel_rfl) (by kernel_rfl) (by kernel_rfl) (fun _ _ _ h => h) (Or.inl ⟨by rfl, (by intro W9 hSw; (try dsimp only at hSw); go_simp; first | done | with_reducible rfl)⟩) (by assumption) ?_
      simp only [Act.put, List.setIfInBounds_toArray]; try simp only [List.set_cons_zero, List.set_cons_succ]
      refine wpAnyH_takesJ (i := 5) (v := (.int .i64 g)) (some 46) rfl rfl (by kernel_rfl) (by kernel_rfl) (by kernel_rfl) (fun _ _ _ h => h) (Or.inl ⟨by rfl, (by intro W9 hSw; (try dsimp only at hSw); go_simp; first | done | with_reducible rfl)⟩) (by assumption) ?_
      simp only [Act.put, List.setIfInBounds_toArray]; try simp only [List.set_cons_zero, List.set_cons_succ]
      refine wpAnyH_takesJ (i := 6) (v := (.pointer (some ⟨w.heap.size, 1, none⟩))) (some 47) rfl rfl (by kernel_rfl) (by kernel_rfl) (by kernel_rfl) (fun _ _ _ h => h) (Or.inl ⟨by rfl, (by intro W9 hSw; (try dsimp only at hSw); go_simp; first | done | with_reducible rfl)⟩) (by assumption) ?_
      simp only [Act.put, List.setIfInBounds_toArray]; try simp only [List.set_cons_zero, List.set_cons_succ]
      refine wpAnyH_takesJ (i := 7) (v := (.int .i64 r.size)) (some 48) rfl rfl (by kernel_rfl) (by kernel_rfl) (by kernel_rfl) (fun _ _ _ h => h) (Or.inl ⟨by rfl, (by intro W9 hSw; (try dsimp only at hSw); go_simp; first | done | with_reducible rfl)⟩) (by assumption) ?_
      simp only [Act.put, List.setIfInBounds_toArray]; try simp only [List.set_cons_zero, List.set_cons_succ]
      refine wpAnyH_ready (rs := [8, 12]) (by kernel_rfl) (by simp) ?_
      refine AllReadyH.cons rfl (fun K hK => ?_) (AllReadyH.cons rfl (fun K hK => ?_) AllReadyH.nil)
      · go_simp
        go_at_call 28
        refine (PT.out _ (by exact HR.out.drew)).mono ?_
        rintro e w8 ⟨A8, n8, c8, B8, m8, d8, rfl, hr8, ha8, hs8, hf8, hb8⟩
        have hbe : Below w4.heap.size w4 w8 := (Below.refl _ w4).drew.trans (hb8.mono (by simp))
        have X8 := X4.out.step hbe
        refine hK.out _ _ (by exact ⟨⟨X8.c0, X8.c1, X8.c2, X8.c3, X8.c4⟩, keepcell hbe c0, keepcell hbe c1⟩) (fun hHeld => ?_)
        clear hK K
        try dsimp only
        refine wpAnyH_takesJ (i := 9) (v := (.tuple #[.agg #[.int .i64 pr.1.1, .slice A8 n8 c8], .slice B8 m8 d8])) (some 40) rfl rfl (by kernel_rfl) (by kernel_rfl) (by kernel_rfl) (fun _ _ _ h => h) (Or.inl ⟨by rfl, (by intro W9 hSw; (try dsimp only at hSw); go_simp; first | done | with_reducible rfl)⟩) (by assumption) ?_
        simp only [Act.put, List.setIfInBounds_toArray]; try simp only [List.set_cons_zero, List.set_cons_succ]
        refine wpAnyH_takesJ (i := 10) (v := (.agg #[.int .i64 pr.1.1, .slice A8 n8 c8])) (some 50) rfl rfl (by kernel_rfl) (by kernel_rfl) (by kernel_rfl) (fun _ _ _ h => h) (Or.inl ⟨by rfl, (by intro W9 hSw; (try dsimp only at hSw); go_simp; first | done | with_reducible rfl)⟩) (by assumption) ?_
        simp only [Act.put, List.setIfInBounds_toArray]; try simp only [List.set_cons_zero, List.set_cons_succ]
        refine wpAnyH_takesJ (i := 11) (v := (.slice B8 m8 d8)) (some 51) rfl rfl (by kernel_rfl) (by kernel_rfl) (by kernel_rfl) (fun _ _ _ h => h) (Or.inl ⟨by rfl, (by intro W9 hSw; (try dsimp only at hSw); go_simp; first | done | with_reducible rfl)⟩) (by assumption) ?_
        simp only [Act.put, List.setIfInBounds_toArray]; try simp only [List.set_cons_zero, List.set_cons_succ]
        refine wpAnyH_ready (rs := [12]) (by kernel_rfl) (by simp) ?_
        refine AllReadyH.cons rfl (fun K hK => ?_) AllReadyH.nil
        go_simp
        have hb9 := below_new w8 (.cells #[.int .i64 0, .slice none 0 0] 56)
        have X9 := X8.step hb9
        refine hK.out _ _ (by exact ⟨⟨X9.c0, X9.c1, X9.c2, X9.c3, X9.c4⟩, keepcell hb9 (keepcell hbe c0), keepcell hb9 (keepcell hbe c1)⟩) (fun hHeld => ?_)
        clear hK K
        try dsimp only
        refine wpAnyH_ready (rs := [13]) (by kernel_rfl) (by simp) ?_
        refine AllReadyH.cons rfl (fun K hK => ?_) AllReadyH.nil
        go_simp
        have hb7 := below_new w8 (.cells #[.int .i64 pr.1.1, .slice A8 n8 c8] 56)
        have X7 := X8.step hb7
        refine hK.out _ _ (by exact ⟨⟨X7.c0, X7.c1, X7.c2, X7.c3, X7.c4⟩, keepcell hb7 (keepcell hbe c0), keepcell hb7 (keepcell hbe c1)⟩) (fun hHeld => ?_)
        clear hK K
        try dsimp only
        refine wpAnyH_takesJ (i := 14) (v := (.slice B8 m8 d8)) (some 9) rfl rfl (by kernel_rfl) (by kernel_rfl) (by kernel_rfl) (fun _ _ _ h => h) (Or.inl ⟨by rfl, (by intro W9 hSw; (try dsimp only at hSw); go_simp; first | done | with_reducible rfl)⟩) (by assumption) ?_
        simp only [Act.put, List.setIfInBounds_toArray]; try simp only [List.set_cons_zero, List.set_cons_succ]
        refine wpAnyH_done (by kernel_rfl) ?_ _
        have hLF : pr.1.2 ≠ [] → ∀ ad, A8 = some ad → More F w4 ad.block := fun hne ad hA => by
          rcases ha8 with ⟨e1, e2⟩ | hf
          · rw [e1] at hA
            rw [e2] at hne
            exact .inl (HAF.out hne ad hA)
          · exact .inr (hf ad hA)
        have HX0 := Lib.hid (show (w8.alloc (.cells #[.int .i64 pr.1.1, .slice A8 n8 c8] 56)).cell? ⟨w8.heap.size, 0, none⟩ = some (.int .i64 pr.1.1) by rw [World.cell?_alloc_at _ _ _ _ rfl]; rfl)
        have HX1 := Lib.hid (show (w8.alloc (.cells #[.int .i64 pr.1.1, .slice A8 n8 c8] 56)).cell? ⟨w8.heap.size, 1, none⟩ = some (.slice A8 n8 c8) by rw [World.cell?_alloc_at _ _ _ _ rfl]; rfl)
        have R9 := Lib.hid (hr8.below hb7)
        have S9 := Lib.hid (hs8.below hb7)
        have F9 := Lib.hid (show From w4.heap.size B8 from hf8.mono (by simp))
        have L9 := Lib.hid hLF
        have B9 := Lib.hid (hbe.trans (hb7.mono hbe.size))
        have HXF := Lib.hid hbe.size
        clear hr8 hs8 hf8 ha8 hb8 hbe hb9 hb7 X9 X8 X7 hHeld hLF
        go_wp2_with fail
        go_meet
        exact ⟨_, _, _, _, _, _, _, rfl, rfl, HX0, HX1, R9, L9, S9, F9, HXF, B9⟩
      · go_simp
        have hb5 : Below w4.heap.size w4 (w4.alloc (.cells #[.int .i64 0, .slice none 0 0] 56)).drew := (below_new w4 _).drew
        have v0 : (w4.alloc (.cells #[.int .i64 0, .slice none 0 0] 56)).drew.cell? ⟨w4.heap.size, 0, none⟩ = some (.int .i64 0) := by
          show (w4.alloc (.cells #[.int .i64 0, .slice none 0 0] 56)).cell? ⟨w4.heap.size, 0, none⟩ = _
          rw [World.cell?_alloc_at _ _ _ _ rfl]; rfl
        have v1 : (w4.alloc (.cells #[.int .i64 0, .slice none 0 0] 56)).drew.cell? ⟨w4.heap.size, 1, none⟩ = some (.slice none 0 0) := by
          show (w4.alloc (.cells #[.int .i64 0, .slice none 0 0] 56)).cell? ⟨w4.heap.size, 1, none⟩ = _
          rw [World.cell?_alloc_at _ _ _ _ rfl]; rfl
        have u0 : (w4.alloc (.cells #[.int .i64 0, .slice none 0 0] 56)).drew.frozen? ⟨w4.heap.size, 0, none⟩ = false := by
          show (w4.alloc (.cells #[.int .i64 0, .slice none 0 0] 56)).frozen? ⟨w4.heap.size, 0, none⟩ = _
          rw [World.frozen?_alloc_at _ _ _ _ rfl]
        have u1 : (w4.alloc (.cells #[.int .i64 0, .slice none 0 0] 56)).drew.frozen? ⟨w4.heap.size, 1, none⟩ = false := by
          show (w4.alloc (.cells #[.int .i64 0, .slice none 0 0] 56)).frozen? ⟨w4.heap.size, 1, none⟩ = _
          rw [World.frozen?_alloc_at _ _ _ _ rfl]
        have hsz5 : (w4.alloc (.cells #[.int .i64 0, .slice none 0 0] 56)).drew.heap.size = w4.heap.size + 1 := by simp
        obtain ⟨w5, hw5⟩ : ∃ w5, w5 = (w4.alloc (.cells #[.int .i64 0, .slice none 0 0] 56)).drew := ⟨_, rfl⟩
        rw [← hw5] at hb5 v0 v1 u0 u1 hsz5
        rw [← hw5]
        clear hw5
        have X5 := X4.out.step hb5
        refine hK.out _ _ (by exact ⟨⟨X5.c0, X5.c1, X5.c2, X5.c3, X5.c4⟩, keepcell hb5 c0, keepcell hb5 c1⟩) (fun hHeld => ?_)
        clear hK K
        try dsimp only
        refine wpAnyH_ready (rs := [8]) (by kernel_rfl) (by simp) ?_
        refine AllReadyH.cons rfl (fun K hK => ?_) AllReadyH.nil
        go_simp
        go_at_call 28
        refine (PT.out _ (by exact HR.out.below hb5)).mono ?_
        rintro e w8 ⟨A8, n8, c8, B8, m8, d8, rfl, hr8, ha8, hs8, hf8, hb8⟩
        have hbe : Below w4.heap.size w4 w8 := hb5.trans (hb8.mono (by omega))
        have X8 := X4.out.step hbe
        have x0 := keepcell hb8 v0
        have x1 := keepcell hb8 v1
        have z0 := keepfree hb8 v0 u0
        have z1 := keepfree hb8 v1 u1
        refine hK.out _ _ (by exact ⟨⟨X8.c0, X8.c1, X8.c2, X8.c3, X8.c4⟩, keepcell hbe c0, keepcell hbe c1⟩) (fun hHeld => ?_)
        clear hK K v0 v1 u0 u1
        try dsimp only
        refine wpAnyH_takesJ (i := 9) (v := (.tuple #[.agg #[.int .i64 pr.1.1, .slice A8 n8 c8], .slice B8 m8 d8])) (some 40) rfl rfl (by kernel_rfl) (by kernel_rfl) (by kernel_rfl) (fun _ _ _ h => h) (Or.inl ⟨by rfl, (by intro W9 hSw; (try dsimp only at hSw); go_simp; first | done | with_reducible rfl)⟩) (by assumption) ?_
        simp only [Act.put, List.setIfInBounds_toArray]; try simp only [List.set_cons_zero, List.set_cons_succ]
        refine wpAnyH_takesJ (i := 10) (v := (.agg #[.int .i64 pr.1.1, .slice A8 n8 c8])) (some 50) rfl rfl (by kernel_rfl) (by kernel_rfl) (by kernel_rfl) (fun _ _ _ h => h) (Or.inl ⟨by rfl, (by intro W9 hSw; (try dsimp only at hSw); go_simp; first | done | with_reducible rfl)⟩) (by assumption) ?_
        simp only [Act.put, List.setIfInBounds_toArray]; try simp only [List.set_cons_zero, List.set_cons_succ]
        refine wpAnyH_takesJ (i := 11) (v := (.slice B8 m8 d8)) (some 51) rfl rfl (by kernel_rfl) (by kernel_rfl) (by kernel_rfl) (fun _ _ _ h => h) (Or.inl ⟨by rfl, (by intro W9 hSw; (try dsimp only at hSw); go_simp; first | done | with_reducible rfl)⟩) (by assumption) ?_
        simp only [Act.put, List.setIfInBounds_toArray]; try simp only [List.set_cons_zero, List.set_cons_succ]
        refine wpAnyH_ready (rs := [13]) (by kernel_rfl) (by simp) ?_
        refine AllReadyH.cons rfl (fun K hK => ?_) AllReadyH.nil
        go_simp
        have hlt0 := X4.out.lt
        have hlb : b < w4.heap.size := World.block_lt_of_cell? w4 _ c0
        have X7 := (X8.far (p := ⟨w4.heap.size, 0, none⟩) (u := .int .i64 pr.1.1) (by simp only; omega)).far (p := ⟨w4.heap.size, 1, none⟩) (u := .slice A8 n8 c8) (by simp only; omega)
        refine hK.out _ _ (by exact ⟨⟨X7.c0, X7.c1, X7.c2, X7.c3, X7.c4⟩, farcell (by omega) (farcell (by omega) (keepcell hbe c0)), farcell (by omega) (farcell (by omega) (keepcell hbe c1))⟩) (fun hHeld => ?_)
        clear hK K
        try dsimp only
        refine wpAnyH_takesJ (i := 14) (v := (.slice B8 m8 d8)) (some 9) rfl rfl (by kernel_rfl) (by kernel_rfl) (by kernel_rfl) (fun _ _ _ h => h) (Or.inl ⟨by rfl, (by intro W9 hSw; (try dsimp only at hSw); go_simp; first | done | with_reducible rfl)⟩) (by assumption) ?_
        simp only [Act.put, List.setIfInBounds_toArray]; try simp only [List.set_cons_zero, List.set_cons_succ]
        refine wpAnyH_done (by kernel_rfl) ?_ _
        obtain ⟨t0, t1⟩ := told2 (u := .int .i64 pr.1.1) (v := .slice A8 n8 c8) x0 x1
        have HX0 := Lib.hid t0
        have HX1 := Lib.hid t1
        have hne : ∀ ad, More F w4 ad → pr.1.2 ≠ [] → True := fun _ _ _ => trivial
        have hfar : pr.1.2 ≠ [] → ∀ ad, A8 = some ad → ad.block ≠ w4.heap.size := fun hne ad hA => by
          rcases ha8 with ⟨e1, e2⟩ | hf
          · rw [e1] at hA
            rw [e2] at hne
            have := HFW.out _ (HAF.out hne ad hA)
            have := B4.out.size
            omega
          · have := hf ad hA
            omega
        have hfar2 : pr.2 ≠ [] → ∀ ad, B8 = some ad → ad.block ≠ w4.heap.size := fun hne ad hA => by
          have := hf8 ad hA
          omega
        have hLF : pr.1.2 ≠ [] → ∀ ad, A8 = some ad → More F w4 ad.block := fun hne ad hA => by
          rcases ha8 with ⟨e1, e2⟩ | hf
          · rw [e1] at hA
            rw [e2] at hne
            exact .inl (HAF.out hne ad hA)
          · exact .inr (by have := hf ad hA; omega)
        have R9 := Lib.hid (row_farj (j := 1) (u := .slice A8 n8 c8) (row_farj (j := 0) (u := .int .i64 pr.1.1) hr8 hfar) hfar)
        have S9 := Lib.hid (row_farj (j := 1) (u := .slice A8 n8 c8) (row_farj (j := 0) (u := .int .i64 pr.1.1) hs8 hfar2) hfar2)
        have F9 := Lib.hid (show From w4.heap.size B8 from hf8.mono (by omega))
        have L9 := Lib.hid hLF
        have B9 := Lib.hid ((hbe.setCell (p := ⟨w4.heap.size, 0, none⟩) (Nat.le_refl _) (.int .i64 pr.1.1)).setCell (p := ⟨w4.heap.size, 1, none⟩) (Nat.le_refl _) (.slice A8 n8 c8))
        have HXF := Lib.hid (Nat.le_refl w4.heap.size)
        clear hr8 hs8 hf8 ha8 hb8 hbe hb5 X8 X7 hHeld hLF hfar hfar2 t0 t1 x0 x1 z0 z1 hne
        go_wp2_with fail
        go_meet
        exact ⟨_, _, _, _, _, _, _, rfl, rfl, HX0, HX1, R9, L9, S9, F9, HXF, B9⟩
    case rest =>
      obtain ⟨X, A8, n8, c8, B8, m8, d8, rfl, rfl, HX0, HX1, R9, L9, S9, F9, HXF, B9⟩ := hcut
      obtain ⟨rr, hrr⟩ : ∃ x, r.rows[nd]? = some x := ⟨_, List.getElem?_eq_getElem (by omega)⟩
      obtain ⟨b2, off2, A6, m6, c6, hS2, hb2w, s00, hrow6⟩ := H.out.rowAt hrr
      simp only at hS2
      subst hS2
      have hm6 : m6 ≤ 400 := by rw [← hrow6.len]; exact HL.out.row rr (List.mem_of_getElem? hrr)
      have HRR := Lib.hid (show Jp.rowAt r nd = rr by unfold Jp.rowAt; rw [hrr]; rfl)
      have hrow7 := hrow6.below B4.out
      have s4 := keepcell B9.out (keepcell B4.out s00)
      have HR6 := Lib.hid (hrow7.below B9.out)
      have X5 := Lib.hid (X4.out.step B9.out)
      have Z5 := Lib.hid (Z4.out.step B9.out)
      have B5h := Lib.hid (held_trans B4.out B9.out)
      have SZ5 := Lib.hid B9.out.size
      have ND := Lib.hid (refNode_any A0 nt ct r.tree (k : Int) wc (Lib.hid H.out.tlen) H.out.tmax (Lib.hid H.out.fit) (H.out.below B5h.out).tree)
      have a0 := X5.out.c0
      clear hrr s00 hrow6 hrow7 q0 q1 q2 q3 q4 c0 c1 X4 Z4 B4 HR PT B9
      go_wp2_with fail
      refine ND.out.mono ?_
      rintro e w10 ⟨rfl, hb10⟩
      rw [HND.out]
      have X6 := Lib.hid (X5.out.step hb10)
      have Z6 := Lib.hid (Z5.out.step hb10)
      have B6 := Lib.hid (held_trans B5h.out hb10)
      have SZ6 := Lib.hid (Nat.le_trans SZ5.out hb10.size)
      have HR7 := Lib.hid (HR6.out.below hb10)
      have R10 := Lib.hid (R9.out.below hb10)
      have S10 := Lib.hid (S9.out.below hb10)
      have x0 := keepcell hb10 HX0.out
      have x1 := keepcell hb10 HX1.out
      have s6 := keepcell hb10 s4
      have q0 := X6.out.c0
      have q1 := X6.out.c1
      have q2 := X6.out.c2
      have q3 := X6.out.c3
      have q4 := X6.out.c4
      have j0 : (0 : Int) ≤ (nd : Int) := by omega
      have j1 : (nd : Int) < (ns : Int) := by omega
      have hm8 : m8 ≤ 401 := by have := S10.out.len; have := HSP.out.1; have := HXL.out; omega
      clear hb10 a0 X5 Z5 B5h SZ5 HR6 R9 S9 HX0 HX1 s4 ND
      go_wp2_with fail
      refine wp_region_held_drew (S := fun w' => (w'.cell? ⟨w.heap.size, 0, none⟩ = some (.slice A0 nt ct) ∧ w'.cell? ⟨w.heap.size, 1, none⟩ = some (.int .i64 r.size) ∧ w'.cell? ⟨w.heap.size, 2, none⟩ = some (.slice (some ⟨b, off, none⟩) nr cr) ∧ w'.cell? ⟨w.heap.size, 3, none⟩ = some (.slice (some ⟨b2, off2, none⟩) ns cs) ∧ w'.cell? ⟨w.heap.size, 4, none⟩ = some (.int .u64 (r.on : Nat))) ∧ w'.cell? ⟨X, 0, none⟩ = some (.int .i64 pr.1.1) ∧ w'.cell? ⟨X, 1, none⟩ = some (.slice A8 n8 c8) ∧ w'.cell? ⟨b2, off2 + nd, none⟩ = some (.slice A6 m6 c6)) (by kernel_rfl) ⟨⟨q0, q1, q2, q3, q4⟩, x0, x1, s6⟩ (fun hHeld => ?_)
      refine wpAnyH_takesJ (i := 0) (v := (.agg #[.slice A0 nt ct, .int .i64 r.size, .slice (some ⟨b, off, none⟩) nr cr, .slice (some ⟨b2, off2, none⟩) ns cs, .int .u64 (r.on : Nat)])) (some 56) rfl rfl (by kernel_rfl) (by kernel_rfl) (by kernel_rfl) (fun _ _ _ h => h) (Or.inl ⟨by rfl, (by intro W9 hSw; (try dsimp only at hSw); go_simp; first | done | with_reducible rfl)⟩) (by assumption) ?_
      simp only [Act.put, List.setIfInBounds_toArray]; try simp only [List.set_cons_zero, List.set_cons_succ]
      refine wpAnyH_takesJ (i := 1) (v := (.int .i64 (k : Nat))) (some 57) rfl rfl (by kernel_rfl) (by kernel_rfl) (by kernel_rfl) (fun _ _ _ h => h) (Or.inl ⟨by rfl, (by intro W9 hSw; (try dsimp only at hSw); go_simp; first | done | with_reducible rfl)⟩) (by assumption) ?_
      simp only [Act.put, List.setIfInBounds_toArray]; try simp only [List.set_cons_zero, List.set_cons_succ]
      refine wpAnyH_takesJ (i := 2) (v := (.agg #[.int .i64 pr.1.1, .slice A8 n8 c8])) (some 58) rfl rfl (by kernel_rfl) (by kernel_rfl) (by kernel_rfl) (fun _ _ _ h => h) (Or.inl ⟨by rfl, (by intro W9 hSw; (try dsimp only at hSw); go_simp; first | done | with_reducible rfl)⟩) (by assumption) ?_
      simp only [Act.put, List.setIfInBounds_toArray]; try simp only [List.set_cons_zero, List.set_cons_succ]
      refine wpAnyH_takesJ (i := 4) (v := (.int .i64 (nd : Nat))) (some 60) rfl rfl (by kernel_rfl) (by kernel_rfl) (by kernel_rfl) (fun _ _ _ h => h) (Or.inl ⟨by rfl, (by intro W9 hSw; (try dsimp only at hSw); go_simp; first | done | with_reducible rfl)⟩) (by assumption) ?_
      simp only [Act.put, List.setIfInBounds_toArray]; try simp only [List.set_cons_zero, List.set_cons_succ]
      refine wpAnyH_takesJ (i := 5) (v := (.pointer (some ⟨w.heap.size, 3, none⟩))) (some 61) rfl rfl (by kernel_rfl) (by kernel_rfl) (by kernel_rfl) (fun _ _ _ h => h) (Or.inl ⟨by rfl, (by intro W9 hSw; (try dsimp only at hSw); go_simp; first | done | with_reducible rfl)⟩) (by assumption) ?_
      simp only [Act.put, List.setIfInBounds_toArray]; try simp only [List.set_cons_zero, List.set_cons_succ]
      refine wpAnyH_takesJ (i := 6) (v := (.slice (some ⟨b2, off2, none⟩) ns cs)) (some 62) rfl rfl (by kernel_rfl) (by kernel_rfl) (by kernel_rfl) (fun _ _ _ h => h) (Or.inl ⟨by rfl, (by intro W9 hSw; (try dsimp only at hSw); go_simp; first | done | with_reducible rfl)⟩) (by assumption) ?_
      simp only [Act.put, List.setIfInBounds_toArray]; try simp only [List.set_cons_zero, List.set_cons_succ]
      refine wpAnyH_takesJ (i := 7) (v := (.int .i64 (nd : Nat))) (some 63) rfl rfl (by kernel_rfl) (by kernel_rfl) (by kernel_rfl) (fun _ _ _ h => h) (Or.inl ⟨by rfl, (by intro W9 hSw; (try dsimp only at hSw); go_simp; first | done | with_reducible rfl)⟩) (by assumption) ?_
      simp only [Act.put, List.setIfInBounds_toArray]; try simp only [List.set_cons_zero, List.set_cons_succ]
      refine wpAnyH_takesJ (i := 8) (v := (.pointer (some ⟨b2, off2 + nd, none⟩))) (some 64) rfl rfl (by kernel_rfl) (by kernel_rfl) (by kernel_rfl) (fun _ _ _ h => h) (Or.inl ⟨by rfl, (by intro W9 hSw; (try dsimp only at hSw); go_simp; first | done | with_reducible rfl)⟩) (by assumption) ?_
      simp only [Act.put, List.setIfInBounds_toArray]; try simp only [List.set_cons_zero, List.set_cons_succ]
      refine wpAnyH_takesJ (i := 9) (v := (.slice A6 m6 c6)) (some 65) rfl rfl (by kernel_rfl) (by kernel_rfl) (by kernel_rfl) (fun _ _ _ h => h) (Or.inl ⟨by rfl, (by intro W9 hSw; (try dsimp only at hSw); go_simp; first | done | with_reducible rfl)⟩) (by assumption) ?_
      simp only [Act.put, List.setIfInBounds_toArray]; try simp only [List.set_cons_zero, List.set_cons_succ]
      refine wpAnyH_takesJ (i := 10) (v := (.slice B8 m8 d8)) (some 66) rfl rfl (by kernel_rfl) (by kernel_rfl) (by kernel_rfl) (fun _ _ _ h => h) (Or.inl ⟨by rfl, (by intro W9 hSw; (try dsimp only at hSw); go_simp; first | done | with_reducible rfl)⟩) (by assumption) ?_
      simp only [Act.put, List.setIfInBounds_toArray]; try simp only [List.set_cons_zero, List.set_cons_succ]
      refine wpAnyH_ready (rs := [3]) (by kernel_rfl) (by simp) ?_
      refine AllReadyH.cons rfl (fun K hK => ?_) AllReadyH.nil
      go_simp
      go_at_call 31
      refine (jringed_any ⟨A0, nt, ct, some ⟨b, off, none⟩, nr, cr, some ⟨b2, off2, none⟩, ns, cs⟩ r k pr.1.1 pr.1.2 A8 n8 c8 w10.drew (((H.out.below B6.out).mono (G := More F w4) More.in).drew) hkn (by simp only; omega) R10.out.drew L9.out).mono ?_
      rintro e w11 ⟨⟨T9, nt9, ct9, R9', nr9, cr9, S9', ns9, cs9⟩, rfl, hm9, hb11⟩
      have hbe := (Below.refl w10.heap.size w10).drew.trans (hb11.mono (by simp))
      have M11 := Lib.hid hm9
      have X11 := Lib.hid (X6.out.step hbe)
      have Z11 := Lib.hid (Z6.out.step hbe)
      have B11 := Lib.hid (held_trans B6.out hbe)
      have SZ11 := Lib.hid hbe.size
      have HR11 := Lib.hid (HR7.out.below hbe)
      have S11 := Lib.hid (S10.out.below hbe)
      have x02 := keepcell hbe x0
      have x12 := keepcell hbe x1
      have s7 := keepcell hbe s6
      obtain ⟨r9, hr9⟩ : ∃ r9, r9 = Jp.ringed r k (pr.1.1, pr.1.2) := ⟨_, rfl⟩
      rw [← hr9] at M11
      rw [← hr9]
      have HR9 := Lib.hid hr9
      have hns9 : nd < ns9 ∧ ns9 ≤ 64 := by
        have h1 := (M11.out.ns).1
        simp only at h1
        have h2 : r9.rows.length = ns := by rw [hr9]; exact hs1
        omega
      obtain ⟨hn9, hl9⟩ := hns9
      refine hK.out _ _ (by exact ⟨⟨X11.out.c0, X11.out.c1, X11.out.c2, X11.out.c3, X11.out.c4⟩, x02, x12, s7⟩) (fun hHeld => ?_)
      clear hK K hm9 hb11 hbe X6 Z6 B6 HR7 S10 R10 x0 x1 s6 hr9 q0 q1 q2 q3 q4
      unfold jv
      try dsimp only
      refine wpAnyH_ready (rs := [11]) (by kernel_rfl) (by simp) ?_
      refine AllReadyH.cons rfl (fun K hK => ?_) AllReadyH.nil
      go_simp
      go_at_call 32
      refine (jbehind_any A6 B8 m6 c6 m8 d8 rr pr.2 w11 HR11.out S11.out (by omega)).mono ?_
      rintro e w12 ⟨A12, m12, c12, rfl, hr12, hf12, hb12⟩
      have M12 := Lib.hid (M11.out.below hb12)
      have X12 := Lib.hid (X11.out.step hb12)
      have Z12 := Lib.hid (Z11.out.step hb12)
      have B12 := Lib.hid (held_trans B11.out hb12)
      have SZ12 := Lib.hid (Nat.le_trans SZ11.out hb12.size)
      have R12 := Lib.hid hr12
      have F12 := Lib.hid (hf12.mono SZ11.out)
      have x03 := keepcell hb12 x02
      have x13 := keepcell hb12 x12
      have s8 := keepcell hb12 s7
      refine hK.out _ _ (by exact ⟨⟨X12.out.c0, X12.out.c1, X12.out.c2, X12.out.c3, X12.out.c4⟩, x03, x13, s8⟩) (fun hHeld => ?_)
      clear hK K hr12 hf12 hb12 X11 Z11 B11 HR11 S11 x02 x12 s7 M11
      try dsimp only
      refine wpAnyH_ready (rs := [12]) (by kernel_rfl) (by simp) ?_
      refine AllReadyH.cons rfl (fun K hK => ?_) AllReadyH.nil
      go_simp
      go_at_call 30
      refine (jrowed_any ⟨T9, nt9, ct9, R9', nr9, cr9, S9', ns9, cs9⟩ r9 nd (rr ++ pr.2) A12 m12 c12 w12 M12.out hn9 (by simp only; omega) R12.out (fun _ ad e => .inr (by have := F12.out ad e; simpa using this))).mono ?_
      rintro e w13 ⟨⟨T6, nt6, ct6, R6, nr6, cr6, S6, ns6, cs6⟩, rfl, hm13, hb13⟩
      have M13 := Lib.hid hm13
      have X13 := Lib.hid (X12.out.step hb13)
      have Z13 := Lib.hid (Z12.out.step hb13)
      have B13 := Lib.hid (held_trans B12.out hb13)
      have x04 := keepcell hb13 x03
      have x14 := keepcell hb13 x13
      have s9 := keepcell hb13 s8
      have HE := Lib.hid (show Jp.done r k g = Jp.rowed r9 nd (rr ++ pr.2) by
        unfold Jp.done
        rw [HXR.out, show Jp.nodeOf r k = nd from by unfold Jp.nodeOf; rw [HND.out]; rfl, HRR.out, ← HPR.out, HR9.out])
      unfold jv
      simp only
      refine hK.out _ _ (by exact ⟨⟨X13.out.c0, X13.out.c1, X13.out.c2, X13.out.c3, X13.out.c4⟩, x04, x14, s9⟩) (fun hHeld => ?_)
      clear hK K hm13 hb13 X12 Z12 B12 M12 R12 x03 x13 s8
      try dsimp only
      have y0 := Z13.out.b5.c0
      have y1 := Z13.out.b5.c1
      have y2 := Z13.out.b5.c2
      have y3 := Z13.out.b5.c3
      have y4 := Z13.out.b5.c4
      have g0 := Z13.out.f0
      have g1 := Z13.out.f1
      have g2 := Z13.out.f2
      have g3 := Z13.out.f3
      have g4 := Z13.out.f4
      obtain ⟨rf, hrf⟩ : ∃ rf, rf = Jp.rowed r9 nd (rr ++ pr.2) := ⟨_, rfl⟩
      rw [← hrf] at M13 HE
      rw [← hrf]
      clear hrf
      refine wpAnyH_ready (rs := [13]) (by kernel_rfl) (by simp) ?_
      refine AllReadyH.cons rfl (fun K hK => ?_) AllReadyH.nil
      go_simp
      have hXX : X ≠ w.heap.size + 1 := fun e => by
        have := HXF.out
        have := SZ4.out
        omega
      have X7 := (((((X13.out.far (p := ⟨w.heap.size + 1, 0, none⟩) (u := .slice T6 nt6 ct6) (by simp)).far (p := ⟨w.heap.size + 1, 1, none⟩) (u := .int .i64 rf.size) (by simp)).far (p := ⟨w.heap.size + 1, 2, none⟩) (u := .slice R6 nr6 cr6) (by simp)).far (p := ⟨w.heap.size + 1, 3, none⟩) (u := .slice S6 ns6 cs6) (by simp)).far (p := ⟨w.heap.size + 1, 4, none⟩) (u := .int .u64 (rf.on : Nat)) (by simp))
      refine hK.out _ _ (by exact ⟨⟨X7.c0, X7.c1, X7.c2, X7.c3, X7.c4⟩, farcell hXX (farcell hXX (farcell hXX (farcell hXX (farcell hXX x04)))), farcell hXX (farcell hXX (farcell hXX (farcell hXX (farcell hXX x14)))), farcell (by omega) (farcell (by omega) (farcell (by omega) (farcell (by omega) (farcell (by omega) s9))))⟩) (fun hHeld => ?_)
      clear hK K y0 y1 y2 y3 y4 g0 g1 g2 g3 g4
      try dsimp only
      refine wpAnyH_takesJ (i := 14) (v := (.int .i64 0)) (some 7) rfl rfl (by kernel_rfl) (by kernel_rfl) (by kernel_rfl) (fun _ _ _ h => h) (Or.inl ⟨by rfl, (by intro W9 hSw; (try dsimp only at hSw); go_simp; first | done | with_reducible rfl)⟩) (by assumption) ?_
      simp only [Act.put, List.setIfInBounds_toArray]; try simp only [List.set_cons_zero, List.set_cons_succ]
      refine wpAnyH_done (by kernel_rfl) ?_ _
      obtain ⟨k0, k1, k2, k3, k4⟩ := put5_told Z13.out (.slice T6 nt6 ct6) (.int .i64 rf.size) (.slice R6 nr6 cr6) (.slice S6 ns6 cs6) (.int .u64 (rf.on : Nat))
      have B7 := below_put (b := w.heap.size + 1) B13.out (by omega) (.slice T6 nt6 ct6) (.int .i64 rf.size) (.slice R6 nr6 cr6) (.slice S6 ns6 cs6) (.int .u64 (rf.on : Nat))
      have hall : ∀ b, More (More (More F w4) w10.drew) w12 b → F b ∨ w4.heap.size ≤ b := fun b h => by
        have e1 := SZ6.out
        have e2 := SZ12.out
        rcases h with ((h | h) | h) | h
        · exact .inl h
        · exact .inr h
        · exact .inr (by simp at h; omega)
        · exact .inr (by omega)
      have hX : ¬ More (More (More F w4) w10.drew) w12 (w.heap.size + 1) := fun h => by
        have := SZ4.out
        rcases hall _ h with h | h
        · have := HFW.out _ h; omega
        · omega
      have M7 := (M13.out.put hX (.slice T6 nt6 ct6) (.int .i64 rf.size) (.slice R6 nr6 cr6) (.slice S6 ns6 cs6) (.int .u64 (rf.on : Nat))).mono (G := More F w) (fun b h => by
        have := SZ4.out
        rcases hall _ h with h | h
        · exact .inl h
        · exact .inr (by omega))
      have HF := Lib.hid (TellJE.is (F := F) (e := 0) (HP.out.trans (by rw [HE.out])) M7 B7)
      unfold put5 at k0 k1 k2 k3 k4
      clear M7 B7 hX hall X7
      go_wp2_with fail
      refine bodyPost_ret ?_ rfl HF.out
      simp [results, Tryz.results8, go_sem, k0, k1, k2, k3, k4, jv]
end Go.Proofs.YtgloibgmaiadfaaGreatDoor

