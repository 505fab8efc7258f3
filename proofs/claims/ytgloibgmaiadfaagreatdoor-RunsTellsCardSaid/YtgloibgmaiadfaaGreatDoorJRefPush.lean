/- The document's Push, by its contract. -/
import Derived.Test.YtgloibgmaiadfaaGreatDoorJRefMay
import Derived.Test.YtgloibgmaiadfaaGreatDoorM4
namespace Go.Proofs.YtgloibgmaiadfaaGreatDoor
open Go.RowKit
set_option linter.unusedVariables false

set_option maxRecDepth 100000 in
set_option maxHeartbeats 2000000 in
theorem jrefPush_any {F : Nat → Prop} (d : Ad) (r : Jp.Rn) (n g : Int) (w : World) (h : RM F w d r) (hF : ∀ b, F b → b < w.heap.size) (hlow : Low r) (hg : In64 g) :
    Calls Tryz.prog 10 #[jv d r, .int .i64 n, .int .i64 g] w (TellJE F w (Jp.push r n g)) := by
  obtain ⟨A0, nt, ct, R, nr, cr, S, ns, cs⟩ := d
  have H := Lib.hid h
  have HL := Lib.hid hlow
  obtain ⟨hr1, hr2, hr3⟩ := h.nr
  obtain ⟨hs1, hs2, hs3⟩ := h.ns
  have hr4 := hlow.rings
  have hs4 := hlow.rows
  simp only at hr1 hr2 hr3 hs1 hs2 hs3
  have HFW := Lib.hid hF
  clear h hlow hF
  obtain ⟨V, hV, hX, hZ, hB, hsz⟩ := boxes2 w (.slice A0 nt ct) (.int .i64 r.size) (.slice R nr cr) (.slice S ns cs) (.int .u64 (r.on : Nat)) (.slice none 0 0) (.int .i64 0) (.slice none 0 0) (.slice none 0 0) (.int .u64 0) 27 27
  have E := Lib.hid hV
  have X0 := Lib.hid hX
  have Z0 := Lib.hid hZ
  have B0 := Lib.hid hB
  have SZ := Lib.hid hsz
  have hMY := fun T HT => jrefMay_any ⟨A0, nt, ct, R, nr, cr, S, ns, cs⟩ r T V HT (H.out.below B0.out) HL.out
  unfold jv at hMY
  simp only at hMY
  have MY := Lib.hid hMY
  clear hV hX hB hZ hMY hsz
  unfold jv
  go_enter Tryz.func10, Tryz.ntmps10
  go_wp2_with fail
  rw [← E.out]
  clear E
  by_cases hM : ¬ Jp.May r
  · refine (MY.out false (Lib.hid (by simp [hM]))).mono ?_
    rintro e w1 ⟨rfl, hb1⟩
    have X1 := X0.out.step hb1
    have Z1 := Z0.out.step hb1
    have B1 := held_trans B0.out hb1
    have HP := Lib.hid (Jp.push_arg (r := r) (p := n) (g := g) (.inl hM))
    have d0 := (X1).c0
    have d1 := (X1).c1
    have d2 := (X1).c2
    have d3 := (X1).c3
    have d4 := (X1).c4
    have y0 := (Z1).b5.c0
    have y1 := (Z1).b5.c1
    have y2 := (Z1).b5.c2
    have y3 := (Z1).b5.c3
    have y4 := (Z1).b5.c4
    have g0 := (Z1).f0
    have g1 := (Z1).f1
    have g2 := (Z1).f2
    have g3 := (Z1).f3
    have g4 := (Z1).f4
    have HF := Lib.hid (TellJE.is (F := F) (w0 := w) (d := ⟨A0, nt, ct, R, nr, cr, S, ns, cs⟩) (r := r) (e := 1) (HP.out) ((H.out.below (below_put (b := w.heap.size + 1) B1 (by omega) (.slice A0 nt ct) (.int .i64 r.size) (.slice R nr cr) (.slice S ns cs) (.int .u64 (r.on : Nat)))).mono More.in) (below_put (b := w.heap.size + 1) B1 (by omega) (.slice A0 nt ct) (.int .i64 r.size) (.slice R nr cr) (.slice S ns cs) (.int .u64 (r.on : Nat))))
    obtain ⟨k0, k1, k2, k3, k4⟩ := put5_told (Z1) (.slice A0 nt ct) (.int .i64 r.size) (.slice R nr cr) (.slice S ns cs) (.int .u64 (r.on : Nat))
    unfold put5 at k0 k1 k2 k3 k4
    go_wp2_with fail
    refine bodyPost_ret ?_ rfl HF.out
    simp [results, Tryz.results10, go_sem, k0, k1, k2, k3, k4, jv]
  have hM := Classical.not_not.1 hM
  refine (MY.out true (Lib.hid (by simp [hM]))).mono ?_
  rintro e w1 ⟨rfl, hb1⟩
  have X1 := Lib.hid (X0.out.step hb1)
  have Z1 := Lib.hid (Z0.out.step hb1)
  have B1 := Lib.hid (held_trans B0.out hb1)
  have SZ1 := Lib.hid (Nat.lt_of_lt_of_le SZ.out hb1.size)
  have q3 := X1.out.c3
  clear hb1 X0 Z0 B0 MY
  by_cases n0 : n < 0
  · have HP := Lib.hid (Jp.push_arg (r := r) (p := n) (g := g) (.inr (.inl n0)))
    clear hM
    have d0 := ((X1.out)).c0
    have d1 := ((X1.out)).c1
    have d2 := ((X1.out)).c2
    have d3 := ((X1.out)).c3
    have d4 := ((X1.out)).c4
    have y0 := ((Z1.out)).b5.c0
    have y1 := ((Z1.out)).b5.c1
    have y2 := ((Z1.out)).b5.c2
    have y3 := ((Z1.out)).b5.c3
    have y4 := ((Z1.out)).b5.c4
    have g0 := ((Z1.out)).f0
    have g1 := ((Z1.out)).f1
    have g2 := ((Z1.out)).f2
    have g3 := ((Z1.out)).f3
    have g4 := ((Z1.out)).f4
    have HF := Lib.hid (TellJE.is (F := F) (w0 := w) (d := ⟨A0, nt, ct, R, nr, cr, S, ns, cs⟩) (r := r) (e := 1) (HP.out) ((H.out.below (below_put (b := w.heap.size + 1) (B1.out) (by omega) (.slice A0 nt ct) (.int .i64 r.size) (.slice R nr cr) (.slice S ns cs) (.int .u64 (r.on : Nat)))).mono More.in) (below_put (b := w.heap.size + 1) (B1.out) (by omega) (.slice A0 nt ct) (.int .i64 r.size) (.slice R nr cr) (.slice S ns cs) (.int .u64 (r.on : Nat))))
    obtain ⟨k0, k1, k2, k3, k4⟩ := put5_told ((Z1.out)) (.slice A0 nt ct) (.int .i64 r.size) (.slice R nr cr) (.slice S ns cs) (.int .u64 (r.on : Nat))
    unfold put5 at k0 k1 k2 k3 k4
    go_wp2_with fail
    refine bodyPost_ret ?_ rfl HF.out
    simp [results, Tryz.results10, go_sem, k0, k1, k2, k3, k4, jv]
  by_cases n1 : (ns : Int) ≤ n
  · have HP := Lib.hid (Jp.push_arg (r := r) (p := n) (g := g) (.inr (.inr (.inl (by rw [hs1]; exact n1)))))
    clear hM
    have d0 := ((X1.out)).c0
    have d1 := ((X1.out)).c1
    have d2 := ((X1.out)).c2
    have d3 := ((X1.out)).c3
    have d4 := ((X1.out)).c4
    have y0 := ((Z1.out)).b5.c0
    have y1 := ((Z1.out)).b5.c1
    have y2 := ((Z1.out)).b5.c2
    have y3 := ((Z1.out)).b5.c3
    have y4 := ((Z1.out)).b5.c4
    have g0 := ((Z1.out)).f0
    have g1 := ((Z1.out)).f1
    have g2 := ((Z1.out)).f2
    have g3 := ((Z1.out)).f3
    have g4 := ((Z1.out)).f4
    have HF := Lib.hid (TellJE.is (F := F) (w0 := w) (d := ⟨A0, nt, ct, R, nr, cr, S, ns, cs⟩) (r := r) (e := 1) (HP.out) ((H.out.below (below_put (b := w.heap.size + 1) (B1.out) (by omega) (.slice A0 nt ct) (.int .i64 r.size) (.slice R nr cr) (.slice S ns cs) (.int .u64 (r.on : Nat)))).mono More.in) (below_put (b := w.heap.size + 1) (B1.out) (by omega) (.slice A0 nt ct) (.int .i64 r.size) (.slice R nr cr) (.slice S ns cs) (.int .u64 (r.on : Nat))))
    obtain ⟨k0, k1, k2, k3, k4⟩ := put5_told ((Z1.out)) (.slice A0 nt ct) (.int .i64 r.size) (.slice R nr cr) (.slice S ns cs) (.int .u64 (r.on : Nat))
    unfold put5 at k0 k1 k2 k3 k4
    go_wp2_with fail
    refine bodyPost_ret ?_ rfl HF.out
    simp [results, Tryz.results10, go_sem, k0, k1, k2, k3, k4, jv]
  by_cases l1 : g < 1
  · have HP := Lib.hid (Jp.push_arg (r := r) (p := n) (g := g) (.inr (.inr (.inr l1))))
    clear hM
    have d0 := ((X1.out)).c0
    have d1 := ((X1.out)).c1
    have d2 := ((X1.out)).c2
    have d3 := ((X1.out)).c3
    have d4 := ((X1.out)).c4
    have y0 := ((Z1.out)).b5.c0
    have y1 := ((Z1.out)).b5.c1
    have y2 := ((Z1.out)).b5.c2
    have y3 := ((Z1.out)).b5.c3
    have y4 := ((Z1.out)).b5.c4
    have g0 := ((Z1.out)).f0
    have g1 := ((Z1.out)).f1
    have g2 := ((Z1.out)).f2
    have g3 := ((Z1.out)).f3
    have g4 := ((Z1.out)).f4
    have HF := Lib.hid (TellJE.is (F := F) (w0 := w) (d := ⟨A0, nt, ct, R, nr, cr, S, ns, cs⟩) (r := r) (e := 1) (HP.out) ((H.out.below (below_put (b := w.heap.size + 1) (B1.out) (by omega) (.slice A0 nt ct) (.int .i64 r.size) (.slice R nr cr) (.slice S ns cs) (.int .u64 (r.on : Nat)))).mono More.in) (below_put (b := w.heap.size + 1) (B1.out) (by omega) (.slice A0 nt ct) (.int .i64 r.size) (.slice R nr cr) (.slice S ns cs) (.int .u64 (r.on : Nat))))
    obtain ⟨k0, k1, k2, k3, k4⟩ := put5_told ((Z1.out)) (.slice A0 nt ct) (.int .i64 r.size) (.slice R nr cr) (.slice S ns cs) (.int .u64 (r.on : Nat))
    unfold put5 at k0 k1 k2 k3 k4
    go_wp2_with fail
    refine bodyPost_ret ?_ rfl HF.out
    simp [results, Tryz.results10, go_sem, k0, k1, k2, k3, k4, jv]
  have HNA := Lib.hid (show ¬ (¬ Jp.May r ∨ n < 0 ∨ (r.rows.length : Int) ≤ n ∨ g < 1) from fun h => by
    rcases h with h | h | h | h
    · exact h hM
    · exact n0 h
    · exact n1 (by rw [← hs1]; exact h)
    · exact l1 h)
  have hAL := jrefAll_any ⟨A0, nt, ct, R, nr, cr, S, ns, cs⟩ r w1 (H.out.below B1.out) HL.out
  unfold jv at hAL
  simp only at hAL
  have AL := Lib.hid hAL
  have q0 := X1.out.c0
  have q1 := X1.out.c1
  have q2 := X1.out.c2
  have q4 := X1.out.c4
  clear hM hAL
  go_wp2_with fail
  refine AL.out.mono ?_
  rintro e w2 ⟨A2, n2, c2, rfl, hr2', _, hb2⟩
  have HN := Lib.hid (in_any A2 n2 c2 (Jp.all r) g w2 w2.heap.size (Lib.hid hr2'.len) (by have := hr2'.cap; have := hr2'.most; omega) hr2'.row)
  have X2 := Lib.hid (X1.out.step hb2)
  have Z2 := Lib.hid (Z1.out.step hb2)
  have B2 := Lib.hid (held_trans B1.out hb2)
  have SZ2 := Lib.hid (Nat.lt_of_lt_of_le SZ1.out hb2.size)
  clear hr2' hb2 AL q0 q1 q2 q3 q4 X1 Z1 B1
  go_wp2_with fail
  refine HN.out.mono ?_
  rintro e w3 ⟨rfl, rfl⟩
  by_cases hh : Tp.has (Jp.all r) g = true
  · have HP := Lib.hid (Jp.push_there HNA.out hh)
    rw [hh]
    clear HN
    have d0 := ((X2.out)).c0
    have d1 := ((X2.out)).c1
    have d2 := ((X2.out)).c2
    have d3 := ((X2.out)).c3
    have d4 := ((X2.out)).c4
    have y0 := ((Z2.out)).b5.c0
    have y1 := ((Z2.out)).b5.c1
    have y2 := ((Z2.out)).b5.c2
    have y3 := ((Z2.out)).b5.c3
    have y4 := ((Z2.out)).b5.c4
    have g0 := ((Z2.out)).f0
    have g1 := ((Z2.out)).f1
    have g2 := ((Z2.out)).f2
    have g3 := ((Z2.out)).f3
    have g4 := ((Z2.out)).f4
    have HF := Lib.hid (TellJE.is (F := F) (w0 := w) (d := ⟨A0, nt, ct, R, nr, cr, S, ns, cs⟩) (r := r) (e := 5) (HP.out) ((H.out.below (below_put (b := w.heap.size + 1) (B2.out) (by omega) (.slice A0 nt ct) (.int .i64 r.size) (.slice R nr cr) (.slice S ns cs) (.int .u64 (r.on : Nat)))).mono More.in) (below_put (b := w.heap.size + 1) (B2.out) (by omega) (.slice A0 nt ct) (.int .i64 r.size) (.slice R nr cr) (.slice S ns cs) (.int .u64 (r.on : Nat))))
    obtain ⟨k0, k1, k2, k3, k4⟩ := put5_told ((Z2.out)) (.slice A0 nt ct) (.int .i64 r.size) (.slice R nr cr) (.slice S ns cs) (.int .u64 (r.on : Nat))
    unfold put5 at k0 k1 k2 k3 k4
    go_wp2_with fail
    refine bodyPost_ret ?_ rfl HF.out
    simp [results, Tryz.results10, go_sem, k0, k1, k2, k3, k4, jv]
  have hf := has_false hh
  rw [hf]
  obtain ⟨k, rfl⟩ := Int.eq_ofNat_of_zero_le (show 0 ≤ n by omega)
  have HP := Lib.hid (Jp.push_done HNA.out hf)
  obtain ⟨x, hx⟩ : ∃ x, r.rows[k]? = some x := ⟨_, List.getElem?_eq_getElem (by omega)⟩
  obtain ⟨b, off, A, m, c, hR, hbw, c00, hrow0⟩ := H.out.rowAt hx
  have c0 := keepcell B2.out c00
  have hrow := hrow0.below B2.out
  clear c00 hrow0
  simp only at hR
  subst hR
  have HXR := Lib.hid (show Jp.rowAt r k = x by unfold Jp.rowAt; rw [hx]; rfl)
  have hm : m ≤ 400 := by rw [← hrow.len]; exact HL.out.row x (List.mem_of_getElem? hx)
  have HR := Lib.hid hrow
  have i0 : (0 : Int) ≤ (k : Int) := by omega
  have i1 : (k : Int) < (ns : Int) := by omega
  have q0 := X2.out.c0
  have q1 := X2.out.c1
  have q2 := X2.out.c2
  have q3 := X2.out.c3
  have q4 := X2.out.c4
  have hkn : k < ns := by omega
  clear hx hrow HN hh hf n0 n1 l1 HNA
  go_wp2_with fail
  refine wp_region_held_drew (S := fun w' => (w'.cell? ⟨w.heap.size, 0, none⟩ = some (.slice A0 nt ct) ∧ w'.cell? ⟨w.heap.size, 1, none⟩ = some (.int .i64 r.size) ∧ w'.cell? ⟨w.heap.size, 2, none⟩ = some (.slice R nr cr) ∧ w'.cell? ⟨w.heap.size, 3, none⟩ = some (.slice (some ⟨b, off, none⟩) ns cs) ∧ w'.cell? ⟨w.heap.size, 4, none⟩ = some (.int .u64 (r.on : Nat))) ∧ w'.cell? ⟨b, off + k, none⟩ = some (.slice A m c)) (by kernel_rfl) ⟨⟨q0, q1, q2, q3, q4⟩, c0⟩ (fun hHeld => ?_)
  refine wpAnyH_takesJ (i := 0) (v := (.agg #[.slice A0 nt ct, .int .i64 r.size, .slice R nr cr, .slice (some ⟨b, off, none⟩) ns cs, .int .u64 (r.on : Nat)])) (some 32) rfl rfl (by kernel_rfl) (by kernel_rfl) (by kernel_rfl) (fun _ _ _ h => h) (Or.inl ⟨by rfl, (by intro W9 hSw; (try dsimp only at hSw); go_simp; first | done | with_reducible rfl)⟩) (by assumption) ?_
  simp only [Act.put, List.setIfInBounds_toArray]; try simp only [List.set_cons_zero, List.set_cons_succ]
  refine wpAnyH_takesJ (i := 1) (v := (.int .i64 (k : Nat))) (some 33) rfl rfl (by kernel_rfl) (by kernel_rfl) (by kernel_rfl) (fun _ _ _ h => h) (Or.inl ⟨by rfl, (by intro W9 hSw; (try dsimp only at hSw); go_simp; first | done | with_reducible rfl)⟩) (by assumption) ?_
  simp only [Act.put, List.setIfInBounds_toArray]; try simp only [List.set_cons_zero, List.set_cons_succ]
  refine wpAnyH_takesJ (i := 2) (v := (.pointer (some ⟨w.heap.size, 3, none⟩))) (some 34) rfl rfl (by kernel_rfl) (by kernel_rfl) (by kernel_rfl) (fun _ _ _ h => h) (Or.inl ⟨by rfl, (by intro W9 hSw; (try dsimp only at hSw); go_simp; first | done | with_reducible rfl)⟩) (by assumption) ?_
  simp only [Act.put, List.setIfInBounds_toArray]; try simp only [List.set_cons_zero, List.set_cons_succ]
  refine wpAnyH_takesJ (i := 3) (v := (.slice (some ⟨b, off, none⟩) ns cs)) (some 35) rfl rfl (by kernel_rfl) (by kernel_rfl) (by kernel_rfl) (fun _ _ _ h => h) (Or.inl ⟨by rfl, (by intro W9 hSw; (try dsimp only at hSw); go_simp; first | done | with_reducible rfl)⟩) (by assumption) ?_
  simp only [Act.put, List.setIfInBounds_toArray]; try simp only [List.set_cons_zero, List.set_cons_succ]
  refine wpAnyH_takesJ (i := 4) (v := (.int .i64 (k : Nat))) (some 36) rfl rfl (by kernel_rfl) (by kernel_rfl) (by kernel_rfl) (fun _ _ _ h => h) (Or.inl ⟨by rfl, (by intro W9 hSw; (try dsimp only at hSw); go_simp; first | done | with_reducible rfl)⟩) (by assumption) ?_
  simp only [Act.put, List.setIfInBounds_toArray]; try simp only [List.set_cons_zero, List.set_cons_succ]
  refine wpAnyH_takesJ (i := 5) (v := (.pointer (some ⟨b, off + k, none⟩))) (some 37) rfl rfl (by kernel_rfl) (by kernel_rfl) (by kernel_rfl) (fun _ _ _ h => h) (Or.inl ⟨by rfl, (by intro W9 hSw; (try dsimp only at hSw); go_simp; first | done | with_reducible rfl)⟩) (by assumption) ?_
  simp only [Act.put, List.setIfInBounds_toArray]; try simp only [List.set_cons_zero, List.set_cons_succ]
  refine wpAnyH_takesJ (i := 6) (v := (.slice A m c)) (some 38) rfl rfl (by kernel_rfl) (by kernel_rfl) (by kernel_rfl) (fun _ _ _ h => h) (Or.inl ⟨by rfl, (by intro W9 hSw; (try dsimp only at hSw); go_simp; first | done | with_reducible rfl)⟩) (by assumption) ?_
  simp only [Act.put, List.setIfInBounds_toArray]; try simp only [List.set_cons_zero, List.set_cons_succ]
  refine wpAnyH_takesJ (i := 7) (v := (.int .i64 g)) (some 39) rfl rfl (by kernel_rfl) (by kernel_rfl) (by kernel_rfl) (fun _ _ _ h => h) (Or.inl ⟨by rfl, (by intro W9 hSw; (try dsimp only at hSw); go_simp; first | done | with_reducible rfl)⟩) (by assumption) ?_
  simp only [Act.put, List.setIfInBounds_toArray]; try simp only [List.set_cons_zero, List.set_cons_succ]
  refine wpAnyH_ready (rs := [8]) (by kernel_rfl) (by simp) ?_
  refine AllReadyH.cons rfl (fun K hK => ?_) AllReadyH.nil
  go_simp
  have hb4 : Below w3.heap.size w3 (w3.alloc (.cells #[.int .i64 g] 3)).drew := (below_new w3 _).drew
  have R4 := Lib.hid (row_at w3 g _ rfl).drew
  obtain ⟨w4, hw4⟩ : ∃ w4, w4 = (w3.alloc (.cells #[.int .i64 g] 3)).drew := ⟨_, rfl⟩
  rw [← hw4] at hb4 R4
  rw [← hw4]
  clear hw4
  have X4 := Lib.hid (X2.out.step hb4)
  have Z4 := Lib.hid (Z2.out.step hb4)
  have B4 := Lib.hid (held_trans B2.out hb4)
  have HR4 := Lib.hid (HR.out.below hb4)
  have c4 := keepcell hb4 c0
  have SZ4 := Lib.hid (Nat.lt_of_lt_of_le SZ2.out hb4.size)
  refine hK.out _ _ (by exact ⟨⟨X4.out.c0, X4.out.c1, X4.out.c2, X4.out.c3, X4.out.c4⟩, c4⟩) (fun hHeld => ?_)
  clear hK K q0 q1 q2 q3 q4 c0 hb4 X2 Z2 B2 HR
  try dsimp only
  refine wpAnyH_ready (rs := [9]) (by kernel_rfl) (by simp) ?_
  refine AllReadyH.cons rfl (fun K hK => ?_) AllReadyH.nil
  go_simp
  go_at_call 32
  refine (jbehind_any A (some ⟨w3.heap.size, 0, none⟩) m c 1 1 x [g] w4 HR4.out R4.out (by omega)).mono ?_
  rintro e w5 ⟨A5, m5, c5, rfl, hr5, hf5, hb5⟩
  have X5 := Lib.hid (X4.out.step hb5)
  have Z5 := Lib.hid (Z4.out.step hb5)
  have B5h := Lib.hid (held_trans B4.out hb5)
  have R5 := Lib.hid hr5
  have F5 := Lib.hid hf5
  have c5' := keepcell hb5 c4
  have SZ5 := Lib.hid hb5.size
  refine hK.out _ _ (by exact ⟨⟨X5.out.c0, X5.out.c1, X5.out.c2, X5.out.c3, X5.out.c4⟩, c5'⟩) (fun hHeld => ?_)
  clear hK K hb5 hr5 hf5 X4 Z4 B4 HR4 R4 c4
  try dsimp only
  refine wpAnyH_ready (rs := [10]) (by kernel_rfl) (by simp) ?_
  refine AllReadyH.cons rfl (fun K hK => ?_) AllReadyH.nil
  go_simp
  go_at_call 30
  refine (jrowed_any ⟨A0, nt, ct, R, nr, cr, some ⟨b, off, none⟩, ns, cs⟩ r k (x ++ [g]) A5 m5 c5 w5 ((H.out.below B5h.out).mono (G := More F w4) More.in) hkn (by simp only; omega) R5.out (fun _ ad e => .inr (F5.out ad e))).mono ?_
  rintro e w6 ⟨⟨T6, nt6, ct6, R6, nr6, cr6, S6, ns6, cs6⟩, rfl, hm6, hb6⟩
  have X6 := Lib.hid (X5.out.step hb6)
  have Z6 := Lib.hid (Z5.out.step hb6)
  have B6 := Lib.hid (held_trans B5h.out hb6)
  have M6 := Lib.hid hm6
  have c6 := keepcell hb6 c5'
  have HE := Lib.hid (show Jp.pushed r k g = Jp.rowed r k (x ++ [g]) by unfold Jp.pushed; rw [HXR.out])
  unfold jv
  simp only
  refine hK.out _ _ (by exact ⟨⟨X6.out.c0, X6.out.c1, X6.out.c2, X6.out.c3, X6.out.c4⟩, c6⟩) (fun hHeld => ?_)
  clear hK K hb6 hm6 X5 Z5 B5h R5 c5'
  try dsimp only
  have y0 := Z6.out.b5.c0
  have y1 := Z6.out.b5.c1
  have y2 := Z6.out.b5.c2
  have y3 := Z6.out.b5.c3
  have y4 := Z6.out.b5.c4
  have g0 := Z6.out.f0
  have g1 := Z6.out.f1
  have g2 := Z6.out.f2
  have g3 := Z6.out.f3
  have g4 := Z6.out.f4
  refine wpAnyH_ready (rs := [11]) (by kernel_rfl) (by simp) ?_
  refine AllReadyH.cons rfl (fun K hK => ?_) AllReadyH.nil
  go_simp
  have X7 := (((((X6.out.far (p := ⟨w.heap.size + 1, 0, none⟩) (u := .slice T6 nt6 ct6) (by simp)).far (p := ⟨w.heap.size + 1, 1, none⟩) (u := .int .i64 (Jp.rowed r k (x ++ [g])).size) (by simp)).far (p := ⟨w.heap.size + 1, 2, none⟩) (u := .slice R6 nr6 cr6) (by simp)).far (p := ⟨w.heap.size + 1, 3, none⟩) (u := .slice S6 ns6 cs6) (by simp)).far (p := ⟨w.heap.size + 1, 4, none⟩) (u := .int .u64 ((Jp.rowed r k (x ++ [g])).on : Nat)) (by simp))
  refine hK.out _ _ (by exact ⟨⟨X7.c0, X7.c1, X7.c2, X7.c3, X7.c4⟩, farcell (by omega) (farcell (by omega) (farcell (by omega) (farcell (by omega) (farcell (by omega) c6))))⟩) (fun hHeld => ?_)
  clear hK K y0 y1 y2 y3 y4 g0 g1 g2 g3 g4
  try dsimp only
  refine wpAnyH_takesJ (i := 12) (v := (.int .i64 0)) (some 7) rfl rfl (by kernel_rfl) (by kernel_rfl) (by kernel_rfl) (fun _ _ _ h => h) (Or.inl ⟨by rfl, (by intro W9 hSw; (try dsimp only at hSw); go_simp; first | done | with_reducible rfl)⟩) (by assumption) ?_
  simp only [Act.put, List.setIfInBounds_toArray]; try simp only [List.set_cons_zero, List.set_cons_succ]
  refine wpAnyH_done (by kernel_rfl) ?_ _
  obtain ⟨k0, k1, k2, k3, k4⟩ := put5_told Z6.out (.slice T6 nt6 ct6) (.int .i64 (Jp.rowed r k (x ++ [g])).size) (.slice R6 nr6 cr6) (.slice S6 ns6 cs6) (.int .u64 ((Jp.rowed r k (x ++ [g])).on : Nat))
  have B7 := below_put (b := w.heap.size + 1) B6.out (by omega) (.slice T6 nt6 ct6) (.int .i64 (Jp.rowed r k (x ++ [g])).size) (.slice R6 nr6 cr6) (.slice S6 ns6 cs6) (.int .u64 ((Jp.rowed r k (x ++ [g])).on : Nat))
  have hX : ¬ More (More F w4) w5 (w.heap.size + 1) := fun h => by
    rcases h with (h | h) | h
    · have := HFW.out _ h; omega
    · have := SZ4.out; omega
    · have := SZ4.out; have := SZ5.out; omega
  have M7 := (M6.out.put hX (.slice T6 nt6 ct6) (.int .i64 (Jp.rowed r k (x ++ [g])).size) (.slice R6 nr6 cr6) (.slice S6 ns6 cs6) (.int .u64 ((Jp.rowed r k (x ++ [g])).on : Nat))).mono (G := More F w) (fun b h => by
    rcases h with (h | h) | h
    · exact .inl h
    · exact .inr (by have := SZ4.out; omega)
    · exact .inr (by have := SZ4.out; have := SZ5.out; omega))
  have HF := Lib.hid (TellJE.is (F := F) (e := 0) (HP.out.trans (by rw [HE.out])) M7 B7)
  unfold put5 at k0 k1 k2 k3 k4
  clear M7 B7 hX
  go_wp2_with fail
  refine bodyPost_ret ?_ rfl HF.out
  simp [results, Tryz.results10, go_sem, k0, k1, k2, k3, k4, jv]
end Go.Proofs.YtgloibgmaiadfaaGreatDoor

