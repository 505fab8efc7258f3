/- Local's two closures, by their contracts: who is next of its own, who is first in the row. -/
import Derived.Test.YtdohnhdjlhaaaaaGreatDoorYOf
import Derived.Test.YtdohnhdjlhaaaaaGreatDoorJRefMay
import Derived.Test.YtdohnhdjlhaaaaaGreatDoorM3
namespace Go.Proofs.YtdohnhdjlhaaaaaGreatDoor
open Go.RowKit
set_option linter.unusedVariables false

theorem Found.of {no : Prop} {y pl : Int} {g : Nat} {w w1 w' : World} {R : World → Prop} {e : Ending} (hb : Below w.heap.size w w1) (h : Found no y pl g w1 R e w') : Found no y pl g w R e w' := by
  rcases h with ⟨h1, h2, h3⟩ | ⟨h1, h2, h3, h4⟩
  · exact .inl ⟨h1, h2, hb.trans (h3.mono hb.size)⟩
  · exact .inr ⟨h1, h2, h3.of hb, h4⟩
theorem Found.form {no : Prop} {y pl : Int} {g : Nat} {w w' : World} {R : World → Prop} {e : Ending} (h : Found no y pl g w R e w') : ∃ y' pl', e = .returned (.tuple #[.int .i64 y', .int .i64 pl']) ∧ Rg g w w' := by
  rcases h with ⟨h1, h2, h3⟩ | ⟨h1, h2, h3, h4⟩
  · exact ⟨_, _, h2, Rg.below h3⟩
  · exact ⟨_, _, h2, h3⟩
set_option maxRecDepth 100000 in
set_option maxHeartbeats 1000000 in
theorem own_any {F : Nat → Prop} {B0 q k g nt ct nr cr ns cs Y P : Nat} {T S : Option Addr} {r : Jp.Rn} {es ls : List El} {e0 : El} {x : Int} {t : List Int} (w w0 : World) (h : Ready B0 q ⟨T, nt, ct, some ⟨g, 0, none⟩, nr, cr, S, ns, cs⟩ r es ls e0 w) (hk : k < nr) (h0 : w0.heap.size ≤ B0)
    (hx : r.rings[k]? = some (x, t)) (hl : t.length ≤ 400) (hz : ∀ z ∈ t, z ≠ 0) (hY : w.cell? ⟨Y, 2, none⟩ = some (.slice (some ⟨g, 0, none⟩) nr cr)) (hP : w.cell? ⟨P, 0, none⟩ = some (.int .i64 (k : Nat))) :
    Calls Tryz.prog 93 #[.pointer (some ⟨Y, 0, none⟩), .pointer (some ⟨P, 0, none⟩)] w
      (Found (x = 0 ∧ t = []) (Rp.take (x, t)).2 (if x = 0 then 2 else 1) g w fun w' => RM (More F w0) w' ⟨T, nt, ct, some ⟨g, 0, none⟩, nr, cr, S, ns, cs⟩ (Jp.ringed r k (0, (Rp.take (x, t)).1.2))) := by
  have HC := Lib.hid (ofRing_any (F := F) w w0 h hk h0 hx hl hz)
  clear h hx hl hz
  obtain ⟨no, hno⟩ : ∃ no, no = (x = 0 ∧ t = []) := ⟨_, rfl⟩
  obtain ⟨a, ha⟩ : ∃ a, a = (Rp.take (x, t)).2 := ⟨_, rfl⟩
  obtain ⟨b, hb⟩ : ∃ b : Int, b = (if x = 0 then 2 else 1) := ⟨_, rfl⟩
  obtain ⟨RR, hRR⟩ : ∃ RR : World → Prop, RR = fun w' => RM (More F w0) w' ⟨T, nt, ct, some ⟨g, 0, none⟩, nr, cr, S, ns, cs⟩ (Jp.ringed r k (0, (Rp.take (x, t)).1.2)) := ⟨_, rfl⟩
  rw [← hno, ← ha, ← hb, ← hRR] at HC ⊢
  clear hno ha hb hRR
  go_enter Tryz.func93, Tryz.ntmps93
  go_wp2_with fail
  refine HC.out.mono ?_
  intro e w1 hf
  obtain ⟨y', pl', rfl, _⟩ := hf.form
  have HF := Lib.hid hf
  clear hf HC hY hP
  go_wp2_with fail
  refine bodyPost_ret (v := .tuple #[.int .i64 y', .int .i64 pl']) (by simp [results, Tryz.results93, go_sem]) rfl HF.out
set_option maxRecDepth 100000 in
set_option maxHeartbeats 1000000 in
theorem rowd_any {F F0 : Nat → Prop} {B0 q k g nt ct nr cr ns cs X Y P : Nat} {T R : Option Addr} {d0 : Ad} {r : Jp.Rn} {es ls : List El} {e0 : El} (w w0 : World) (h : Ready B0 q ⟨T, nt, ct, R, nr, cr, some ⟨g, 0, none⟩, ns, cs⟩ r es ls e0 w) (hq : q < ns) (h0 : w0.heap.size ≤ B0) (H0 : RM F0 w d0 r) (hn : Dp.node r.tree k = (q : Nat))
    (hX : w.cell? ⟨X, 0, none⟩ = some (.slice d0.T d0.nt d0.ct)) (hY : w.cell? ⟨Y, 3, none⟩ = some (.slice (some ⟨g, 0, none⟩) ns cs)) (hP : w.cell? ⟨P, 0, none⟩ = some (.int .i64 (k : Nat))) (gX : X ≠ g) (gY : Y ≠ g) (gP : P ≠ g) :
    Calls Tryz.prog 95 #[.pointer (some ⟨Y, 0, none⟩), .pointer (some ⟨X, 0, none⟩), .pointer (some ⟨P, 0, none⟩)] w
      (Found (e0.l = []) (e0.l.headD 0) 3 g w fun w' => RM (More F w0) w' ⟨T, nt, ct, R, nr, cr, some ⟨g, 0, none⟩, ns, cs⟩ (Jp.rowed r q e0.l.tail)) := by
  have HN := Lib.hid (node_any d0.T d0.nt d0.ct r.tree k w.drew (Lib.hid H0.tlen) H0.tmax (Lib.hid H0.fit) (H0.below (Below.refl _ _).drew).tree)
  have HC := Lib.hid (fun W (hb : Below w.heap.size w W) => ofRow_any (F := F) W w0 (h.step hb) hq h0)
  clear h H0
  obtain ⟨no, hno⟩ : ∃ no, no = (e0.l = []) := ⟨_, rfl⟩
  obtain ⟨a, ha⟩ : ∃ a, a = e0.l.headD 0 := ⟨_, rfl⟩
  obtain ⟨RR, hRR⟩ : ∃ RR : World → Prop, RR = fun w' => RM (More F w0) w' ⟨T, nt, ct, R, nr, cr, some ⟨g, 0, none⟩, ns, cs⟩ (Jp.rowed r q e0.l.tail) := ⟨_, rfl⟩
  rw [← hno, ← ha, ← hRR] at HC ⊢
  clear hno ha hRR
  obtain ⟨A0, n0, c0, hA0⟩ : ∃ A0 n0 c0, (A0, n0, c0) = (d0.T, d0.nt, d0.ct) := ⟨_, _, _, rfl⟩
  injection hA0 with e1 e2
  injection e2 with e2 e3
  rw [← e1, ← e2, ← e3] at HN hX
  clear e1 e2 e3
  go_enter Tryz.func95, Tryz.ntmps95
  go_wp2_with fail
  refine wp_region_held_drew (S := fun w' => w'.cell? ⟨X, 0, none⟩ = some (.slice A0 n0 c0) ∧ w'.cell? ⟨Y, 3, none⟩ = some (.slice (some ⟨g, 0, none⟩) ns cs) ∧ w'.cell? ⟨P, 0, none⟩ = some (.int .i64 (k : Nat))) (by kernel_rfl) ⟨hX, hY, hP⟩ (fun hHeld => ?_)
  refine wpAnyH_takesJ (i := 0) (v := (.pointer (some ⟨Y, 3, none⟩))) (some 5) rfl rfl (by kernel_rfl) (by kernel_rfl) (by kernel_rfl) (fun _ _ _ h => h) (Or.inl ⟨by rfl, (by intro W9 hSw; (try dsimp only at hSw); go_simp; first | done | with_reducible rfl)⟩) (by assumption) ?_
  simp only [Act.put, List.setIfInBounds_toArray]; try simp only [List.set_cons_zero, List.set_cons_succ]
  refine wpAnyH_takesJ (i := 1) (v := (.slice (some ⟨g, 0, none⟩) ns cs)) (some 6) rfl rfl (by kernel_rfl) (by kernel_rfl) (by kernel_rfl) (fun _ _ _ h => h) (Or.inl ⟨by rfl, (by intro W9 hSw; (try dsimp only at hSw); go_simp; first | done | with_reducible rfl)⟩) (by assumption) ?_
  simp only [Act.put, List.setIfInBounds_toArray]; try simp only [List.set_cons_zero, List.set_cons_succ]
  refine wpAnyH_takesJ (i := 2) (v := (.pointer (some ⟨X, 0, none⟩))) (some 7) rfl rfl (by kernel_rfl) (by kernel_rfl) (by kernel_rfl) (fun _ _ _ h => h) (Or.inl ⟨by rfl, (by intro W9 hSw; (try dsimp only at hSw); go_simp; first | done | with_reducible rfl)⟩) (by assumption) ?_
  simp only [Act.put, List.setIfInBounds_toArray]; try simp only [List.set_cons_zero, List.set_cons_succ]
  refine wpAnyH_takesJ (i := 3) (v := (.slice A0 n0 c0)) (some 8) rfl rfl (by kernel_rfl) (by kernel_rfl) (by kernel_rfl) (fun _ _ _ h => h) (Or.inl ⟨by rfl, (by intro W9 hSw; (try dsimp only at hSw); go_simp; first | done | with_reducible rfl)⟩) (by assumption) ?_
  simp only [Act.put, List.setIfInBounds_toArray]; try simp only [List.set_cons_zero, List.set_cons_succ]
  refine wpAnyH_takesJ (i := 4) (v := (.int .i64 (k : Nat))) (some 9) rfl rfl (by kernel_rfl) (by kernel_rfl) (by kernel_rfl) (fun _ _ _ h => h) (Or.inl ⟨by rfl, (by intro W9 hSw; (try dsimp only at hSw); go_simp; first | done | with_reducible rfl)⟩) (by assumption) ?_
  simp only [Act.put, List.setIfInBounds_toArray]; try simp only [List.set_cons_zero, List.set_cons_succ]
  refine wpAnyH_ready (rs := [5]) (by kernel_rfl) (by simp) ?_
  refine AllReadyH.cons rfl (fun K hK => ?_) AllReadyH.nil
  go_simp
  go_at_call 31
  refine HN.out.mono ?_
  rintro e w1 ⟨rfl, hb1⟩
  rw [hn]
  have hb1' := below_of_drew hb1
  refine hK.out _ _ (by exact ⟨keepcell hb1' hX, keepcell hb1' hY, keepcell hb1' hP⟩) (fun hHeld => ?_)
  have C2 := Lib.hid (HC.out w1 hb1')
  have B1 := Lib.hid hb1'
  have qX := keepcell hb1' hX
  have qY := keepcell hb1' hY
  have qP := keepcell hb1' hP
  clear hK K hb1 hb1' HC HN hX hY hP
  try dsimp only
  refine wpAnyH_ready (rs := [6]) (by kernel_rfl) (by simp) ?_
  refine AllReadyH.cons rfl (fun K hK => ?_) AllReadyH.nil
  go_simp
  go_at_call 96
  refine C2.out.mono ?_
  intro e w2 hf
  have hf2 := hf.of (show Below w.heap.size w w1 from B1.out)
  obtain ⟨y', pl', rfl, hrg⟩ := hf.form
  have HF := Lib.hid hf2
  refine hK.out _ _ (by exact ⟨hrg.cell _ _ _ gX qX, hrg.cell _ _ _ gY qY, hrg.cell _ _ _ gP qP⟩) (fun hHeld => ?_)
  clear hK K hf hf2 hrg C2 B1 qX qY qP
  try dsimp only
  refine wpAnyH_takesJ (i := 7) (v := (.int .i64 y')) (some 12) rfl rfl (by kernel_rfl) (by kernel_rfl) (by kernel_rfl) (fun _ _ _ h => h) (Or.inl ⟨by rfl, (by intro W9 hSw; (try dsimp only at hSw); go_simp; first | done | with_reducible rfl)⟩) (by assumption) ?_
  simp only [Act.put, List.setIfInBounds_toArray]; try simp only [List.set_cons_zero, List.set_cons_succ]
  refine wpAnyH_takesJ (i := 8) (v := (.int .i64 pl')) (some 13) rfl rfl (by kernel_rfl) (by kernel_rfl) (by kernel_rfl) (fun _ _ _ h => h) (Or.inl ⟨by rfl, (by intro W9 hSw; (try dsimp only at hSw); go_simp; first | done | with_reducible rfl)⟩) (by assumption) ?_
  simp only [Act.put, List.setIfInBounds_toArray]; try simp only [List.set_cons_zero, List.set_cons_succ]
  refine wpAnyH_takesJ (i := 9) (v := (.int .i64 y')) (some 3) rfl rfl (by kernel_rfl) (by kernel_rfl) (by kernel_rfl) (fun _ _ _ h => h) (Or.inl ⟨by rfl, (by intro W9 hSw; (try dsimp only at hSw); go_simp; first | done | with_reducible rfl)⟩) (by assumption) ?_
  simp only [Act.put, List.setIfInBounds_toArray]; try simp only [List.set_cons_zero, List.set_cons_succ]
  refine wpAnyH_takesJ (i := 10) (v := (.int .i64 pl')) (some 4) rfl rfl (by kernel_rfl) (by kernel_rfl) (by kernel_rfl) (fun _ _ _ h => h) (Or.inl ⟨by rfl, (by intro W9 hSw; (try dsimp only at hSw); go_simp; first | done | with_reducible rfl)⟩) (by assumption) ?_
  simp only [Act.put, List.setIfInBounds_toArray]; try simp only [List.set_cons_zero, List.set_cons_succ]
  refine wpAnyH_done (by kernel_rfl) ?_ _
  go_wp2_with fail
  refine bodyPost_ret (v := .tuple #[.int .i64 y', .int .i64 pl']) (by simp [results, Tryz.results95, go_sem]) rfl HF.out
end Go.Proofs.YtdohnhdjlhaaaaaGreatDoor

