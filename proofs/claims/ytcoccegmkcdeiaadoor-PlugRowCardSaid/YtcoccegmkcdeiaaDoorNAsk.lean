/- What Plug's and Unplug's closures tell: each one's reason to refuse. -/
import Derived.Test.YtcoccegmkcdeiaaDoorM13
import Derived.Test.YtcoccegmkcdeiaaDoorM0
import Derived.Test.YtcoccegmkcdeiaaDoorM9
import Derived.Test.YtcoccegmkcdeiaaDoorM6
namespace Go.Proofs.YtcoccegmkcdeiaaDoor
open Go.RowKit
set_option linter.unusedVariables false

/-- Runs that came in, in memory, and in a variable. -/
structure Came (F : Nat → Prop) (X : Nat) (d : Ad) (r : Jp.Rn) (W : World) : Prop where
  rm : RM F W d r
  box : B5 W X (.slice d.T d.nt d.ct) (.int .i64 r.size) (.slice d.R d.nr d.cr) (.slice d.S d.ns d.cs) (.int .u64 (r.on : Nat))
  tab : Tab W
theorem Came.step {F : Nat → Prop} {X : Nat} {d : Ad} {r : Jp.Rn} {W W' : World} (h : Came F X d r W) (hb : Below W.heap.size W W') : Came F X d r W' := ⟨h.rm.below hb, h.box.step hb, h.tab.step hb⟩
set_option maxRecDepth 100000 in
set_option maxHeartbeats 1000000 in
theorem plug1_any {F : Nat → Prop} {X P : Nat} (d : Ad) (r : Jp.Rn) (p : Int) (Tb : Bool) (W : World) (hTB : Hid (Tb = true ↔ Jp.May r)) (h : Came F X d r W) (hlow : Low r) (hP : W.cell? ⟨P, 0, none⟩ = some (.int .i64 p)) :
    Calls Tryd.prog 30 #[.pointer (some ⟨X, 0, none⟩), .pointer (some ⟨P, 0, none⟩)] W fun e W' => e = .returned (.bool (!(Tb && decide (0 ≤ p ∧ p < r.rings.length)))) ∧ Below W.heap.size W W' := by
  obtain ⟨A0, nt, ct, R, nr, cr, S, ns, cs⟩ := d
  have q0 := h.box.c0
  have q1 := h.box.c1
  have q2 := h.box.c2
  have q3 := h.box.c3
  have q4 := h.box.c4
  simp only at q0 q1 q2 q3 q4
  have hI := isProc_any ⟨A0, nt, ct, R, nr, cr, S, ns, cs⟩ r p Tb W hTB h.rm hlow h.tab
  unfold jv at hI
  simp only at hI
  obtain ⟨ip, hip⟩ : ∃ ip, ip = (Tb && decide (0 ≤ p ∧ p < r.rings.length)) := ⟨_, rfl⟩
  rw [← hip] at hI ⊢
  have HI := Lib.hid hI
  clear hI hip h hlow hTB
  go_enter Tryd.func30, Tryd.ntmps30
  go_wp2_with fail
  refine HI.out.mono ?_
  rintro e w1 ⟨rfl, hb1⟩
  go_wp2_with fail
  go_ret
  exact ⟨rfl, hb1⟩
set_option maxRecDepth 100000 in
set_option maxHeartbeats 1000000 in
theorem plug2_any {F : Nat → Prop} {X P : Nat} (d : Ad) (r : Jp.Rn) (p : Int) (W : World) (h : Came F X d r W) (hP : W.cell? ⟨P, 0, none⟩ = some (.int .i64 p)) :
    Calls Tryd.prog 32 #[.pointer (some ⟨X, 0, none⟩), .pointer (some ⟨P, 0, none⟩)] W fun e W' => e = .returned (.bool (Jp.onP r p)) ∧ Below W.heap.size W W' := by
  obtain ⟨A0, nt, ct, R, nr, cr, S, ns, cs⟩ := d
  have q0 := h.box.c0
  have q1 := h.box.c1
  have q2 := h.box.c2
  have q3 := h.box.c3
  have q4 := h.box.c4
  simp only at q0 q1 q2 q3 q4
  have hI := has_any r.on p W h.rm.on
  rw [has_onP] at hI
  have HI := Lib.hid hI
  clear hI h
  go_enter Tryd.func32, Tryd.ntmps32
  go_wp2_with fail
  refine HI.out.mono ?_
  rintro e w1 ⟨rfl, hb1⟩
  go_wp2_with fail
  go_ret
  exact ⟨rfl, hb1⟩
set_option maxRecDepth 100000 in
set_option maxHeartbeats 1000000 in
theorem unplug1_any {F : Nat → Prop} {X P C : Nat} (d : Ad) (r : Jp.Rn) (p cur : Int) (Tb : Bool) (W : World) (hTB : Hid (Tb = true ↔ Jp.May r)) (h : Came F X d r W) (hlow : Low r) (hP : W.cell? ⟨P, 0, none⟩ = some (.int .i64 p)) (hC : W.cell? ⟨C, 0, none⟩ = some (.int .i64 cur)) :
    Calls Tryd.prog 34 #[.pointer (some ⟨X, 0, none⟩), .pointer (some ⟨P, 0, none⟩), .pointer (some ⟨C, 0, none⟩)] W fun e W' => e = .returned (.bool (!(Tb && decide (0 ≤ p ∧ p < r.rings.length)) || decide (cur < 0))) ∧ Below W.heap.size W W' := by
  obtain ⟨A0, nt, ct, R, nr, cr, S, ns, cs⟩ := d
  have q0 := h.box.c0
  have q1 := h.box.c1
  have q2 := h.box.c2
  have q3 := h.box.c3
  have q4 := h.box.c4
  simp only at q0 q1 q2 q3 q4
  have hI := isProc_any ⟨A0, nt, ct, R, nr, cr, S, ns, cs⟩ r p Tb W hTB h.rm hlow h.tab
  unfold jv at hI
  simp only at hI
  obtain ⟨ip, hip⟩ : ∃ ip, ip = (Tb && decide (0 ≤ p ∧ p < r.rings.length)) := ⟨_, rfl⟩
  rw [← hip] at hI ⊢
  have HI := Lib.hid hI
  clear hI hip h hlow hTB
  go_enter Tryd.func34, Tryd.ntmps34
  go_wp2_with fail
  refine HI.out.mono ?_
  rintro e w1 ⟨rfl, hb1⟩
  have c1 := keepcell hb1 hC
  have HB := Lib.hid hb1
  clear hb1 HI
  cases ip
  · go_wp2_with fail
    go_ret
    exact ⟨rfl, HB.out⟩
  · go_wp2_with fail
    go_ret
    exact ⟨rfl, HB.out⟩
set_option maxRecDepth 100000 in
set_option maxHeartbeats 1000000 in
theorem unplug2_any {F : Nat → Prop} {X P : Nat} (d : Ad) (r : Jp.Rn) (p : Int) (W : World) (h : Came F X d r W) (hP : W.cell? ⟨P, 0, none⟩ = some (.int .i64 p)) :
    Calls Tryd.prog 35 #[.pointer (some ⟨X, 0, none⟩), .pointer (some ⟨P, 0, none⟩)] W fun e W' => e = .returned (.bool (!(Jp.onP r p))) ∧ Below W.heap.size W W' := by
  obtain ⟨A0, nt, ct, R, nr, cr, S, ns, cs⟩ := d
  have q0 := h.box.c0
  have q1 := h.box.c1
  have q2 := h.box.c2
  have q3 := h.box.c3
  have q4 := h.box.c4
  simp only at q0 q1 q2 q3 q4
  have hI := has_any r.on p W h.rm.on
  rw [has_onP] at hI
  have HI := Lib.hid hI
  clear hI h
  go_enter Tryd.func35, Tryd.ntmps35
  go_wp2_with fail
  refine HI.out.mono ?_
  rintro e w1 ⟨rfl, hb1⟩
  go_wp2_with fail
  go_ret
  exact ⟨rfl, hb1⟩
set_option maxRecDepth 100000 in
set_option maxHeartbeats 1000000 in
theorem unplug3_any {F : Nat → Prop} {X : Nat} (d : Ad) (r : Jp.Rn) (W : World) (h : Came F X d r W) :
    Calls Tryd.prog 36 #[.pointer (some ⟨X, 0, none⟩)] W fun e W' => e = .returned (.bool (decide ((Zp.mem r.on).length = 1))) ∧ Below W.heap.size W W' := by
  obtain ⟨A0, nt, ct, R, nr, cr, S, ns, cs⟩ := d
  have q0 := h.box.c0
  have q1 := h.box.c1
  have q2 := h.box.c2
  have q3 := h.box.c3
  have q4 := h.box.c4
  simp only at q0 q1 q2 q3 q4
  have hI := count_any r.on W h.rm.on
  obtain ⟨n, hn⟩ : ∃ n, n = (Zp.mem r.on).length := ⟨_, rfl⟩
  rw [← hn] at hI ⊢
  have HI := Lib.hid hI
  clear hI h hn
  go_enter Tryd.func36, Tryd.ntmps36
  go_wp2_with fail
  refine HI.out.mono ?_
  rintro e w1 ⟨rfl, rfl⟩
  clear HI
  by_cases e : n = 1
  · subst e
    go_wp2_with fail
    go_ret
    exact ⟨rfl, Below.refl _ _⟩
  · have e2 : ((n : Int) == 1) = false := by rw [beq_eq_false_iff_ne]; omega
    have HE := Lib.hid (show decide (n = 1) = false from decide_eq_false e)
    clear e
    go_wp2_with fail
    go_ret
    exact ⟨by rw [HE.out]; rfl, Below.refl _ _⟩
set_option maxRecDepth 100000 in
set_option maxHeartbeats 1000000 in
theorem unplug4_any {F : Nat → Prop} {X C : Nat} (d : Ad) (r : Jp.Rn) (cur : Int) (W : World) (h : Came F X d r W) (hlow : Low r) (hC : W.cell? ⟨C, 0, none⟩ = some (.int .i64 cur)) :
    Calls Tryd.prog 37 #[.pointer (some ⟨X, 0, none⟩), .pointer (some ⟨C, 0, none⟩)] W fun e W' => e = .returned (.bool (Tp.has (Jp.all r) cur)) ∧ Below W.heap.size W W' := by
  obtain ⟨A0, nt, ct, R, nr, cr, S, ns, cs⟩ := d
  have q0 := h.box.c0
  have q1 := h.box.c1
  have q2 := h.box.c2
  have q3 := h.box.c3
  have q4 := h.box.c4
  simp only at q0 q1 q2 q3 q4
  have hI := runsAll_any ⟨A0, nt, ct, R, nr, cr, S, ns, cs⟩ r W.drew h.rm.drew hlow
  unfold jv at hI
  simp only at hI
  obtain ⟨al, hal⟩ : ∃ al, al = Jp.all r := ⟨_, rfl⟩
  rw [← hal] at hI ⊢
  have HI := Lib.hid hI
  clear hI h hlow hal
  go_enter Tryd.func37, Tryd.ntmps37
  go_wp2_with fail
  refine wp_region_held_drew (S := fun w' => (w'.cell? ⟨X, 0, none⟩ = some (.slice A0 nt ct) ∧ w'.cell? ⟨X, 1, none⟩ = some (.int .i64 r.size) ∧ w'.cell? ⟨X, 2, none⟩ = some (.slice R nr cr) ∧ w'.cell? ⟨X, 3, none⟩ = some (.slice S ns cs) ∧ w'.cell? ⟨X, 4, none⟩ = some (.int .u64 (r.on : Nat))) ∧ w'.cell? ⟨C, 0, none⟩ = some (.int .i64 cur)) (by kernel_rfl) ⟨⟨q0, q1, q2, q3, q4⟩, hC⟩ (fun hHeld => ?_)
  refine wpAnyH_takesJ (i := 0) (v := (.agg #[.slice A0 nt ct, .int .i64 r.size, .slice R nr cr, .slice S ns cs, .int .u64 (r.on : Nat)])) (some 3) rfl rfl (by kernel_rfl) (by kernel_rfl) (by kernel_rfl) (fun _ _ _ h => h) (Or.inl ⟨by rfl, (by intro W9 hSw; (try dsimp only at hSw); go_simp; first | done | with_reducible rfl)⟩) (by assumption) ?_
  simp only [Act.put, List.setIfInBounds_toArray]; try simp only [List.set_cons_zero, List.set_cons_succ]
  refine wpAnyH_takesJ (i := 2) (v := (.int .i64 cur)) (some 5) rfl rfl (by kernel_rfl) (by kernel_rfl) (by kernel_rfl) (fun _ _ _ h => h) (Or.inl ⟨by rfl, (by intro W9 hSw; (try dsimp only at hSw); go_simp; first | done | with_reducible rfl)⟩) (by assumption) ?_
  simp only [Act.put, List.setIfInBounds_toArray]; try simp only [List.set_cons_zero, List.set_cons_succ]
  refine wpAnyH_ready (rs := [1]) (by kernel_rfl) (by simp) ?_
  refine AllReadyH.cons rfl (fun K hK => ?_) AllReadyH.nil
  go_simp
  go_at_call 16
  refine HI.out.mono ?_
  rintro e w1 ⟨A1, n1, c1, rfl, hr, hf, hbd⟩
  have hb := below_of_drew hbd
  have R1 := Lib.hid hr
  have HB := Lib.hid hb
  have ss : (w1.cell? ⟨X, 0, none⟩ = some (.slice A0 nt ct) ∧ w1.cell? ⟨X, 1, none⟩ = some (.int .i64 r.size) ∧ w1.cell? ⟨X, 2, none⟩ = some (.slice R nr cr) ∧ w1.cell? ⟨X, 3, none⟩ = some (.slice S ns cs) ∧ w1.cell? ⟨X, 4, none⟩ = some (.int .u64 (r.on : Nat))) ∧ w1.cell? ⟨C, 0, none⟩ = some (.int .i64 cur) := ⟨⟨keepcell hb q0, keepcell hb q1, keepcell hb q2, keepcell hb q3, keepcell hb q4⟩, keepcell hb hC⟩
  refine hK.out _ _ (by exact ss) (fun hHeld => ?_)
  have SS := Lib.hid ss
  clear hK K hr hf hbd hb HI q0 q1 q2 q3 q4 hC ss
  try dsimp only
  refine wpAnyH_ready (rs := [3]) (by kernel_rfl) (by simp) ?_
  refine AllReadyH.cons rfl (fun K hK => ?_) AllReadyH.nil
  go_simp
  go_at_call 38
  refine (contains_any A1 n1 c1 al cur w1 R1.out).mono ?_
  rintro e w2 ⟨rfl, rfl⟩
  refine hK.out _ _ (by exact SS.out) (fun hHeld => ?_)
  clear hK K
  try dsimp only
  refine wpAnyH_ready (rs := [4]) (by kernel_rfl) (by simp) ?_
  refine AllReadyH.cons rfl (fun K hK => ?_) AllReadyH.nil
  go_simp
  refine hK.out _ _ (by exact SS.out) (fun hHeld => ?_)
  clear hK K
  try dsimp only
  refine wpAnyH_done (by kernel_rfl) ?_ _
  clear hHeld SS
  go_wp2_with fail
  go_ret
  exact ⟨rfl, HB.out⟩
end Go.Proofs.YtcoccegmkcdeiaaDoor

