/- The document's May, by its contract. -/
import Derived.Test.YtcoccegmkcdeiaaDoorM7
import Derived.Test.YtcoccegmkcdeiaaDoorM10
import Derived.Test.YtcoccegmkcdeiaaDoorM2
import Derived.Test.YtcoccegmkcdeiaaDoorRefCheck
namespace Go.Proofs.YtcoccegmkcdeiaaDoor
open Go.RowKit
set_option linter.unusedVariables false

theorem t_no {T : Bool} {P : Prop} (hT : Hid (T = true ↔ P)) (h : ¬ P) : T = false := by
  cases T
  · rfl
  · exact absurd (hT.out.1 rfl) h
/-- What is known of the head. -/
structure Head (r : Jp.Rn) : Prop where
  tree : Tp.may r.tree = true
  low : 2 ≤ r.size
  high : r.size ≤ 16
  rings : r.rings.length = (Dp.procs r.tree).length
  rows : r.rows.length = (Dp.nodes r.tree).length
  some : Zp.mem r.on ≠ []
  few : ∀ z ∈ Zp.mem r.on, z < (r.rings.length : Int)
theorem may_head {r : Jp.Rn} (h : Jp.May r) : Head r := ⟨h.tree, h.low, h.high, h.rings, h.rows, h.some, h.few⟩
theorem rises_last {l : List Int} (h : l.Pairwise (· < ·)) {q : Nat} {z : Int} (hl : l.length = q + 1) (hz : l[q]? = some z) {m : Int} (hm : z < m) : ∀ y ∈ l, y < m := by
  intro y hy
  obtain ⟨i, hi⟩ := List.mem_iff_getElem?.1 hy
  have hil := (List.getElem?_eq_some_iff.1 hi).1
  by_cases e : i = q
  · subst e
    rw [hi] at hz
    injection hz with hz
    omega
  · have h1 := (List.pairwise_iff_getElem.1 h) i q hil (by omega) (by omega)
    rw [(List.getElem?_eq_some_iff.1 hi).2, (List.getElem?_eq_some_iff.1 hz).2] at h1
    omega
/-- One is taken first; its place written out. -/
theorem wpAnyH_takesJ {P : Program} {ops : Array Oper} {Q : Exit → Act → World → Prop} {md : Region.Mode} {S : World → Prop} {i : Nat} {oi : Oper} {v : Value} {fuel : Nat} {listed : Array Bool} {a : Act} {w : World} (d : Option Tmp) (hi : ops[i]? = some oi) (hd : oi.dst = d)
    (hs : Region.noSelect ops = true) (hf : Region.free md ops listed i = true) (hr : (Region.ready md ops listed).contains i = true)
    (hQ : ∀ c a w, Q (.panic c) (a.put d v) w → Q (.panic c) a w) (hy : YieldsIf P ops S oi v a) (hS : S w)
    (h : wpAnyH P md ops Q S fuel (listed.setIfInBounds i true) (a.put d v) w) : wpAnyH P md ops Q S (fuel + 1) listed a w := by
  subst hd
  exact wpAnyH_take hi hs hf hr hQ hy hS h
def GoodR (r : Jp.Rn) (j : Nat) (y : Int × List Int) : Prop := Rp.may y r.size = true ∧ (Rp.all y = [] ∨ Jp.onP r (j : Int) = true)
set_option maxRecDepth 100000 in
set_option maxHeartbeats 2000000 in
theorem jrefMay_any {F : Nat → Prop} (d : Ad) (r : Jp.Rn) (T : Bool) (w : World) (HT : Hid (T = true ↔ Jp.May r)) (h : RM F w d r) (hlow : Low r) :
    Calls Tryd.prog 7 #[jv d r] w fun e w' => e = .returned (.bool T) ∧ Below w.heap.size w w' := by
  obtain ⟨A0, nt, ct, R, nr, cr, S, ns, cs⟩ := d
  have H := Lib.hid h
  have HL := Lib.hid hlow
  obtain ⟨hr1, hr2, hr3⟩ := h.nr
  obtain ⟨hs1, hs2, hs3⟩ := h.ns
  have hr4 := hlow.rings
  have hs4 := hlow.rows
  have htl := h.tlen
  simp only at hr1 hr2 hr3 hs1 hs2 hs3 htl
  clear h hlow
  obtain ⟨V, hV, hX, hB⟩ := B5.start w (.slice A0 nt ct) (.int .i64 r.size) (.slice R nr cr) (.slice S ns cs) (.int .u64 (r.on : Nat)) 27
  have E := Lib.hid hV
  have X0 := Lib.hid hX
  have B0 := Lib.hid hB
  have d0 := hX.c0
  clear hV hX hB
  have HC := Lib.hid (refCheck_any A0 nt ct r.tree V (Lib.hid htl) H.out.tmax (Lib.hid H.out.fit) (H.out.below B0.out).tree)
  unfold jv
  go_enter Tryd.func7, Tryd.ntmps7
  go_wp2_with fail
  rw [← E.out]
  clear E
  refine HC.out.mono ?_
  rintro e w1 ⟨rfl, hb1⟩
  have X1 := Lib.hid (X0.out.step hb1)
  have B1 := Lib.hid (held_trans B0.out hb1)
  have d0 := X1.out.c0
  have d1 := X1.out.c1
  clear hb1 HC X0 B0
  by_cases hm : ¬ Tp.may r.tree = true
  · have hm' : Tp.may r.tree = false := by cases e : Tp.may r.tree; rfl; exact absurd e hm
    obtain rfl := t_no HT (fun hM => hm hM.tree)
    rw [hm']
    have n0 : ((Tp.errno false : Int) != 0) = true := rfl
    clear HT
    go_wp2_with fail
    go_ret
    exact ⟨rfl, (B1.out)⟩
  have hm := Classical.not_not.1 hm
  rw [hm]
  have n0 : ((Tp.errno true : Int) != 0) = false := rfl
  by_cases s1 : r.size < 2
  · obtain rfl := t_no HT (fun hM => by have := hM.low; omega)
    clear HT
    go_wp2_with fail
    go_ret
    exact ⟨rfl, (B1.out)⟩
  by_cases s2 : 16 < r.size
  · obtain rfl := t_no HT (fun hM => by have := hM.high; omega)
    clear HT
    go_wp2_with fail
    go_ret
    exact ⟨rfl, (B1.out)⟩
  have TR := (Tp.tree_iff r.tree).1 hm
  have hnt : nt ≤ 64 := by have := TR.few; omega
  have HN := Lib.hid (show Hid (r.tree.length = nt) from Lib.hid htl)
  have HD := Lib.hid (refOf_any A0 nt ct r.tree 3 w1 (Lib.hid htl) (by omega) (by omega) (H.out.below B1.out).tree)
  go_wp2_with fail
  refine HD.out.mono ?_
  rintro e w2 ⟨A2, c2, rfl, _, hb2⟩
  have X2 := Lib.hid (X1.out.step hb2)
  have B2 := Lib.hid (held_trans B1.out hb2)
  have d4 := X2.out.c4
  have HZ := Lib.hid (zrefAll_any r.on w2 H.out.on)
  clear hb2 HD X1 B1 d0 d1
  generalize hp : (Tp.those (levelP 3) r.tree).length = np
  have HP := Lib.hid (show (Dp.procs r.tree).length = np from hp)
  clear hp
  go_wp2_with fail
  refine HZ.out.mono ?_
  rintro e w3 ⟨v3, q, rfl, ho3, hb3⟩
  obtain ⟨A3, c3, rfl, hr3', _⟩ := Row.of_own' ho3
  have X3 := Lib.hid (X2.out.step hb3)
  have B3 := Lib.hid (held_trans B2.out hb3)
  have R3 := Lib.hid hr3'
  have e0 := X3.out.c0
  have e2 := X3.out.c2
  have e3 := X3.out.c3
  have HO := Lib.hid (fun W hv => refOf_any A0 nt ct r.tree 1 W (Lib.hid htl) (by omega) (by omega) hv)
  clear hb3 hr3' ho3 HZ X2 B2 d4
  go_wp2_with fail
  by_cases g1 : ¬ nr = np
  · have g1' : ((nr : Int) != (np : Int)) = true := by simp; omega
    obtain rfl := t_no HT (fun hM => by have := hM.rings; have := HP.out; omega)
    go_quiet (fail)
    clear HT
    go_wp2_with fail
    go_ret
    exact ⟨rfl, (below_drewN B3.out _)⟩
  obtain rfl := Classical.not_not.1 g1
  clear g1
  generalize hq : (Tp.those (levelP 1) r.tree).length = nn
  have HQ := Lib.hid hq
  have HQN := Lib.hid (show (Dp.nodes r.tree).length = nn from hq)
  have HQL := Lib.hid R3.out.len
  clear hq
  by_cases g2 : ¬ ns = nn
  · have g2' : ((ns : Int) != (nn : Int)) = true := by simp; omega
    obtain rfl := t_no HT (fun hM => by have := hM.rows; have := HQN.out; omega)
    refine wp_region_held_drew (S := fun w' => w'.cell? ⟨w.heap.size, 0, none⟩ = some (.slice A0 nt ct) ∧ w'.cell? ⟨w.heap.size, 2, none⟩ = some (.slice R nr cr) ∧ w'.cell? ⟨w.heap.size, 3, none⟩ = some (.slice S ns cs)) (by kernel_rfl) ⟨e0, e2, e3⟩ (fun hHeld => ?_)
    refine wpAnyH_takesJ (i := 0) (v := (.pointer (some ⟨w.heap.size, 2, none⟩))) (some 29) rfl rfl (by kernel_rfl) (by kernel_rfl) (by kernel_rfl) (fun _ _ _ h => h) (Or.inl ⟨by rfl, (by intro W9 hSw; (try dsimp only at hSw); go_simp; first | done | with_reducible rfl)⟩) (by assumption) ?_
    simp only [Act.put, List.setIfInBounds_toArray]; try simp only [List.set_cons_zero, List.set_cons_succ]
    refine wpAnyH_takesJ (i := 1) (v := (.slice R nr cr)) (some 30) rfl rfl (by kernel_rfl) (by kernel_rfl) (by kernel_rfl) (fun _ _ _ h => h) (Or.inl ⟨by rfl, (by intro W9 hSw; (try dsimp only at hSw); go_simp; first | done | with_reducible rfl)⟩) (by assumption) ?_
    simp only [Act.put, List.setIfInBounds_toArray]; try simp only [List.set_cons_zero, List.set_cons_succ]
    refine wpAnyH_takesJ (i := 2) (v := (.int .i64 (nr : Nat))) (some 31) rfl rfl (by kernel_rfl) (by kernel_rfl) (by kernel_rfl) (fun _ _ _ h => h) (Or.inl ⟨by rfl, (by intro W9 hSw; (try dsimp only at hSw); go_simp; first | done | with_reducible rfl)⟩) (by assumption) ?_
    simp only [Act.put, List.setIfInBounds_toArray]; try simp only [List.set_cons_zero, List.set_cons_succ]
    refine wpAnyH_takesJ (i := 3) (v := (.int .i64 (nr : Nat))) (some 32) rfl rfl (by kernel_rfl) (by kernel_rfl) (by kernel_rfl) (fun _ _ _ h => h) (Or.inl ⟨by rfl, (by intro W9 hSw; (try dsimp only at hSw); go_simp; first | done | with_reducible rfl)⟩) (by assumption) ?_
    simp only [Act.put, List.setIfInBounds_toArray]; try simp only [List.set_cons_zero, List.set_cons_succ]
    refine wpAnyH_takesJ (i := 4) (v := (.bool false)) (some 33) rfl rfl (by kernel_rfl) (by kernel_rfl) (by kernel_rfl) (fun _ _ _ h => h) (Or.inl ⟨by rfl, (by intro W9 hSw; (try dsimp only at hSw); go_simp; first | done | with_reducible rfl)⟩) (by assumption) ?_
    simp only [Act.put, List.setIfInBounds_toArray]; try simp only [List.set_cons_zero, List.set_cons_succ]
    refine wpAnyH_takesJ (i := 5) (v := (.bool false)) (some 34) rfl rfl (by kernel_rfl) (by kernel_rfl) (by kernel_rfl) (fun _ _ _ h => h) (Or.inl ⟨by rfl, (by intro W9 hSw; (try dsimp only at hSw); go_simp; first | done | with_reducible rfl)⟩) (by assumption) ?_
    simp only [Act.put, List.setIfInBounds_toArray]; try simp only [List.set_cons_zero, List.set_cons_succ]
    refine wpAnyH_takesJ (i := 6) (v := (.pointer (some ⟨w.heap.size, 3, none⟩))) (some 35) rfl rfl (by kernel_rfl) (by kernel_rfl) (by kernel_rfl) (fun _ _ _ h => h) (Or.inl ⟨by rfl, (by intro W9 hSw; (try dsimp only at hSw); go_simp; first | done | with_reducible rfl)⟩) (by assumption) ?_
    simp only [Act.put, List.setIfInBounds_toArray]; try simp only [List.set_cons_zero, List.set_cons_succ]
    refine wpAnyH_takesJ (i := 7) (v := (.slice S ns cs)) (some 36) rfl rfl (by kernel_rfl) (by kernel_rfl) (by kernel_rfl) (fun _ _ _ h => h) (Or.inl ⟨by rfl, (by intro W9 hSw; (try dsimp only at hSw); go_simp; first | done | with_reducible rfl)⟩) (by assumption) ?_
    simp only [Act.put, List.setIfInBounds_toArray]; try simp only [List.set_cons_zero, List.set_cons_succ]
    refine wpAnyH_takesJ (i := 8) (v := (.int .i64 (ns : Nat))) (some 37) rfl rfl (by kernel_rfl) (by kernel_rfl) (by kernel_rfl) (fun _ _ _ h => h) (Or.inl ⟨by rfl, (by intro W9 hSw; (try dsimp only at hSw); go_simp; first | done | with_reducible rfl)⟩) (by assumption) ?_
    simp only [Act.put, List.setIfInBounds_toArray]; try simp only [List.set_cons_zero, List.set_cons_succ]
    refine wpAnyH_takesJ (i := 9) (v := (.pointer (some ⟨w.heap.size, 0, none⟩))) (some 38) rfl rfl (by kernel_rfl) (by kernel_rfl) (by kernel_rfl) (fun _ _ _ h => h) (Or.inl ⟨by rfl, (by intro W9 hSw; (try dsimp only at hSw); go_simp; first | done | with_reducible rfl)⟩) (by assumption) ?_
    simp only [Act.put, List.setIfInBounds_toArray]; try simp only [List.set_cons_zero, List.set_cons_succ]
    refine wpAnyH_takesJ (i := 10) (v := (.slice A0 nt ct)) (some 39) rfl rfl (by kernel_rfl) (by kernel_rfl) (by kernel_rfl) (fun _ _ _ h => h) (Or.inl ⟨by rfl, (by intro W9 hSw; (try dsimp only at hSw); go_simp; first | done | with_reducible rfl)⟩) (by assumption) ?_
    simp only [Act.put, List.setIfInBounds_toArray]; try simp only [List.set_cons_zero, List.set_cons_succ]
    refine wpAnyH_ready (rs := [11]) (by kernel_rfl) (by simp) ?_
    refine AllReadyH.cons rfl (fun K hK => ?_) AllReadyH.nil
    go_simp
    go_at_call 22
    refine (HO.out _ (by exact (H.out.below B3.out.drew).tree)).mono ?_
    rintro e w4 ⟨A4, c4, rfl, _, hbX⟩
    rw [HQ.out]
    have B4 := Lib.hid (held_trans B3.out.drew hbX)
    refine hK.out _ _ (by exact ⟨keepcell hbX e0, keepcell hbX e2, keepcell hbX e3⟩) (fun hHeld => ?_)
    clear hK K
    try dsimp only
    refine wpAnyH_takesJ (i := 12) (v := (.int .i64 (nn : Nat))) (some 41) rfl rfl (by kernel_rfl) (by kernel_rfl) (by kernel_rfl) (fun _ _ _ h => h) (Or.inl ⟨by rfl, (by intro W9 hSw; (try dsimp only at hSw); go_simp; first | done | with_reducible rfl)⟩) (by assumption) ?_
    simp only [Act.put, List.setIfInBounds_toArray]; try simp only [List.set_cons_zero, List.set_cons_succ]
    refine wpAnyH_takesJ (i := 13) (v := (.bool true)) (some 42) rfl rfl (by kernel_rfl) (by kernel_rfl) (by kernel_rfl) (fun _ _ _ h => h) (Or.inl ⟨by rfl, (by intro W9 hSw; (try dsimp only at hSw); go_simp; first | done | with_reducible rfl)⟩) (by assumption) ?_
    simp only [Act.put, List.setIfInBounds_toArray]; try simp only [List.set_cons_zero, List.set_cons_succ]
    refine wpAnyH_takesJ (i := 14) (v := (.bool true)) (some 43) rfl rfl (by kernel_rfl) (by kernel_rfl) (by kernel_rfl) (fun _ _ _ h => h) (Or.inl ⟨by rfl, (by intro W9 hSw; (try dsimp only at hSw); go_simp; first | done | with_reducible rfl)⟩) (by assumption) ?_
    simp only [Act.put, List.setIfInBounds_toArray]; try simp only [List.set_cons_zero, List.set_cons_succ]
    refine wpAnyH_takesJ (i := 15) (v := (.bool true)) (some 44) rfl rfl (by kernel_rfl) (by kernel_rfl) (by kernel_rfl) (fun _ _ _ h => h) (Or.inl ⟨by rfl, (by intro W9 hSw; (try dsimp only at hSw); go_simp; first | done | with_reducible rfl)⟩) (by assumption) ?_
    simp only [Act.put, List.setIfInBounds_toArray]; try simp only [List.set_cons_zero, List.set_cons_succ]
    refine wpAnyH_takesJ (i := 16) (v := undef) (some 45) rfl rfl (by kernel_rfl) (by kernel_rfl) (by kernel_rfl) (fun _ _ _ h => h) (Or.inr ⟨by rfl, rfl⟩) (by assumption) ?_
    simp only [Act.put, List.setIfInBounds_toArray]; try simp only [List.set_cons_zero, List.set_cons_succ]
    refine wpAnyH_takesJ (i := 17) (v := undef) (some 46) rfl rfl (by kernel_rfl) (by kernel_rfl) (by kernel_rfl) (fun _ _ _ h => h) (Or.inr ⟨by rfl, rfl⟩) (by assumption) ?_
    simp only [Act.put, List.setIfInBounds_toArray]; try simp only [List.set_cons_zero, List.set_cons_succ]
    refine wpAnyH_takesJ (i := 18) (v := undef) (some 47) rfl rfl (by kernel_rfl) (by kernel_rfl) (by kernel_rfl) (fun _ _ _ h => h) (Or.inr ⟨by rfl, rfl⟩) (by assumption) ?_
    simp only [Act.put, List.setIfInBounds_toArray]; try simp only [List.set_cons_zero, List.set_cons_succ]
    refine wpAnyH_takesJ (i := 19) (v := (.bool true)) (some 48) rfl rfl (by kernel_rfl) (by kernel_rfl) (by kernel_rfl) (fun _ _ _ h => h) (Or.inl ⟨by rfl, (by intro W9 hSw; (try dsimp only at hSw); go_simp; first | done | with_reducible rfl)⟩) (by assumption) ?_
    simp only [Act.put, List.setIfInBounds_toArray]; try simp only [List.set_cons_zero, List.set_cons_succ]
    refine wpAnyH_takesJ (i := 20) (v := (.bool true)) (some 49) rfl rfl (by kernel_rfl) (by kernel_rfl) (by kernel_rfl) (fun _ _ _ h => h) (Or.inl ⟨by rfl, (by intro W9 hSw; (try dsimp only at hSw); go_simp; first | done | with_reducible rfl)⟩) (by assumption) ?_
    simp only [Act.put, List.setIfInBounds_toArray]; try simp only [List.set_cons_zero, List.set_cons_succ]
    refine wpAnyH_takesJ (i := 21) (v := undef) (some 50) rfl rfl (by kernel_rfl) (by kernel_rfl) (by kernel_rfl) (fun _ _ _ h => h) (Or.inr ⟨by rfl, rfl⟩) (by assumption) ?_
    simp only [Act.put, List.setIfInBounds_toArray]; try simp only [List.set_cons_zero, List.set_cons_succ]
    refine wpAnyH_takesJ (i := 22) (v := undef) (some 51) rfl rfl (by kernel_rfl) (by kernel_rfl) (by kernel_rfl) (fun _ _ _ h => h) (Or.inr ⟨by rfl, rfl⟩) (by assumption) ?_
    simp only [Act.put, List.setIfInBounds_toArray]; try simp only [List.set_cons_zero, List.set_cons_succ]
    refine wpAnyH_takesJ (i := 23) (v := undef) (some 52) rfl rfl (by kernel_rfl) (by kernel_rfl) (by kernel_rfl) (fun _ _ _ h => h) (Or.inr ⟨by rfl, rfl⟩) (by assumption) ?_
    simp only [Act.put, List.setIfInBounds_toArray]; try simp only [List.set_cons_zero, List.set_cons_succ]
    refine wpAnyH_takesJ (i := 24) (v := undef) (some 53) rfl rfl (by kernel_rfl) (by kernel_rfl) (by kernel_rfl) (fun _ _ _ h => h) (Or.inr ⟨by rfl, rfl⟩) (by assumption) ?_
    simp only [Act.put, List.setIfInBounds_toArray]; try simp only [List.set_cons_zero, List.set_cons_succ]
    refine wpAnyH_takesJ (i := 25) (v := undef) (some 54) rfl rfl (by kernel_rfl) (by kernel_rfl) (by kernel_rfl) (fun _ _ _ h => h) (Or.inr ⟨by rfl, rfl⟩) (by assumption) ?_
    simp only [Act.put, List.setIfInBounds_toArray]; try simp only [List.set_cons_zero, List.set_cons_succ]
    refine wpAnyH_takesJ (i := 26) (v := undef) (some 55) rfl rfl (by kernel_rfl) (by kernel_rfl) (by kernel_rfl) (fun _ _ _ h => h) (Or.inr ⟨by rfl, rfl⟩) (by assumption) ?_
    simp only [Act.put, List.setIfInBounds_toArray]; try simp only [List.set_cons_zero, List.set_cons_succ]
    refine wpAnyH_takesJ (i := 27) (v := undef) (some 56) rfl rfl (by kernel_rfl) (by kernel_rfl) (by kernel_rfl) (fun _ _ _ h => h) (Or.inr ⟨by rfl, rfl⟩) (by assumption) ?_
    simp only [Act.put, List.setIfInBounds_toArray]; try simp only [List.set_cons_zero, List.set_cons_succ]
    refine wpAnyH_takesJ (i := 28) (v := undef) (some 57) rfl rfl (by kernel_rfl) (by kernel_rfl) (by kernel_rfl) (fun _ _ _ h => h) (Or.inr ⟨by rfl, rfl⟩) (by assumption) ?_
    simp only [Act.put, List.setIfInBounds_toArray]; try simp only [List.set_cons_zero, List.set_cons_succ]
    refine wpAnyH_takesJ (i := 29) (v := (.bool true)) (some 58) rfl rfl (by kernel_rfl) (by kernel_rfl) (by kernel_rfl) (fun _ _ _ h => h) (Or.inl ⟨by rfl, (by intro W9 hSw; (try dsimp only at hSw); go_simp; first | done | with_reducible rfl)⟩) (by assumption) ?_
    simp only [Act.put, List.setIfInBounds_toArray]; try simp only [List.set_cons_zero, List.set_cons_succ]
    refine wpAnyH_done (by kernel_rfl) ?_ _
    clear HT
    go_wp2_with fail
    go_ret
    exact ⟨rfl, (B4.out)⟩
  obtain rfl := Classical.not_not.1 g2
  clear g2
  by_cases g3 : q = 0
  · have g3' : ((q : Int) == 0) = true := by simp; omega
    have g3a : (q == 0) = true := by simp; omega
    obtain rfl := t_no HT (fun hM => hM.some (List.length_eq_zero_iff.1 (by rw [HQL.out]; exact g3)))
    refine wp_region_held_drew (S := fun w' => w'.cell? ⟨w.heap.size, 0, none⟩ = some (.slice A0 nt ct) ∧ w'.cell? ⟨w.heap.size, 2, none⟩ = some (.slice R nr cr) ∧ w'.cell? ⟨w.heap.size, 3, none⟩ = some (.slice S ns cs)) (by kernel_rfl) ⟨e0, e2, e3⟩ (fun hHeld => ?_)
    refine wpAnyH_takesJ (i := 0) (v := (.pointer (some ⟨w.heap.size, 2, none⟩))) (some 29) rfl rfl (by kernel_rfl) (by kernel_rfl) (by kernel_rfl) (fun _ _ _ h => h) (Or.inl ⟨by rfl, (by intro W9 hSw; (try dsimp only at hSw); go_simp; first | done | with_reducible rfl)⟩) (by assumption) ?_
    simp only [Act.put, List.setIfInBounds_toArray]; try simp only [List.set_cons_zero, List.set_cons_succ]
    refine wpAnyH_takesJ (i := 1) (v := (.slice R nr cr)) (some 30) rfl rfl (by kernel_rfl) (by kernel_rfl) (by kernel_rfl) (fun _ _ _ h => h) (Or.inl ⟨by rfl, (by intro W9 hSw; (try dsimp only at hSw); go_simp; first | done | with_reducible rfl)⟩) (by assumption) ?_
    simp only [Act.put, List.setIfInBounds_toArray]; try simp only [List.set_cons_zero, List.set_cons_succ]
    refine wpAnyH_takesJ (i := 2) (v := (.int .i64 (nr : Nat))) (some 31) rfl rfl (by kernel_rfl) (by kernel_rfl) (by kernel_rfl) (fun _ _ _ h => h) (Or.inl ⟨by rfl, (by intro W9 hSw; (try dsimp only at hSw); go_simp; first | done | with_reducible rfl)⟩) (by assumption) ?_
    simp only [Act.put, List.setIfInBounds_toArray]; try simp only [List.set_cons_zero, List.set_cons_succ]
    refine wpAnyH_takesJ (i := 3) (v := (.int .i64 (nr : Nat))) (some 32) rfl rfl (by kernel_rfl) (by kernel_rfl) (by kernel_rfl) (fun _ _ _ h => h) (Or.inl ⟨by rfl, (by intro W9 hSw; (try dsimp only at hSw); go_simp; first | done | with_reducible rfl)⟩) (by assumption) ?_
    simp only [Act.put, List.setIfInBounds_toArray]; try simp only [List.set_cons_zero, List.set_cons_succ]
    refine wpAnyH_takesJ (i := 4) (v := (.bool false)) (some 33) rfl rfl (by kernel_rfl) (by kernel_rfl) (by kernel_rfl) (fun _ _ _ h => h) (Or.inl ⟨by rfl, (by intro W9 hSw; (try dsimp only at hSw); go_simp; first | done | with_reducible rfl)⟩) (by assumption) ?_
    simp only [Act.put, List.setIfInBounds_toArray]; try simp only [List.set_cons_zero, List.set_cons_succ]
    refine wpAnyH_takesJ (i := 5) (v := (.bool false)) (some 34) rfl rfl (by kernel_rfl) (by kernel_rfl) (by kernel_rfl) (fun _ _ _ h => h) (Or.inl ⟨by rfl, (by intro W9 hSw; (try dsimp only at hSw); go_simp; first | done | with_reducible rfl)⟩) (by assumption) ?_
    simp only [Act.put, List.setIfInBounds_toArray]; try simp only [List.set_cons_zero, List.set_cons_succ]
    refine wpAnyH_takesJ (i := 6) (v := (.pointer (some ⟨w.heap.size, 3, none⟩))) (some 35) rfl rfl (by kernel_rfl) (by kernel_rfl) (by kernel_rfl) (fun _ _ _ h => h) (Or.inl ⟨by rfl, (by intro W9 hSw; (try dsimp only at hSw); go_simp; first | done | with_reducible rfl)⟩) (by assumption) ?_
    simp only [Act.put, List.setIfInBounds_toArray]; try simp only [List.set_cons_zero, List.set_cons_succ]
    refine wpAnyH_takesJ (i := 7) (v := (.slice S ns cs)) (some 36) rfl rfl (by kernel_rfl) (by kernel_rfl) (by kernel_rfl) (fun _ _ _ h => h) (Or.inl ⟨by rfl, (by intro W9 hSw; (try dsimp only at hSw); go_simp; first | done | with_reducible rfl)⟩) (by assumption) ?_
    simp only [Act.put, List.setIfInBounds_toArray]; try simp only [List.set_cons_zero, List.set_cons_succ]
    refine wpAnyH_takesJ (i := 8) (v := (.int .i64 (ns : Nat))) (some 37) rfl rfl (by kernel_rfl) (by kernel_rfl) (by kernel_rfl) (fun _ _ _ h => h) (Or.inl ⟨by rfl, (by intro W9 hSw; (try dsimp only at hSw); go_simp; first | done | with_reducible rfl)⟩) (by assumption) ?_
    simp only [Act.put, List.setIfInBounds_toArray]; try simp only [List.set_cons_zero, List.set_cons_succ]
    refine wpAnyH_takesJ (i := 9) (v := (.pointer (some ⟨w.heap.size, 0, none⟩))) (some 38) rfl rfl (by kernel_rfl) (by kernel_rfl) (by kernel_rfl) (fun _ _ _ h => h) (Or.inl ⟨by rfl, (by intro W9 hSw; (try dsimp only at hSw); go_simp; first | done | with_reducible rfl)⟩) (by assumption) ?_
    simp only [Act.put, List.setIfInBounds_toArray]; try simp only [List.set_cons_zero, List.set_cons_succ]
    refine wpAnyH_takesJ (i := 10) (v := (.slice A0 nt ct)) (some 39) rfl rfl (by kernel_rfl) (by kernel_rfl) (by kernel_rfl) (fun _ _ _ h => h) (Or.inl ⟨by rfl, (by intro W9 hSw; (try dsimp only at hSw); go_simp; first | done | with_reducible rfl)⟩) (by assumption) ?_
    simp only [Act.put, List.setIfInBounds_toArray]; try simp only [List.set_cons_zero, List.set_cons_succ]
    refine wpAnyH_ready (rs := [11]) (by kernel_rfl) (by simp) ?_
    refine AllReadyH.cons rfl (fun K hK => ?_) AllReadyH.nil
    go_simp
    go_at_call 22
    refine (HO.out _ (by exact (H.out.below B3.out.drew).tree)).mono ?_
    rintro e w4 ⟨A4, c4, rfl, _, hbX⟩
    rw [HQ.out]
    have B4 := Lib.hid (held_trans B3.out.drew hbX)
    refine hK.out _ _ (by exact ⟨keepcell hbX e0, keepcell hbX e2, keepcell hbX e3⟩) (fun hHeld => ?_)
    clear hK K
    try dsimp only
    refine wpAnyH_takesJ (i := 12) (v := (.int .i64 (ns : Nat))) (some 41) rfl rfl (by kernel_rfl) (by kernel_rfl) (by kernel_rfl) (fun _ _ _ h => h) (Or.inl ⟨by rfl, (by intro W9 hSw; (try dsimp only at hSw); go_simp; first | done | with_reducible rfl)⟩) (by assumption) ?_
    simp only [Act.put, List.setIfInBounds_toArray]; try simp only [List.set_cons_zero, List.set_cons_succ]
    refine wpAnyH_takesJ (i := 13) (v := (.bool false)) (some 42) rfl rfl (by kernel_rfl) (by kernel_rfl) (by kernel_rfl) (fun _ _ _ h => h) (Or.inl ⟨by rfl, (by intro W9 hSw; (try dsimp only at hSw); go_simp; first | done | with_reducible rfl)⟩) (by assumption) ?_
    simp only [Act.put, List.setIfInBounds_toArray]; try simp only [List.set_cons_zero, List.set_cons_succ]
    refine wpAnyH_takesJ (i := 14) (v := (.bool false)) (some 43) rfl rfl (by kernel_rfl) (by kernel_rfl) (by kernel_rfl) (fun _ _ _ h => h) (Or.inl ⟨by rfl, (by intro W9 hSw; (try dsimp only at hSw); go_simp; first | done | with_reducible rfl)⟩) (by assumption) ?_
    simp only [Act.put, List.setIfInBounds_toArray]; try simp only [List.set_cons_zero, List.set_cons_succ]
    refine wpAnyH_takesJ (i := 15) (v := (.bool false)) (some 44) rfl rfl (by kernel_rfl) (by kernel_rfl) (by kernel_rfl) (fun _ _ _ h => h) (Or.inl ⟨by rfl, (by intro W9 hSw; (try dsimp only at hSw); go_simp; first | done | with_reducible rfl)⟩) (by assumption) ?_
    simp only [Act.put, List.setIfInBounds_toArray]; try simp only [List.set_cons_zero, List.set_cons_succ]
    refine wpAnyH_takesJ (i := 16) (v := (.slice A3 q c3)) (some 45) rfl rfl (by kernel_rfl) (by kernel_rfl) (by kernel_rfl) (fun _ _ _ h => h) (Or.inl ⟨by rfl, (by intro W9 hSw; (try dsimp only at hSw); go_simp; first | done | with_reducible rfl)⟩) (by assumption) ?_
    simp only [Act.put, List.setIfInBounds_toArray]; try simp only [List.set_cons_zero, List.set_cons_succ]
    refine wpAnyH_takesJ (i := 17) (v := (.int .i64 (q : Nat))) (some 46) rfl rfl (by kernel_rfl) (by kernel_rfl) (by kernel_rfl) (fun _ _ _ h => h) (Or.inl ⟨by rfl, (by intro W9 hSw; (try dsimp only at hSw); go_simp; first | done | with_reducible rfl)⟩) (by assumption) ?_
    simp only [Act.put, List.setIfInBounds_toArray]; try simp only [List.set_cons_zero, List.set_cons_succ]
    refine wpAnyH_takesJ (i := 18) (v := (.bool true)) (some 47) rfl rfl (by kernel_rfl) (by kernel_rfl) (by kernel_rfl) (fun _ _ _ h => h) (Or.inl ⟨by rfl, (by intro W9 hSw; (try dsimp only at hSw); go_simp; first | done | with_reducible rfl)⟩) (by assumption) ?_
    simp only [Act.put, List.setIfInBounds_toArray]; try simp only [List.set_cons_zero, List.set_cons_succ]
    refine wpAnyH_takesJ (i := 19) (v := (.bool true)) (some 48) rfl rfl (by kernel_rfl) (by kernel_rfl) (by kernel_rfl) (fun _ _ _ h => h) (Or.inl ⟨by rfl, (by intro W9 hSw; (try dsimp only at hSw); go_simp; first | done | with_reducible rfl)⟩) (by assumption) ?_
    simp only [Act.put, List.setIfInBounds_toArray]; try simp only [List.set_cons_zero, List.set_cons_succ]
    refine wpAnyH_takesJ (i := 20) (v := (.bool true)) (some 49) rfl rfl (by kernel_rfl) (by kernel_rfl) (by kernel_rfl) (fun _ _ _ h => h) (Or.inl ⟨by rfl, (by intro W9 hSw; (try dsimp only at hSw); go_simp; first | done | with_reducible rfl)⟩) (by assumption) ?_
    simp only [Act.put, List.setIfInBounds_toArray]; try simp only [List.set_cons_zero, List.set_cons_succ]
    refine wpAnyH_takesJ (i := 21) (v := undef) (some 50) rfl rfl (by kernel_rfl) (by kernel_rfl) (by kernel_rfl) (fun _ _ _ h => h) (Or.inr ⟨by rfl, rfl⟩) (by assumption) ?_
    simp only [Act.put, List.setIfInBounds_toArray]; try simp only [List.set_cons_zero, List.set_cons_succ]
    refine wpAnyH_takesJ (i := 22) (v := undef) (some 51) rfl rfl (by kernel_rfl) (by kernel_rfl) (by kernel_rfl) (fun _ _ _ h => h) (Or.inr ⟨by rfl, rfl⟩) (by assumption) ?_
    simp only [Act.put, List.setIfInBounds_toArray]; try simp only [List.set_cons_zero, List.set_cons_succ]
    refine wpAnyH_takesJ (i := 23) (v := undef) (some 52) rfl rfl (by kernel_rfl) (by kernel_rfl) (by kernel_rfl) (fun _ _ _ h => h) (Or.inr ⟨by rfl, rfl⟩) (by assumption) ?_
    simp only [Act.put, List.setIfInBounds_toArray]; try simp only [List.set_cons_zero, List.set_cons_succ]
    refine wpAnyH_takesJ (i := 24) (v := undef) (some 53) rfl rfl (by kernel_rfl) (by kernel_rfl) (by kernel_rfl) (fun _ _ _ h => h) (Or.inr ⟨by rfl, rfl⟩) (by assumption) ?_
    simp only [Act.put, List.setIfInBounds_toArray]; try simp only [List.set_cons_zero, List.set_cons_succ]
    refine wpAnyH_takesJ (i := 25) (v := undef) (some 54) rfl rfl (by kernel_rfl) (by kernel_rfl) (by kernel_rfl) (fun _ _ _ h => h) (Or.inr ⟨by rfl, rfl⟩) (by assumption) ?_
    simp only [Act.put, List.setIfInBounds_toArray]; try simp only [List.set_cons_zero, List.set_cons_succ]
    refine wpAnyH_takesJ (i := 26) (v := undef) (some 55) rfl rfl (by kernel_rfl) (by kernel_rfl) (by kernel_rfl) (fun _ _ _ h => h) (Or.inr ⟨by rfl, rfl⟩) (by assumption) ?_
    simp only [Act.put, List.setIfInBounds_toArray]; try simp only [List.set_cons_zero, List.set_cons_succ]
    refine wpAnyH_takesJ (i := 27) (v := undef) (some 56) rfl rfl (by kernel_rfl) (by kernel_rfl) (by kernel_rfl) (fun _ _ _ h => h) (Or.inr ⟨by rfl, rfl⟩) (by assumption) ?_
    simp only [Act.put, List.setIfInBounds_toArray]; try simp only [List.set_cons_zero, List.set_cons_succ]
    refine wpAnyH_takesJ (i := 28) (v := undef) (some 57) rfl rfl (by kernel_rfl) (by kernel_rfl) (by kernel_rfl) (fun _ _ _ h => h) (Or.inr ⟨by rfl, rfl⟩) (by assumption) ?_
    simp only [Act.put, List.setIfInBounds_toArray]; try simp only [List.set_cons_zero, List.set_cons_succ]
    refine wpAnyH_takesJ (i := 29) (v := (.bool true)) (some 58) rfl rfl (by kernel_rfl) (by kernel_rfl) (by kernel_rfl) (fun _ _ _ h => h) (Or.inl ⟨by rfl, (by intro W9 hSw; (try dsimp only at hSw); go_simp; first | done | with_reducible rfl)⟩) (by assumption) ?_
    simp only [Act.put, List.setIfInBounds_toArray]; try simp only [List.set_cons_zero, List.set_cons_succ]
    refine wpAnyH_done (by kernel_rfl) ?_ _
    clear HT
    go_wp2_with fail
    go_ret
    exact ⟨rfl, (B4.out)⟩
  obtain ⟨q', rfl⟩ : ∃ q', q = q' + 1 := ⟨q - 1, by omega⟩
  obtain ⟨b, off, rfl, _, hc⟩ := R3.out.cells (by omega)
  obtain ⟨z, hz⟩ : ∃ z, (Zp.mem r.on)[q']? = some z := ⟨_, List.getElem?_eq_getElem (by have := HQL.out; omega)⟩
  have cz := hc q' z hz
  have HZ := Lib.hid hz
  have g3' : ((q' : Int) + 1 == 0) = false := by simp; omega
  have wq : IntKind.i64.wrap ((q' : Int) + 1 - 1) = (q' : Int) := by rw [Int.add_sub_cancel]; have := R3.out.cap; have := R3.out.most; exact IntWalk.i64_in _ (by omega)
  have wq' : IntKind.i64.wrap (q' : Int) = (q' : Int) := by have := R3.out.cap; have := R3.out.most; exact IntWalk.i64_in _ (by omega)
  have j0 : (0 : Int) ≤ (q' : Int) := by omega
  have j1 : (q' : Int) < (q' : Int) + 1 := by omega
  clear hc hz g3
  by_cases g4 : (nr : Int) ≤ z
  · obtain rfl := t_no HT (fun hM => by have := hM.few z (List.mem_of_getElem? HZ.out); omega)
    refine wp_region_held_drew (S := fun w' => w'.cell? ⟨w.heap.size, 0, none⟩ = some (.slice A0 nt ct) ∧ w'.cell? ⟨w.heap.size, 2, none⟩ = some (.slice R nr cr) ∧ w'.cell? ⟨w.heap.size, 3, none⟩ = some (.slice S ns cs) ∧ w'.cell? ⟨b, off + q', none⟩ = some (.int .i64 z)) (by kernel_rfl) ⟨e0, e2, e3, cz⟩ (fun hHeld => ?_)
    refine wpAnyH_takesJ (i := 0) (v := (.pointer (some ⟨w.heap.size, 2, none⟩))) (some 29) rfl rfl (by kernel_rfl) (by kernel_rfl) (by kernel_rfl) (fun _ _ _ h => h) (Or.inl ⟨by rfl, (by intro W9 hSw; (try dsimp only at hSw); go_simp; first | done | with_reducible rfl)⟩) (by assumption) ?_
    simp only [Act.put, List.setIfInBounds_toArray]; try simp only [List.set_cons_zero, List.set_cons_succ]
    refine wpAnyH_takesJ (i := 1) (v := (.slice R nr cr)) (some 30) rfl rfl (by kernel_rfl) (by kernel_rfl) (by kernel_rfl) (fun _ _ _ h => h) (Or.inl ⟨by rfl, (by intro W9 hSw; (try dsimp only at hSw); go_simp; first | done | with_reducible rfl)⟩) (by assumption) ?_
    simp only [Act.put, List.setIfInBounds_toArray]; try simp only [List.set_cons_zero, List.set_cons_succ]
    refine wpAnyH_takesJ (i := 2) (v := (.int .i64 (nr : Nat))) (some 31) rfl rfl (by kernel_rfl) (by kernel_rfl) (by kernel_rfl) (fun _ _ _ h => h) (Or.inl ⟨by rfl, (by intro W9 hSw; (try dsimp only at hSw); go_simp; first | done | with_reducible rfl)⟩) (by assumption) ?_
    simp only [Act.put, List.setIfInBounds_toArray]; try simp only [List.set_cons_zero, List.set_cons_succ]
    refine wpAnyH_takesJ (i := 3) (v := (.int .i64 (nr : Nat))) (some 32) rfl rfl (by kernel_rfl) (by kernel_rfl) (by kernel_rfl) (fun _ _ _ h => h) (Or.inl ⟨by rfl, (by intro W9 hSw; (try dsimp only at hSw); go_simp; first | done | with_reducible rfl)⟩) (by assumption) ?_
    simp only [Act.put, List.setIfInBounds_toArray]; try simp only [List.set_cons_zero, List.set_cons_succ]
    refine wpAnyH_takesJ (i := 4) (v := (.bool false)) (some 33) rfl rfl (by kernel_rfl) (by kernel_rfl) (by kernel_rfl) (fun _ _ _ h => h) (Or.inl ⟨by rfl, (by intro W9 hSw; (try dsimp only at hSw); go_simp; first | done | with_reducible rfl)⟩) (by assumption) ?_
    simp only [Act.put, List.setIfInBounds_toArray]; try simp only [List.set_cons_zero, List.set_cons_succ]
    refine wpAnyH_takesJ (i := 5) (v := (.bool false)) (some 34) rfl rfl (by kernel_rfl) (by kernel_rfl) (by kernel_rfl) (fun _ _ _ h => h) (Or.inl ⟨by rfl, (by intro W9 hSw; (try dsimp only at hSw); go_simp; first | done | with_reducible rfl)⟩) (by assumption) ?_
    simp only [Act.put, List.setIfInBounds_toArray]; try simp only [List.set_cons_zero, List.set_cons_succ]
    refine wpAnyH_takesJ (i := 6) (v := (.pointer (some ⟨w.heap.size, 3, none⟩))) (some 35) rfl rfl (by kernel_rfl) (by kernel_rfl) (by kernel_rfl) (fun _ _ _ h => h) (Or.inl ⟨by rfl, (by intro W9 hSw; (try dsimp only at hSw); go_simp; first | done | with_reducible rfl)⟩) (by assumption) ?_
    simp only [Act.put, List.setIfInBounds_toArray]; try simp only [List.set_cons_zero, List.set_cons_succ]
    refine wpAnyH_takesJ (i := 7) (v := (.slice S ns cs)) (some 36) rfl rfl (by kernel_rfl) (by kernel_rfl) (by kernel_rfl) (fun _ _ _ h => h) (Or.inl ⟨by rfl, (by intro W9 hSw; (try dsimp only at hSw); go_simp; first | done | with_reducible rfl)⟩) (by assumption) ?_
    simp only [Act.put, List.setIfInBounds_toArray]; try simp only [List.set_cons_zero, List.set_cons_succ]
    refine wpAnyH_takesJ (i := 8) (v := (.int .i64 (ns : Nat))) (some 37) rfl rfl (by kernel_rfl) (by kernel_rfl) (by kernel_rfl) (fun _ _ _ h => h) (Or.inl ⟨by rfl, (by intro W9 hSw; (try dsimp only at hSw); go_simp; first | done | with_reducible rfl)⟩) (by assumption) ?_
    simp only [Act.put, List.setIfInBounds_toArray]; try simp only [List.set_cons_zero, List.set_cons_succ]
    refine wpAnyH_takesJ (i := 9) (v := (.pointer (some ⟨w.heap.size, 0, none⟩))) (some 38) rfl rfl (by kernel_rfl) (by kernel_rfl) (by kernel_rfl) (fun _ _ _ h => h) (Or.inl ⟨by rfl, (by intro W9 hSw; (try dsimp only at hSw); go_simp; first | done | with_reducible rfl)⟩) (by assumption) ?_
    simp only [Act.put, List.setIfInBounds_toArray]; try simp only [List.set_cons_zero, List.set_cons_succ]
    refine wpAnyH_takesJ (i := 10) (v := (.slice A0 nt ct)) (some 39) rfl rfl (by kernel_rfl) (by kernel_rfl) (by kernel_rfl) (fun _ _ _ h => h) (Or.inl ⟨by rfl, (by intro W9 hSw; (try dsimp only at hSw); go_simp; first | done | with_reducible rfl)⟩) (by assumption) ?_
    simp only [Act.put, List.setIfInBounds_toArray]; try simp only [List.set_cons_zero, List.set_cons_succ]
    refine wpAnyH_ready (rs := [11]) (by kernel_rfl) (by simp) ?_
    refine AllReadyH.cons rfl (fun K hK => ?_) AllReadyH.nil
    go_simp
    go_at_call 22
    refine (HO.out _ (by exact (H.out.below B3.out.drew).tree)).mono ?_
    rintro e w4 ⟨A4, c4, rfl, _, hbX⟩
    rw [HQ.out]
    have B4 := Lib.hid (held_trans B3.out.drew hbX)
    refine hK.out _ _ (by exact ⟨keepcell hbX e0, keepcell hbX e2, keepcell hbX e3, keepcell hbX cz⟩) (fun hHeld => ?_)
    clear hK K
    try dsimp only
    refine wpAnyH_takesJ (i := 12) (v := (.int .i64 (ns : Nat))) (some 41) rfl rfl (by kernel_rfl) (by kernel_rfl) (by kernel_rfl) (fun _ _ _ h => h) (Or.inl ⟨by rfl, (by intro W9 hSw; (try dsimp only at hSw); go_simp; first | done | with_reducible rfl)⟩) (by assumption) ?_
    simp only [Act.put, List.setIfInBounds_toArray]; try simp only [List.set_cons_zero, List.set_cons_succ]
    refine wpAnyH_takesJ (i := 13) (v := (.bool false)) (some 42) rfl rfl (by kernel_rfl) (by kernel_rfl) (by kernel_rfl) (fun _ _ _ h => h) (Or.inl ⟨by rfl, (by intro W9 hSw; (try dsimp only at hSw); go_simp; first | done | with_reducible rfl)⟩) (by assumption) ?_
    simp only [Act.put, List.setIfInBounds_toArray]; try simp only [List.set_cons_zero, List.set_cons_succ]
    refine wpAnyH_takesJ (i := 14) (v := (.bool false)) (some 43) rfl rfl (by kernel_rfl) (by kernel_rfl) (by kernel_rfl) (fun _ _ _ h => h) (Or.inl ⟨by rfl, (by intro W9 hSw; (try dsimp only at hSw); go_simp; first | done | with_reducible rfl)⟩) (by assumption) ?_
    simp only [Act.put, List.setIfInBounds_toArray]; try simp only [List.set_cons_zero, List.set_cons_succ]
    refine wpAnyH_takesJ (i := 15) (v := (.bool false)) (some 44) rfl rfl (by kernel_rfl) (by kernel_rfl) (by kernel_rfl) (fun _ _ _ h => h) (Or.inl ⟨by rfl, (by intro W9 hSw; (try dsimp only at hSw); go_simp; first | done | with_reducible rfl)⟩) (by assumption) ?_
    simp only [Act.put, List.setIfInBounds_toArray]; try simp only [List.set_cons_zero, List.set_cons_succ]
    refine wpAnyH_takesJ (i := 16) (v := (.slice (some ⟨b, off, none⟩) (q' + 1) c3)) (some 45) rfl rfl (by kernel_rfl) (by kernel_rfl) (by kernel_rfl) (fun _ _ _ h => h) (Or.inl ⟨by rfl, (by intro W9 hSw; (try dsimp only at hSw); go_simp; first | done | with_reducible rfl)⟩) (by assumption) ?_
    simp only [Act.put, List.setIfInBounds_toArray]; try simp only [List.set_cons_zero, List.set_cons_succ]
    refine wpAnyH_takesJ (i := 17) (v := (.int .i64 (q' + 1 : Int))) (some 46) rfl rfl (by kernel_rfl) (by kernel_rfl) (by kernel_rfl) (fun _ _ _ h => h) (Or.inl ⟨by rfl, (by intro W9 hSw; (try dsimp only at hSw); go_simp; first | done | with_reducible rfl)⟩) (by assumption) ?_
    simp only [Act.put, List.setIfInBounds_toArray]; try simp only [List.set_cons_zero, List.set_cons_succ]
    refine wpAnyH_takesJ (i := 18) (v := (.bool false)) (some 47) rfl rfl (by kernel_rfl) (by kernel_rfl) (by kernel_rfl) (fun _ _ _ h => h) (Or.inl ⟨by rfl, (by intro W9 hSw; (try dsimp only at hSw); go_simp; first | done | with_reducible rfl)⟩) (by assumption) ?_
    simp only [Act.put, List.setIfInBounds_toArray]; try simp only [List.set_cons_zero, List.set_cons_succ]
    refine wpAnyH_takesJ (i := 19) (v := (.bool false)) (some 48) rfl rfl (by kernel_rfl) (by kernel_rfl) (by kernel_rfl) (fun _ _ _ h => h) (Or.inl ⟨by rfl, (by intro W9 hSw; (try dsimp only at hSw); go_simp; first | done | with_reducible rfl)⟩) (by assumption) ?_
    simp only [Act.put, List.setIfInBounds_toArray]; try simp only [List.set_cons_zero, List.set_cons_succ]
    refine wpAnyH_takesJ (i := 20) (v := (.bool false)) (some 49) rfl rfl (by kernel_rfl) (by kernel_rfl) (by kernel_rfl) (fun _ _ _ h => h) (Or.inl ⟨by rfl, (by intro W9 hSw; (try dsimp only at hSw); go_simp; first | done | with_reducible rfl)⟩) (by assumption) ?_
    simp only [Act.put, List.setIfInBounds_toArray]; try simp only [List.set_cons_zero, List.set_cons_succ]
    refine wpAnyH_takesJ (i := 21) (v := (.slice (some ⟨b, off, none⟩) (q' + 1) c3)) (some 50) rfl rfl (by kernel_rfl) (by kernel_rfl) (by kernel_rfl) (fun _ _ _ h => h) (Or.inl ⟨by rfl, (by intro W9 hSw; (try dsimp only at hSw); go_simp; first | done | with_reducible rfl)⟩) (by assumption) ?_
    simp only [Act.put, List.setIfInBounds_toArray]; try simp only [List.set_cons_zero, List.set_cons_succ]
    refine wpAnyH_takesJ (i := 22) (v := (.slice (some ⟨b, off, none⟩) (q' + 1) c3)) (some 51) rfl rfl (by kernel_rfl) (by kernel_rfl) (by kernel_rfl) (fun _ _ _ h => h) (Or.inl ⟨by rfl, (by intro W9 hSw; (try dsimp only at hSw); go_simp; first | done | with_reducible rfl)⟩) (by assumption) ?_
    simp only [Act.put, List.setIfInBounds_toArray]; try simp only [List.set_cons_zero, List.set_cons_succ]
    refine wpAnyH_takesJ (i := 23) (v := (.int .i64 (q' + 1 : Int))) (some 52) rfl rfl (by kernel_rfl) (by kernel_rfl) (by kernel_rfl) (fun _ _ _ h => h) (Or.inl ⟨by rfl, (by intro W9 hSw; (try dsimp only at hSw); go_simp; first | done | with_reducible rfl)⟩) (by assumption) ?_
    simp only [Act.put, List.setIfInBounds_toArray]; try simp only [List.set_cons_zero, List.set_cons_succ]
    refine wpAnyH_takesJ (i := 24) (v := (.int .i64 (q' : Nat))) (some 53) rfl rfl (by kernel_rfl) (by kernel_rfl) (by kernel_rfl) (fun _ _ _ h => h) (Or.inl ⟨by rfl, (by intro W9 hSw; (try dsimp only at hSw); go_simp; first | done | with_reducible rfl)⟩) (by assumption) ?_
    simp only [Act.put, List.setIfInBounds_toArray]; try simp only [List.set_cons_zero, List.set_cons_succ]
    refine wpAnyH_takesJ (i := 25) (v := (.pointer (some ⟨b, off + q', none⟩))) (some 54) rfl rfl (by kernel_rfl) (by kernel_rfl) (by kernel_rfl) (fun _ _ _ h => h) (Or.inl ⟨by rfl, (by intro W9 hSw; (try dsimp only at hSw); go_simp; first | done | with_reducible rfl)⟩) (by assumption) ?_
    simp only [Act.put, List.setIfInBounds_toArray]; try simp only [List.set_cons_zero, List.set_cons_succ]
    refine wpAnyH_takesJ (i := 26) (v := (.int .i64 z)) (some 55) rfl rfl (by kernel_rfl) (by kernel_rfl) (by kernel_rfl) (fun _ _ _ h => h) (Or.inl ⟨by rfl, (by intro W9 hSw; (try dsimp only at hSw); go_simp; first | done | with_reducible rfl)⟩) (by assumption) ?_
    simp only [Act.put, List.setIfInBounds_toArray]; try simp only [List.set_cons_zero, List.set_cons_succ]
    refine wpAnyH_takesJ (i := 27) (v := (.int .i64 (nr : Nat))) (some 56) rfl rfl (by kernel_rfl) (by kernel_rfl) (by kernel_rfl) (fun _ _ _ h => h) (Or.inl ⟨by rfl, (by intro W9 hSw; (try dsimp only at hSw); go_simp; first | done | with_reducible rfl)⟩) (by assumption) ?_
    simp only [Act.put, List.setIfInBounds_toArray]; try simp only [List.set_cons_zero, List.set_cons_succ]
    refine wpAnyH_takesJ (i := 28) (v := (.bool true)) (some 57) rfl rfl (by kernel_rfl) (by kernel_rfl) (by kernel_rfl) (fun _ _ _ h => h) (Or.inl ⟨by rfl, (by intro W9 hSw; (try dsimp only at hSw); go_simp; first | done | with_reducible rfl)⟩) (by assumption) ?_
    simp only [Act.put, List.setIfInBounds_toArray]; try simp only [List.set_cons_zero, List.set_cons_succ]
    refine wpAnyH_takesJ (i := 29) (v := (.bool true)) (some 58) rfl rfl (by kernel_rfl) (by kernel_rfl) (by kernel_rfl) (fun _ _ _ h => h) (Or.inl ⟨by rfl, (by intro W9 hSw; (try dsimp only at hSw); go_simp; first | done | with_reducible rfl)⟩) (by assumption) ?_
    simp only [Act.put, List.setIfInBounds_toArray]; try simp only [List.set_cons_zero, List.set_cons_succ]
    refine wpAnyH_done (by kernel_rfl) ?_ _
    clear HT
    go_wp2_with fail
    go_ret
    exact ⟨rfl, (B4.out)⟩
  have g4' : decide ((nr : Int) ≤ z) = false := decide_eq_false g4
  refine wp_region_held_drew (S := fun w' => w'.cell? ⟨w.heap.size, 0, none⟩ = some (.slice A0 nt ct) ∧ w'.cell? ⟨w.heap.size, 2, none⟩ = some (.slice R nr cr) ∧ w'.cell? ⟨w.heap.size, 3, none⟩ = some (.slice S ns cs) ∧ w'.cell? ⟨b, off + q', none⟩ = some (.int .i64 z)) (by kernel_rfl) ⟨e0, e2, e3, cz⟩ (fun hHeld => ?_)
  refine wpAnyH_takesJ (i := 0) (v := (.pointer (some ⟨w.heap.size, 2, none⟩))) (some 29) rfl rfl (by kernel_rfl) (by kernel_rfl) (by kernel_rfl) (fun _ _ _ h => h) (Or.inl ⟨by rfl, (by intro W9 hSw; (try dsimp only at hSw); go_simp; first | done | with_reducible rfl)⟩) (by assumption) ?_
  simp only [Act.put, List.setIfInBounds_toArray]; try simp only [List.set_cons_zero, List.set_cons_succ]
  refine wpAnyH_takesJ (i := 1) (v := (.slice R nr cr)) (some 30) rfl rfl (by kernel_rfl) (by kernel_rfl) (by kernel_rfl) (fun _ _ _ h => h) (Or.inl ⟨by rfl, (by intro W9 hSw; (try dsimp only at hSw); go_simp; first | done | with_reducible rfl)⟩) (by assumption) ?_
  simp only [Act.put, List.setIfInBounds_toArray]; try simp only [List.set_cons_zero, List.set_cons_succ]
  refine wpAnyH_takesJ (i := 2) (v := (.int .i64 (nr : Nat))) (some 31) rfl rfl (by kernel_rfl) (by kernel_rfl) (by kernel_rfl) (fun _ _ _ h => h) (Or.inl ⟨by rfl, (by intro W9 hSw; (try dsimp only at hSw); go_simp; first | done | with_reducible rfl)⟩) (by assumption) ?_
  simp only [Act.put, List.setIfInBounds_toArray]; try simp only [List.set_cons_zero, List.set_cons_succ]
  refine wpAnyH_takesJ (i := 3) (v := (.int .i64 (nr : Nat))) (some 32) rfl rfl (by kernel_rfl) (by kernel_rfl) (by kernel_rfl) (fun _ _ _ h => h) (Or.inl ⟨by rfl, (by intro W9 hSw; (try dsimp only at hSw); go_simp; first | done | with_reducible rfl)⟩) (by assumption) ?_
  simp only [Act.put, List.setIfInBounds_toArray]; try simp only [List.set_cons_zero, List.set_cons_succ]
  refine wpAnyH_takesJ (i := 4) (v := (.bool false)) (some 33) rfl rfl (by kernel_rfl) (by kernel_rfl) (by kernel_rfl) (fun _ _ _ h => h) (Or.inl ⟨by rfl, (by intro W9 hSw; (try dsimp only at hSw); go_simp; first | done | with_reducible rfl)⟩) (by assumption) ?_
  simp only [Act.put, List.setIfInBounds_toArray]; try simp only [List.set_cons_zero, List.set_cons_succ]
  refine wpAnyH_takesJ (i := 5) (v := (.bool false)) (some 34) rfl rfl (by kernel_rfl) (by kernel_rfl) (by kernel_rfl) (fun _ _ _ h => h) (Or.inl ⟨by rfl, (by intro W9 hSw; (try dsimp only at hSw); go_simp; first | done | with_reducible rfl)⟩) (by assumption) ?_
  simp only [Act.put, List.setIfInBounds_toArray]; try simp only [List.set_cons_zero, List.set_cons_succ]
  refine wpAnyH_takesJ (i := 6) (v := (.pointer (some ⟨w.heap.size, 3, none⟩))) (some 35) rfl rfl (by kernel_rfl) (by kernel_rfl) (by kernel_rfl) (fun _ _ _ h => h) (Or.inl ⟨by rfl, (by intro W9 hSw; (try dsimp only at hSw); go_simp; first | done | with_reducible rfl)⟩) (by assumption) ?_
  simp only [Act.put, List.setIfInBounds_toArray]; try simp only [List.set_cons_zero, List.set_cons_succ]
  refine wpAnyH_takesJ (i := 7) (v := (.slice S ns cs)) (some 36) rfl rfl (by kernel_rfl) (by kernel_rfl) (by kernel_rfl) (fun _ _ _ h => h) (Or.inl ⟨by rfl, (by intro W9 hSw; (try dsimp only at hSw); go_simp; first | done | with_reducible rfl)⟩) (by assumption) ?_
  simp only [Act.put, List.setIfInBounds_toArray]; try simp only [List.set_cons_zero, List.set_cons_succ]
  refine wpAnyH_takesJ (i := 8) (v := (.int .i64 (ns : Nat))) (some 37) rfl rfl (by kernel_rfl) (by kernel_rfl) (by kernel_rfl) (fun _ _ _ h => h) (Or.inl ⟨by rfl, (by intro W9 hSw; (try dsimp only at hSw); go_simp; first | done | with_reducible rfl)⟩) (by assumption) ?_
  simp only [Act.put, List.setIfInBounds_toArray]; try simp only [List.set_cons_zero, List.set_cons_succ]
  refine wpAnyH_takesJ (i := 9) (v := (.pointer (some ⟨w.heap.size, 0, none⟩))) (some 38) rfl rfl (by kernel_rfl) (by kernel_rfl) (by kernel_rfl) (fun _ _ _ h => h) (Or.inl ⟨by rfl, (by intro W9 hSw; (try dsimp only at hSw); go_simp; first | done | with_reducible rfl)⟩) (by assumption) ?_
  simp only [Act.put, List.setIfInBounds_toArray]; try simp only [List.set_cons_zero, List.set_cons_succ]
  refine wpAnyH_takesJ (i := 10) (v := (.slice A0 nt ct)) (some 39) rfl rfl (by kernel_rfl) (by kernel_rfl) (by kernel_rfl) (fun _ _ _ h => h) (Or.inl ⟨by rfl, (by intro W9 hSw; (try dsimp only at hSw); go_simp; first | done | with_reducible rfl)⟩) (by assumption) ?_
  simp only [Act.put, List.setIfInBounds_toArray]; try simp only [List.set_cons_zero, List.set_cons_succ]
  refine wpAnyH_ready (rs := [11]) (by kernel_rfl) (by simp) ?_
  refine AllReadyH.cons rfl (fun K hK => ?_) AllReadyH.nil
  go_simp
  go_at_call 22
  refine (HO.out _ (by exact (H.out.below B3.out.drew).tree)).mono ?_
  rintro e w4 ⟨A4, c4, rfl, _, hbX⟩
  rw [HQ.out]
  have B4 := Lib.hid (held_trans B3.out.drew hbX)
  refine hK.out _ _ (by exact ⟨keepcell hbX e0, keepcell hbX e2, keepcell hbX e3, keepcell hbX cz⟩) (fun hHeld => ?_)
  clear hK K
  try dsimp only
  refine wpAnyH_takesJ (i := 12) (v := (.int .i64 (ns : Nat))) (some 41) rfl rfl (by kernel_rfl) (by kernel_rfl) (by kernel_rfl) (fun _ _ _ h => h) (Or.inl ⟨by rfl, (by intro W9 hSw; (try dsimp only at hSw); go_simp; first | done | with_reducible rfl)⟩) (by assumption) ?_
  simp only [Act.put, List.setIfInBounds_toArray]; try simp only [List.set_cons_zero, List.set_cons_succ]
  refine wpAnyH_takesJ (i := 13) (v := (.bool false)) (some 42) rfl rfl (by kernel_rfl) (by kernel_rfl) (by kernel_rfl) (fun _ _ _ h => h) (Or.inl ⟨by rfl, (by intro W9 hSw; (try dsimp only at hSw); go_simp; first | done | with_reducible rfl)⟩) (by assumption) ?_
  simp only [Act.put, List.setIfInBounds_toArray]; try simp only [List.set_cons_zero, List.set_cons_succ]
  refine wpAnyH_takesJ (i := 14) (v := (.bool false)) (some 43) rfl rfl (by kernel_rfl) (by kernel_rfl) (by kernel_rfl) (fun _ _ _ h => h) (Or.inl ⟨by rfl, (by intro W9 hSw; (try dsimp only at hSw); go_simp; first | done | with_reducible rfl)⟩) (by assumption) ?_
  simp only [Act.put, List.setIfInBounds_toArray]; try simp only [List.set_cons_zero, List.set_cons_succ]
  refine wpAnyH_takesJ (i := 15) (v := (.bool false)) (some 44) rfl rfl (by kernel_rfl) (by kernel_rfl) (by kernel_rfl) (fun _ _ _ h => h) (Or.inl ⟨by rfl, (by intro W9 hSw; (try dsimp only at hSw); go_simp; first | done | with_reducible rfl)⟩) (by assumption) ?_
  simp only [Act.put, List.setIfInBounds_toArray]; try simp only [List.set_cons_zero, List.set_cons_succ]
  refine wpAnyH_takesJ (i := 16) (v := (.slice (some ⟨b, off, none⟩) (q' + 1) c3)) (some 45) rfl rfl (by kernel_rfl) (by kernel_rfl) (by kernel_rfl) (fun _ _ _ h => h) (Or.inl ⟨by rfl, (by intro W9 hSw; (try dsimp only at hSw); go_simp; first | done | with_reducible rfl)⟩) (by assumption) ?_
  simp only [Act.put, List.setIfInBounds_toArray]; try simp only [List.set_cons_zero, List.set_cons_succ]
  refine wpAnyH_takesJ (i := 17) (v := (.int .i64 (q' + 1 : Int))) (some 46) rfl rfl (by kernel_rfl) (by kernel_rfl) (by kernel_rfl) (fun _ _ _ h => h) (Or.inl ⟨by rfl, (by intro W9 hSw; (try dsimp only at hSw); go_simp; first | done | with_reducible rfl)⟩) (by assumption) ?_
  simp only [Act.put, List.setIfInBounds_toArray]; try simp only [List.set_cons_zero, List.set_cons_succ]
  refine wpAnyH_takesJ (i := 18) (v := (.bool false)) (some 47) rfl rfl (by kernel_rfl) (by kernel_rfl) (by kernel_rfl) (fun _ _ _ h => h) (Or.inl ⟨by rfl, (by intro W9 hSw; (try dsimp only at hSw); go_simp; first | done | with_reducible rfl)⟩) (by assumption) ?_
  simp only [Act.put, List.setIfInBounds_toArray]; try simp only [List.set_cons_zero, List.set_cons_succ]
  refine wpAnyH_takesJ (i := 19) (v := (.bool false)) (some 48) rfl rfl (by kernel_rfl) (by kernel_rfl) (by kernel_rfl) (fun _ _ _ h => h) (Or.inl ⟨by rfl, (by intro W9 hSw; (try dsimp only at hSw); go_simp; first | done | with_reducible rfl)⟩) (by assumption) ?_
  simp only [Act.put, List.setIfInBounds_toArray]; try simp only [List.set_cons_zero, List.set_cons_succ]
  refine wpAnyH_takesJ (i := 20) (v := (.bool false)) (some 49) rfl rfl (by kernel_rfl) (by kernel_rfl) (by kernel_rfl) (fun _ _ _ h => h) (Or.inl ⟨by rfl, (by intro W9 hSw; (try dsimp only at hSw); go_simp; first | done | with_reducible rfl)⟩) (by assumption) ?_
  simp only [Act.put, List.setIfInBounds_toArray]; try simp only [List.set_cons_zero, List.set_cons_succ]
  refine wpAnyH_takesJ (i := 21) (v := (.slice (some ⟨b, off, none⟩) (q' + 1) c3)) (some 50) rfl rfl (by kernel_rfl) (by kernel_rfl) (by kernel_rfl) (fun _ _ _ h => h) (Or.inl ⟨by rfl, (by intro W9 hSw; (try dsimp only at hSw); go_simp; first | done | with_reducible rfl)⟩) (by assumption) ?_
  simp only [Act.put, List.setIfInBounds_toArray]; try simp only [List.set_cons_zero, List.set_cons_succ]
  refine wpAnyH_takesJ (i := 22) (v := (.slice (some ⟨b, off, none⟩) (q' + 1) c3)) (some 51) rfl rfl (by kernel_rfl) (by kernel_rfl) (by kernel_rfl) (fun _ _ _ h => h) (Or.inl ⟨by rfl, (by intro W9 hSw; (try dsimp only at hSw); go_simp; first | done | with_reducible rfl)⟩) (by assumption) ?_
  simp only [Act.put, List.setIfInBounds_toArray]; try simp only [List.set_cons_zero, List.set_cons_succ]
  refine wpAnyH_takesJ (i := 23) (v := (.int .i64 (q' + 1 : Int))) (some 52) rfl rfl (by kernel_rfl) (by kernel_rfl) (by kernel_rfl) (fun _ _ _ h => h) (Or.inl ⟨by rfl, (by intro W9 hSw; (try dsimp only at hSw); go_simp; first | done | with_reducible rfl)⟩) (by assumption) ?_
  simp only [Act.put, List.setIfInBounds_toArray]; try simp only [List.set_cons_zero, List.set_cons_succ]
  refine wpAnyH_takesJ (i := 24) (v := (.int .i64 (q' : Nat))) (some 53) rfl rfl (by kernel_rfl) (by kernel_rfl) (by kernel_rfl) (fun _ _ _ h => h) (Or.inl ⟨by rfl, (by intro W9 hSw; (try dsimp only at hSw); go_simp; first | done | with_reducible rfl)⟩) (by assumption) ?_
  simp only [Act.put, List.setIfInBounds_toArray]; try simp only [List.set_cons_zero, List.set_cons_succ]
  refine wpAnyH_takesJ (i := 25) (v := (.pointer (some ⟨b, off + q', none⟩))) (some 54) rfl rfl (by kernel_rfl) (by kernel_rfl) (by kernel_rfl) (fun _ _ _ h => h) (Or.inl ⟨by rfl, (by intro W9 hSw; (try dsimp only at hSw); go_simp; first | done | with_reducible rfl)⟩) (by assumption) ?_
  simp only [Act.put, List.setIfInBounds_toArray]; try simp only [List.set_cons_zero, List.set_cons_succ]
  refine wpAnyH_takesJ (i := 26) (v := (.int .i64 z)) (some 55) rfl rfl (by kernel_rfl) (by kernel_rfl) (by kernel_rfl) (fun _ _ _ h => h) (Or.inl ⟨by rfl, (by intro W9 hSw; (try dsimp only at hSw); go_simp; first | done | with_reducible rfl)⟩) (by assumption) ?_
  simp only [Act.put, List.setIfInBounds_toArray]; try simp only [List.set_cons_zero, List.set_cons_succ]
  refine wpAnyH_takesJ (i := 27) (v := (.int .i64 (nr : Nat))) (some 56) rfl rfl (by kernel_rfl) (by kernel_rfl) (by kernel_rfl) (fun _ _ _ h => h) (Or.inl ⟨by rfl, (by intro W9 hSw; (try dsimp only at hSw); go_simp; first | done | with_reducible rfl)⟩) (by assumption) ?_
  simp only [Act.put, List.setIfInBounds_toArray]; try simp only [List.set_cons_zero, List.set_cons_succ]
  refine wpAnyH_takesJ (i := 28) (v := (.bool false)) (some 57) rfl rfl (by kernel_rfl) (by kernel_rfl) (by kernel_rfl) (fun _ _ _ h => h) (Or.inl ⟨by rfl, (by intro W9 hSw; (try dsimp only at hSw); go_simp; first | done | with_reducible rfl)⟩) (by assumption) ?_
  simp only [Act.put, List.setIfInBounds_toArray]; try simp only [List.set_cons_zero, List.set_cons_succ]
  refine wpAnyH_takesJ (i := 29) (v := (.bool false)) (some 58) rfl rfl (by kernel_rfl) (by kernel_rfl) (by kernel_rfl) (fun _ _ _ h => h) (Or.inl ⟨by rfl, (by intro W9 hSw; (try dsimp only at hSw); go_simp; first | done | with_reducible rfl)⟩) (by assumption) ?_
  simp only [Act.put, List.setIfInBounds_toArray]; try simp only [List.set_cons_zero, List.set_cons_succ]
  refine wpAnyH_done (by kernel_rfl) ?_ _
  have X5 := Lib.hid ((X3.out.drew).step hbX)
  have HH := Lib.hid (show Head r from ⟨hm, by omega, by omega, by rw [hr1]; exact HP.out.symm, by rw [hs1]; exact HQN.out.symm, fun e => by have := HQL.out; rw [e] at this; simp at this, rises_last (Zp.mem_rises _) HQL.out HZ.out (by omega)⟩)
  clear hbX e0 e2 e3 cz wq wq' g3' g4' j0 j1 HO HQ X3 B3 R3 hHeld
  go_wp2_with fail
  clear TR hnt HN n0 hr2 hr3 hs2 hs3 HQL HZ HP HQN
  have B4 := Lib.hid B4.out
  go_loopw [5] (fun i wr => ∃ k : Nat, k ≤ nr ∧ i = .int .i64 k ∧ Hid (∀ j, j < k → ∀ y, r.rings[j]? = some y → GoodR r j y) ∧ Hid (Below w4.heap.size w4 wr)) (fun i _ => nr - (intOf i).toNat)
  case atStart => exact ⟨0, Nat.zero_le _, rfl, Lib.hid (fun j hj => absurd hj (by omega)), Lib.hid (Below.refl _ _)⟩
  case round =>
    obtain ⟨k, hk, rfl, HG, HB⟩ := hrel
    have hB1 := held_trans B4.out HB.out
    have HM := Lib.hid (H.out.below hB1)
    have B6 := Lib.hid hB1
    have X6 := Lib.hid (X5.out.step HB.out)
    have d0 := X6.out.c0
    have d1 := X6.out.c1
    have d2 := X6.out.c2
    have d3 := X6.out.c3
    have d4 := X6.out.c4
    clear hB1
    by_cases hlt : k < nr
    · obtain ⟨x, hx⟩ : ∃ x, r.rings[k]? = some x := ⟨_, List.getElem?_eq_getElem (by omega)⟩
      obtain ⟨b1, o1, A, n, c, hR, _, c0, c1, hrow⟩ := HM.out.ringAt hx
      simp only at hR
      subst hR
      have hn : n ≤ 400 := by rw [← hrow.len]; exact HL.out.ring x (List.mem_of_getElem? hx)
      have HX := Lib.hid hx
      have HR := Lib.hid hrow
      have i0 : (0 : Int) ≤ (k : Int) := by omega
      have i1 : (k : Int) < (nr : Int) := by omega
      obtain ⟨mb, hmb⟩ : ∃ mb, mb = Rp.may (x.1, x.2) r.size := ⟨_, rfl⟩
      obtain ⟨na, hna⟩ : ∃ na, na = (Rp.all x).length := ⟨_, rfl⟩
      obtain ⟨ob, hob⟩ : ∃ ob, ob = Jp.onP r (k : Int) := ⟨_, rfl⟩
      have hMY := fun W (hv : Row W A n c x.2) => refMay_any x.1 A n c x.2 r.size W hv (by omega)
      have hAL := fun W (hv : Row W A n c x.2) => refAll_any x.1 A n c x.2 W hv (by omega)
      have hON := fun W => jrefOn_any ⟨A0, nt, ct, some ⟨b1, o1, none⟩, nr, cr, S, ns, cs⟩ r (k : Int) W H.out.on
      rw [← hmb] at hMY
      rw [← hob] at hON
      unfold jv at hON
      simp only at hON
      have MY := Lib.hid hMY
      have AL := Lib.hid hAL
      have ON := Lib.hid hON
      have HMB := Lib.hid (show mb = Rp.may x r.size from hmb)
      have HNA := Lib.hid hna
      have HOB := Lib.hid hob
      clear hx hrow HM hMY hAL hON hmb hna hob
      go_wp2_with fail
      cases mb with
      | false =>
        obtain rfl := t_no HT (fun hM => by have := (hM.ring k x HX.out).1; rw [← HMB.out] at this; cases this)
        refine wp_region_held_drew (S := fun w' => (w'.cell? ⟨w.heap.size, 0, none⟩ = some (.slice A0 nt ct) ∧ w'.cell? ⟨w.heap.size, 1, none⟩ = some (.int .i64 r.size) ∧ w'.cell? ⟨w.heap.size, 2, none⟩ = some (.slice (some ⟨b1, o1, none⟩) nr cr) ∧ w'.cell? ⟨w.heap.size, 3, none⟩ = some (.slice S ns cs) ∧ w'.cell? ⟨w.heap.size, 4, none⟩ = some (.int .u64 (r.on : Nat))) ∧ w'.cell? ⟨b1, o1 + k * 2, none⟩ = some (.int .i64 x.1) ∧ w'.cell? ⟨b1, o1 + k * 2 + 1, none⟩ = some (.slice A n c)) (by kernel_rfl) ⟨⟨d0, d1, d2, d3, d4⟩, c0, c1⟩ (fun hHeld => ?_)
        refine wpAnyH_takesJ (i := 0) (v := (.pointer (some ⟨w.heap.size, 2, none⟩))) (some 64) rfl rfl (by kernel_rfl) (by kernel_rfl) (by kernel_rfl) (fun _ _ _ h => h) (Or.inl ⟨by rfl, (by intro W9 hSw; (try dsimp only at hSw); go_simp; first | done | with_reducible rfl)⟩) (by assumption) ?_
        simp only [Act.put, List.setIfInBounds_toArray]; try simp only [List.set_cons_zero, List.set_cons_succ]
        refine wpAnyH_takesJ (i := 1) (v := (.slice (some ⟨b1, o1, none⟩) nr cr)) (some 65) rfl rfl (by kernel_rfl) (by kernel_rfl) (by kernel_rfl) (fun _ _ _ h => h) (Or.inl ⟨by rfl, (by intro W9 hSw; (try dsimp only at hSw); go_simp; first | done | with_reducible rfl)⟩) (by assumption) ?_
        simp only [Act.put, List.setIfInBounds_toArray]; try simp only [List.set_cons_zero, List.set_cons_succ]
        refine wpAnyH_takesJ (i := 2) (v := (.int .i64 (k : Nat))) (some 66) rfl rfl (by kernel_rfl) (by kernel_rfl) (by kernel_rfl) (fun _ _ _ h => h) (Or.inl ⟨by rfl, (by intro W9 hSw; (try dsimp only at hSw); go_simp; first | done | with_reducible rfl)⟩) (by assumption) ?_
        simp only [Act.put, List.setIfInBounds_toArray]; try simp only [List.set_cons_zero, List.set_cons_succ]
        refine wpAnyH_takesJ (i := 3) (v := (.pointer (some ⟨b1, o1 + k * 2, none⟩))) (some 67) rfl rfl (by kernel_rfl) (by kernel_rfl) (by kernel_rfl) (fun _ _ _ h => h) (Or.inl ⟨by rfl, (by intro W9 hSw; (try dsimp only at hSw); go_simp; first | done | with_reducible rfl)⟩) (by assumption) ?_
        simp only [Act.put, List.setIfInBounds_toArray]; try simp only [List.set_cons_zero, List.set_cons_succ]
        refine wpAnyH_takesJ (i := 4) (v := (.agg #[.int .i64 x.1, .slice A n c])) (some 68) rfl rfl (by kernel_rfl) (by kernel_rfl) (by kernel_rfl) (fun _ _ _ h => h) (Or.inl ⟨by rfl, (by intro W9 hSw; (try dsimp only at hSw); go_simp; first | done | with_reducible rfl)⟩) (by assumption) ?_
        simp only [Act.put, List.setIfInBounds_toArray]; try simp only [List.set_cons_zero, List.set_cons_succ]
        refine wpAnyH_takesJ (i := 5) (v := (.pointer (some ⟨w.heap.size, 1, none⟩))) (some 69) rfl rfl (by kernel_rfl) (by kernel_rfl) (by kernel_rfl) (fun _ _ _ h => h) (Or.inl ⟨by rfl, (by intro W9 hSw; (try dsimp only at hSw); go_simp; first | done | with_reducible rfl)⟩) (by assumption) ?_
        simp only [Act.put, List.setIfInBounds_toArray]; try simp only [List.set_cons_zero, List.set_cons_succ]
        refine wpAnyH_takesJ (i := 6) (v := (.int .i64 r.size)) (some 70) rfl rfl (by kernel_rfl) (by kernel_rfl) (by kernel_rfl) (fun _ _ _ h => h) (Or.inl ⟨by rfl, (by intro W9 hSw; (try dsimp only at hSw); go_simp; first | done | with_reducible rfl)⟩) (by assumption) ?_
        simp only [Act.put, List.setIfInBounds_toArray]; try simp only [List.set_cons_zero, List.set_cons_succ]
        refine wpAnyH_ready (rs := [7]) (by kernel_rfl) (by simp) ?_
        refine AllReadyH.cons rfl (fun K hK => ?_) AllReadyH.nil
        go_simp
        go_at_call 24
        refine (MY.out _ (by exact HR.out.drew)).mono ?_
        rintro e w7 ⟨rfl, hb7⟩
        have B7 := Lib.hid (held_trans B6.out.drew hb7)
        have Y7 := X6.out.drew.step hb7
        have R7 := Lib.hid (HR.out.drew.below hb7)
        have hHeld7 := (show (w7.cell? ⟨w.heap.size, 0, none⟩ = some (.slice A0 nt ct) ∧ w7.cell? ⟨w.heap.size, 1, none⟩ = some (.int .i64 r.size) ∧ w7.cell? ⟨w.heap.size, 2, none⟩ = some (.slice (some ⟨b1, o1, none⟩) nr cr) ∧ w7.cell? ⟨w.heap.size, 3, none⟩ = some (.slice S ns cs) ∧ w7.cell? ⟨w.heap.size, 4, none⟩ = some (.int .u64 (r.on : Nat))) ∧ w7.cell? ⟨b1, o1 + k * 2, none⟩ = some (.int .i64 x.1) ∧ w7.cell? ⟨b1, o1 + k * 2 + 1, none⟩ = some (.slice A n c) from ⟨⟨Y7.c0, Y7.c1, Y7.c2, Y7.c3, Y7.c4⟩, keepcell hb7 c0, keepcell hb7 c1⟩)
        refine hK.out _ _ hHeld7 (fun hHeld => ?_)
        clear hK K
        try dsimp only
        refine wpAnyH_takesJ (i := 8) (v := (.bool true)) (some 72) rfl rfl (by kernel_rfl) (by kernel_rfl) (by kernel_rfl) (fun _ _ _ h => h) (Or.inl ⟨by rfl, (by intro W9 hSw; (try dsimp only at hSw); go_simp; first | done | with_reducible rfl)⟩) (by assumption) ?_
        simp only [Act.put, List.setIfInBounds_toArray]; try simp only [List.set_cons_zero, List.set_cons_succ]
        refine wpAnyH_takesJ (i := 9) (v := (.bool true)) (some 73) rfl rfl (by kernel_rfl) (by kernel_rfl) (by kernel_rfl) (fun _ _ _ h => h) (Or.inl ⟨by rfl, (by intro W9 hSw; (try dsimp only at hSw); go_simp; first | done | with_reducible rfl)⟩) (by assumption) ?_
        simp only [Act.put, List.setIfInBounds_toArray]; try simp only [List.set_cons_zero, List.set_cons_succ]
        refine wpAnyH_takesJ (i := 10) (v := undef) (some 74) rfl rfl (by kernel_rfl) (by kernel_rfl) (by kernel_rfl) (fun _ _ _ h => h) (Or.inr ⟨by rfl, rfl⟩) (by assumption) ?_
        simp only [Act.put, List.setIfInBounds_toArray]; try simp only [List.set_cons_zero, List.set_cons_succ]
        refine wpAnyH_takesJ (i := 11) (v := undef) (some 75) rfl rfl (by kernel_rfl) (by kernel_rfl) (by kernel_rfl) (fun _ _ _ h => h) (Or.inr ⟨by rfl, rfl⟩) (by assumption) ?_
        simp only [Act.put, List.setIfInBounds_toArray]; try simp only [List.set_cons_zero, List.set_cons_succ]
        refine wpAnyH_takesJ (i := 12) (v := undef) (some 76) rfl rfl (by kernel_rfl) (by kernel_rfl) (by kernel_rfl) (fun _ _ _ h => h) (Or.inr ⟨by rfl, rfl⟩) (by assumption) ?_
        simp only [Act.put, List.setIfInBounds_toArray]; try simp only [List.set_cons_zero, List.set_cons_succ]
        refine wpAnyH_takesJ (i := 13) (v := undef) (some 77) rfl rfl (by kernel_rfl) (by kernel_rfl) (by kernel_rfl) (fun _ _ _ h => h) (Or.inr ⟨by rfl, rfl⟩) (by assumption) ?_
        simp only [Act.put, List.setIfInBounds_toArray]; try simp only [List.set_cons_zero, List.set_cons_succ]
        refine wpAnyH_takesJ (i := 14) (v := undef) (some 78) rfl rfl (by kernel_rfl) (by kernel_rfl) (by kernel_rfl) (fun _ _ _ h => h) (Or.inr ⟨by rfl, rfl⟩) (by assumption) ?_
        simp only [Act.put, List.setIfInBounds_toArray]; try simp only [List.set_cons_zero, List.set_cons_succ]
        refine wpAnyH_takesJ (i := 15) (v := undef) (some 79) rfl rfl (by kernel_rfl) (by kernel_rfl) (by kernel_rfl) (fun _ _ _ h => h) (Or.inr ⟨by rfl, rfl⟩) (by assumption) ?_
        simp only [Act.put, List.setIfInBounds_toArray]; try simp only [List.set_cons_zero, List.set_cons_succ]
        refine wpAnyH_takesJ (i := 16) (v := undef) (some 80) rfl rfl (by kernel_rfl) (by kernel_rfl) (by kernel_rfl) (fun _ _ _ h => h) (Or.inr ⟨by rfl, rfl⟩) (by assumption) ?_
        simp only [Act.put, List.setIfInBounds_toArray]; try simp only [List.set_cons_zero, List.set_cons_succ]
        refine wpAnyH_takesJ (i := 17) (v := undef) (some 81) rfl rfl (by kernel_rfl) (by kernel_rfl) (by kernel_rfl) (fun _ _ _ h => h) (Or.inr ⟨by rfl, rfl⟩) (by assumption) ?_
        simp only [Act.put, List.setIfInBounds_toArray]; try simp only [List.set_cons_zero, List.set_cons_succ]
        refine wpAnyH_takesJ (i := 18) (v := undef) (some 82) rfl rfl (by kernel_rfl) (by kernel_rfl) (by kernel_rfl) (fun _ _ _ h => h) (Or.inr ⟨by rfl, rfl⟩) (by assumption) ?_
        simp only [Act.put, List.setIfInBounds_toArray]; try simp only [List.set_cons_zero, List.set_cons_succ]
        refine wpAnyH_takesJ (i := 19) (v := undef) (some 83) rfl rfl (by kernel_rfl) (by kernel_rfl) (by kernel_rfl) (fun _ _ _ h => h) (Or.inr ⟨by rfl, rfl⟩) (by assumption) ?_
        simp only [Act.put, List.setIfInBounds_toArray]; try simp only [List.set_cons_zero, List.set_cons_succ]
        refine wpAnyH_takesJ (i := 20) (v := undef) (some 84) rfl rfl (by kernel_rfl) (by kernel_rfl) (by kernel_rfl) (fun _ _ _ h => h) (Or.inr ⟨by rfl, rfl⟩) (by assumption) ?_
        simp only [Act.put, List.setIfInBounds_toArray]; try simp only [List.set_cons_zero, List.set_cons_succ]
        refine wpAnyH_takesJ (i := 21) (v := undef) (some 85) rfl rfl (by kernel_rfl) (by kernel_rfl) (by kernel_rfl) (fun _ _ _ h => h) (Or.inr ⟨by rfl, rfl⟩) (by assumption) ?_
        simp only [Act.put, List.setIfInBounds_toArray]; try simp only [List.set_cons_zero, List.set_cons_succ]
        refine wpAnyH_takesJ (i := 22) (v := undef) (some 86) rfl rfl (by kernel_rfl) (by kernel_rfl) (by kernel_rfl) (fun _ _ _ h => h) (Or.inr ⟨by rfl, rfl⟩) (by assumption) ?_
        simp only [Act.put, List.setIfInBounds_toArray]; try simp only [List.set_cons_zero, List.set_cons_succ]
        refine wpAnyH_takesJ (i := 23) (v := undef) (some 87) rfl rfl (by kernel_rfl) (by kernel_rfl) (by kernel_rfl) (fun _ _ _ h => h) (Or.inr ⟨by rfl, rfl⟩) (by assumption) ?_
        simp only [Act.put, List.setIfInBounds_toArray]; try simp only [List.set_cons_zero, List.set_cons_succ]
        refine wpAnyH_takesJ (i := 24) (v := (.bool true)) (some 88) rfl rfl (by kernel_rfl) (by kernel_rfl) (by kernel_rfl) (fun _ _ _ h => h) (Or.inl ⟨by rfl, (by intro W9 hSw; (try dsimp only at hSw); go_simp; first | done | with_reducible rfl)⟩) (by assumption) ?_
        simp only [Act.put, List.setIfInBounds_toArray]; try simp only [List.set_cons_zero, List.set_cons_succ]
        refine wpAnyH_done (by kernel_rfl) ?_ _
        clear HT
        go_wp2_with fail
        go_ret
        exact ⟨rfl, (B7.out)⟩
      | true =>
        by_cases ha : na = 0
        · have a1 : decide (0 < (na : Int)) = false := decide_eq_false (by omega)
          have a2 : decide (0 < na) = false := decide_eq_false (by omega)
          refine wp_region_held_drew (S := fun w' => (w'.cell? ⟨w.heap.size, 0, none⟩ = some (.slice A0 nt ct) ∧ w'.cell? ⟨w.heap.size, 1, none⟩ = some (.int .i64 r.size) ∧ w'.cell? ⟨w.heap.size, 2, none⟩ = some (.slice (some ⟨b1, o1, none⟩) nr cr) ∧ w'.cell? ⟨w.heap.size, 3, none⟩ = some (.slice S ns cs) ∧ w'.cell? ⟨w.heap.size, 4, none⟩ = some (.int .u64 (r.on : Nat))) ∧ w'.cell? ⟨b1, o1 + k * 2, none⟩ = some (.int .i64 x.1) ∧ w'.cell? ⟨b1, o1 + k * 2 + 1, none⟩ = some (.slice A n c)) (by kernel_rfl) ⟨⟨d0, d1, d2, d3, d4⟩, c0, c1⟩ (fun hHeld => ?_)
          refine wpAnyH_takesJ (i := 0) (v := (.pointer (some ⟨w.heap.size, 2, none⟩))) (some 64) rfl rfl (by kernel_rfl) (by kernel_rfl) (by kernel_rfl) (fun _ _ _ h => h) (Or.inl ⟨by rfl, (by intro W9 hSw; (try dsimp only at hSw); go_simp; first | done | with_reducible rfl)⟩) (by assumption) ?_
          simp only [Act.put, List.setIfInBounds_toArray]; try simp only [List.set_cons_zero, List.set_cons_succ]
          refine wpAnyH_takesJ (i := 1) (v := (.slice (some ⟨b1, o1, none⟩) nr cr)) (some 65) rfl rfl (by kernel_rfl) (by kernel_rfl) (by kernel_rfl) (fun _ _ _ h => h) (Or.inl ⟨by rfl, (by intro W9 hSw; (try dsimp only at hSw); go_simp; first | done | with_reducible rfl)⟩) (by assumption) ?_
          simp only [Act.put, List.setIfInBounds_toArray]; try simp only [List.set_cons_zero, List.set_cons_succ]
          refine wpAnyH_takesJ (i := 2) (v := (.int .i64 (k : Nat))) (some 66) rfl rfl (by kernel_rfl) (by kernel_rfl) (by kernel_rfl) (fun _ _ _ h => h) (Or.inl ⟨by rfl, (by intro W9 hSw; (try dsimp only at hSw); go_simp; first | done | with_reducible rfl)⟩) (by assumption) ?_
          simp only [Act.put, List.setIfInBounds_toArray]; try simp only [List.set_cons_zero, List.set_cons_succ]
          refine wpAnyH_takesJ (i := 3) (v := (.pointer (some ⟨b1, o1 + k * 2, none⟩))) (some 67) rfl rfl (by kernel_rfl) (by kernel_rfl) (by kernel_rfl) (fun _ _ _ h => h) (Or.inl ⟨by rfl, (by intro W9 hSw; (try dsimp only at hSw); go_simp; first | done | with_reducible rfl)⟩) (by assumption) ?_
          simp only [Act.put, List.setIfInBounds_toArray]; try simp only [List.set_cons_zero, List.set_cons_succ]
          refine wpAnyH_takesJ (i := 4) (v := (.agg #[.int .i64 x.1, .slice A n c])) (some 68) rfl rfl (by kernel_rfl) (by kernel_rfl) (by kernel_rfl) (fun _ _ _ h => h) (Or.inl ⟨by rfl, (by intro W9 hSw; (try dsimp only at hSw); go_simp; first | done | with_reducible rfl)⟩) (by assumption) ?_
          simp only [Act.put, List.setIfInBounds_toArray]; try simp only [List.set_cons_zero, List.set_cons_succ]
          refine wpAnyH_takesJ (i := 5) (v := (.pointer (some ⟨w.heap.size, 1, none⟩))) (some 69) rfl rfl (by kernel_rfl) (by kernel_rfl) (by kernel_rfl) (fun _ _ _ h => h) (Or.inl ⟨by rfl, (by intro W9 hSw; (try dsimp only at hSw); go_simp; first | done | with_reducible rfl)⟩) (by assumption) ?_
          simp only [Act.put, List.setIfInBounds_toArray]; try simp only [List.set_cons_zero, List.set_cons_succ]
          refine wpAnyH_takesJ (i := 6) (v := (.int .i64 r.size)) (some 70) rfl rfl (by kernel_rfl) (by kernel_rfl) (by kernel_rfl) (fun _ _ _ h => h) (Or.inl ⟨by rfl, (by intro W9 hSw; (try dsimp only at hSw); go_simp; first | done | with_reducible rfl)⟩) (by assumption) ?_
          simp only [Act.put, List.setIfInBounds_toArray]; try simp only [List.set_cons_zero, List.set_cons_succ]
          refine wpAnyH_ready (rs := [7]) (by kernel_rfl) (by simp) ?_
          refine AllReadyH.cons rfl (fun K hK => ?_) AllReadyH.nil
          go_simp
          go_at_call 24
          refine (MY.out _ (by exact HR.out.drew)).mono ?_
          rintro e w7 ⟨rfl, hb7⟩
          have B7 := Lib.hid (held_trans B6.out.drew hb7)
          have Y7 := X6.out.drew.step hb7
          have R7 := Lib.hid (HR.out.drew.below hb7)
          have hHeld7 := (show (w7.cell? ⟨w.heap.size, 0, none⟩ = some (.slice A0 nt ct) ∧ w7.cell? ⟨w.heap.size, 1, none⟩ = some (.int .i64 r.size) ∧ w7.cell? ⟨w.heap.size, 2, none⟩ = some (.slice (some ⟨b1, o1, none⟩) nr cr) ∧ w7.cell? ⟨w.heap.size, 3, none⟩ = some (.slice S ns cs) ∧ w7.cell? ⟨w.heap.size, 4, none⟩ = some (.int .u64 (r.on : Nat))) ∧ w7.cell? ⟨b1, o1 + k * 2, none⟩ = some (.int .i64 x.1) ∧ w7.cell? ⟨b1, o1 + k * 2 + 1, none⟩ = some (.slice A n c) from ⟨⟨Y7.c0, Y7.c1, Y7.c2, Y7.c3, Y7.c4⟩, keepcell hb7 c0, keepcell hb7 c1⟩)
          refine hK.out _ _ hHeld7 (fun hHeld => ?_)
          clear hK K
          try dsimp only
          refine wpAnyH_takesJ (i := 8) (v := (.bool false)) (some 72) rfl rfl (by kernel_rfl) (by kernel_rfl) (by kernel_rfl) (fun _ _ _ h => h) (Or.inl ⟨by rfl, (by intro W9 hSw; (try dsimp only at hSw); go_simp; first | done | with_reducible rfl)⟩) (by assumption) ?_
          simp only [Act.put, List.setIfInBounds_toArray]; try simp only [List.set_cons_zero, List.set_cons_succ]
          refine wpAnyH_takesJ (i := 9) (v := (.bool false)) (some 73) rfl rfl (by kernel_rfl) (by kernel_rfl) (by kernel_rfl) (fun _ _ _ h => h) (Or.inl ⟨by rfl, (by intro W9 hSw; (try dsimp only at hSw); go_simp; first | done | with_reducible rfl)⟩) (by assumption) ?_
          simp only [Act.put, List.setIfInBounds_toArray]; try simp only [List.set_cons_zero, List.set_cons_succ]
          refine wpAnyH_takesJ (i := 10) (v := (.pointer (some ⟨w.heap.size, 2, none⟩))) (some 74) rfl rfl (by kernel_rfl) (by kernel_rfl) (by kernel_rfl) (fun _ _ _ h => h) (Or.inl ⟨by rfl, (by intro W9 hSw; (try dsimp only at hSw); go_simp; first | done | with_reducible rfl)⟩) (by assumption) ?_
          simp only [Act.put, List.setIfInBounds_toArray]; try simp only [List.set_cons_zero, List.set_cons_succ]
          refine wpAnyH_takesJ (i := 11) (v := (.slice (some ⟨b1, o1, none⟩) nr cr)) (some 75) rfl rfl (by kernel_rfl) (by kernel_rfl) (by kernel_rfl) (fun _ _ _ h => h) (Or.inl ⟨by rfl, (by intro W9 hSw; (try dsimp only at hSw); go_simp; first | done | with_reducible rfl)⟩) (by assumption) ?_
          simp only [Act.put, List.setIfInBounds_toArray]; try simp only [List.set_cons_zero, List.set_cons_succ]
          refine wpAnyH_takesJ (i := 12) (v := (.int .i64 (k : Nat))) (some 76) rfl rfl (by kernel_rfl) (by kernel_rfl) (by kernel_rfl) (fun _ _ _ h => h) (Or.inl ⟨by rfl, (by intro W9 hSw; (try dsimp only at hSw); go_simp; first | done | with_reducible rfl)⟩) (by assumption) ?_
          simp only [Act.put, List.setIfInBounds_toArray]; try simp only [List.set_cons_zero, List.set_cons_succ]
          refine wpAnyH_takesJ (i := 13) (v := (.pointer (some ⟨b1, o1 + k * 2, none⟩))) (some 77) rfl rfl (by kernel_rfl) (by kernel_rfl) (by kernel_rfl) (fun _ _ _ h => h) (Or.inl ⟨by rfl, (by intro W9 hSw; (try dsimp only at hSw); go_simp; first | done | with_reducible rfl)⟩) (by assumption) ?_
          simp only [Act.put, List.setIfInBounds_toArray]; try simp only [List.set_cons_zero, List.set_cons_succ]
          refine wpAnyH_takesJ (i := 14) (v := (.agg #[.int .i64 x.1, .slice A n c])) (some 78) rfl rfl (by kernel_rfl) (by kernel_rfl) (by kernel_rfl) (fun _ _ _ h => h) (Or.inl ⟨by rfl, (by intro W9 hSw; (try dsimp only at hSw); go_simp; first | done | with_reducible rfl)⟩) (by assumption) ?_
          simp only [Act.put, List.setIfInBounds_toArray]; try simp only [List.set_cons_zero, List.set_cons_succ]
          refine wpAnyH_ready (rs := [15]) (by kernel_rfl) (by simp) ?_
          refine AllReadyH.cons rfl (fun K hK => ?_) AllReadyH.nil
          go_simp
          go_at_call 25
          refine (AL.out _ (by exact R7.out)).mono ?_
          rintro e w8 ⟨A8, n8, c8, rfl, hr8, hb8⟩
          obtain rfl : na = n8 := HNA.out.trans hr8.len
          have B8 := Lib.hid (held_trans B7.out hb8)
          have hHeld8 := (show (w8.cell? ⟨w.heap.size, 0, none⟩ = some (.slice A0 nt ct) ∧ w8.cell? ⟨w.heap.size, 1, none⟩ = some (.int .i64 r.size) ∧ w8.cell? ⟨w.heap.size, 2, none⟩ = some (.slice (some ⟨b1, o1, none⟩) nr cr) ∧ w8.cell? ⟨w.heap.size, 3, none⟩ = some (.slice S ns cs) ∧ w8.cell? ⟨w.heap.size, 4, none⟩ = some (.int .u64 (r.on : Nat))) ∧ w8.cell? ⟨b1, o1 + k * 2, none⟩ = some (.int .i64 x.1) ∧ w8.cell? ⟨b1, o1 + k * 2 + 1, none⟩ = some (.slice A n c) from ⟨⟨keepcell hb8 hHeld7.1.1, keepcell hb8 hHeld7.1.2.1, keepcell hb8 hHeld7.1.2.2.1, keepcell hb8 hHeld7.1.2.2.2.1, keepcell hb8 hHeld7.1.2.2.2.2⟩, keepcell hb8 hHeld7.2.1, keepcell hb8 hHeld7.2.2⟩)
          refine hK.out _ _ hHeld8 (fun hHeld => ?_)
          clear hK K
          try dsimp only
          refine wpAnyH_takesJ (i := 16) (v := (.int .i64 (na : Nat))) (some 80) rfl rfl (by kernel_rfl) (by kernel_rfl) (by kernel_rfl) (fun _ _ _ h => h) (Or.inl ⟨by rfl, (by intro W9 hSw; (try dsimp only at hSw); go_simp; first | done | with_reducible rfl)⟩) (by assumption) ?_
          simp only [Act.put, List.setIfInBounds_toArray]; try simp only [List.set_cons_zero, List.set_cons_succ]
          refine wpAnyH_takesJ (i := 17) (v := (.bool false)) (some 81) rfl rfl (by kernel_rfl) (by kernel_rfl) (by kernel_rfl) (fun _ _ _ h => h) (Or.inl ⟨by rfl, (by intro W9 hSw; (try dsimp only at hSw); go_simp; first | done | with_reducible rfl)⟩) (by assumption) ?_
          simp only [Act.put, List.setIfInBounds_toArray]; try simp only [List.set_cons_zero, List.set_cons_succ]
          refine wpAnyH_takesJ (i := 18) (v := (.bool false)) (some 82) rfl rfl (by kernel_rfl) (by kernel_rfl) (by kernel_rfl) (fun _ _ _ h => h) (Or.inl ⟨by rfl, (by intro W9 hSw; (try dsimp only at hSw); go_simp; first | done | with_reducible rfl)⟩) (by assumption) ?_
          simp only [Act.put, List.setIfInBounds_toArray]; try simp only [List.set_cons_zero, List.set_cons_succ]
          refine wpAnyH_takesJ (i := 19) (v := undef) (some 83) rfl rfl (by kernel_rfl) (by kernel_rfl) (by kernel_rfl) (fun _ _ _ h => h) (Or.inr ⟨by rfl, rfl⟩) (by assumption) ?_
          simp only [Act.put, List.setIfInBounds_toArray]; try simp only [List.set_cons_zero, List.set_cons_succ]
          refine wpAnyH_takesJ (i := 20) (v := undef) (some 84) rfl rfl (by kernel_rfl) (by kernel_rfl) (by kernel_rfl) (fun _ _ _ h => h) (Or.inr ⟨by rfl, rfl⟩) (by assumption) ?_
          simp only [Act.put, List.setIfInBounds_toArray]; try simp only [List.set_cons_zero, List.set_cons_succ]
          refine wpAnyH_takesJ (i := 21) (v := undef) (some 85) rfl rfl (by kernel_rfl) (by kernel_rfl) (by kernel_rfl) (fun _ _ _ h => h) (Or.inr ⟨by rfl, rfl⟩) (by assumption) ?_
          simp only [Act.put, List.setIfInBounds_toArray]; try simp only [List.set_cons_zero, List.set_cons_succ]
          refine wpAnyH_takesJ (i := 22) (v := undef) (some 86) rfl rfl (by kernel_rfl) (by kernel_rfl) (by kernel_rfl) (fun _ _ _ h => h) (Or.inr ⟨by rfl, rfl⟩) (by assumption) ?_
          simp only [Act.put, List.setIfInBounds_toArray]; try simp only [List.set_cons_zero, List.set_cons_succ]
          refine wpAnyH_takesJ (i := 23) (v := (.bool false)) (some 87) rfl rfl (by kernel_rfl) (by kernel_rfl) (by kernel_rfl) (fun _ _ _ h => h) (Or.inl ⟨by rfl, (by intro W9 hSw; (try dsimp only at hSw); go_simp; first | done | with_reducible rfl)⟩) (by assumption) ?_
          simp only [Act.put, List.setIfInBounds_toArray]; try simp only [List.set_cons_zero, List.set_cons_succ]
          refine wpAnyH_takesJ (i := 24) (v := (.bool false)) (some 88) rfl rfl (by kernel_rfl) (by kernel_rfl) (by kernel_rfl) (fun _ _ _ h => h) (Or.inl ⟨by rfl, (by intro W9 hSw; (try dsimp only at hSw); go_simp; first | done | with_reducible rfl)⟩) (by assumption) ?_
          simp only [Act.put, List.setIfInBounds_toArray]; try simp only [List.set_cons_zero, List.set_cons_succ]
          refine wpAnyH_done (by kernel_rfl) ?_ _
          have hnil := List.length_eq_zero_iff.1 (HNA.out.symm.trans ha)
          have HG2 := Lib.hid (show ∀ j, j < k + 1 → ∀ y, r.rings[j]? = some y → GoodR r j y from fun j hj y hy => by
            by_cases e : j = k
            · subst e
              rw [HX.out] at hy
              injection hy with hy
              subst hy
              exact ⟨HMB.out.symm, (.inl hnil)⟩
            · exact HG.out j (by omega) y hy)
          have HB2 := Lib.hid (held_trans HB.out ((((Below.refl _ _).drew).trans (hb7.mono (by simp))).trans (hb8.mono hb7.size)))
          clear hb7 hb8 hHeld hHeld7 hHeld8 d0 d1 d2 d3 d4 c0 c1
          go_wp2_with fail
          go_roundw
          case rel => exact ⟨k + 1, by omega, by go_num, HG2, HB2⟩
          case measure => simp [intOf]; omega
        · have a1 : decide (0 < (na : Int)) = true := decide_eq_true (by omega)
          have a2 : decide (0 < na) = true := decide_eq_true (by omega)
          cases ob with
          | false =>
            obtain rfl := t_no HT (fun hM => by
              rcases (hM.ring k x HX.out).2 with h | h
              · have := HNA.out
                rw [h] at this
                exact ha this
              · rw [← HOB.out] at h
                cases h)
            refine wp_region_held_drew (S := fun w' => (w'.cell? ⟨w.heap.size, 0, none⟩ = some (.slice A0 nt ct) ∧ w'.cell? ⟨w.heap.size, 1, none⟩ = some (.int .i64 r.size) ∧ w'.cell? ⟨w.heap.size, 2, none⟩ = some (.slice (some ⟨b1, o1, none⟩) nr cr) ∧ w'.cell? ⟨w.heap.size, 3, none⟩ = some (.slice S ns cs) ∧ w'.cell? ⟨w.heap.size, 4, none⟩ = some (.int .u64 (r.on : Nat))) ∧ w'.cell? ⟨b1, o1 + k * 2, none⟩ = some (.int .i64 x.1) ∧ w'.cell? ⟨b1, o1 + k * 2 + 1, none⟩ = some (.slice A n c)) (by kernel_rfl) ⟨⟨d0, d1, d2, d3, d4⟩, c0, c1⟩ (fun hHeld => ?_)
            refine wpAnyH_takesJ (i := 0) (v := (.pointer (some ⟨w.heap.size, 2, none⟩))) (some 64) rfl rfl (by kernel_rfl) (by kernel_rfl) (by kernel_rfl) (fun _ _ _ h => h) (Or.inl ⟨by rfl, (by intro W9 hSw; (try dsimp only at hSw); go_simp; first | done | with_reducible rfl)⟩) (by assumption) ?_
            simp only [Act.put, List.setIfInBounds_toArray]; try simp only [List.set_cons_zero, List.set_cons_succ]
            refine wpAnyH_takesJ (i := 1) (v := (.slice (some ⟨b1, o1, none⟩) nr cr)) (some 65) rfl rfl (by kernel_rfl) (by kernel_rfl) (by kernel_rfl) (fun _ _ _ h => h) (Or.inl ⟨by rfl, (by intro W9 hSw; (try dsimp only at hSw); go_simp; first | done | with_reducible rfl)⟩) (by assumption) ?_
            simp only [Act.put, List.setIfInBounds_toArray]; try simp only [List.set_cons_zero, List.set_cons_succ]
            refine wpAnyH_takesJ (i := 2) (v := (.int .i64 (k : Nat))) (some 66) rfl rfl (by kernel_rfl) (by kernel_rfl) (by kernel_rfl) (fun _ _ _ h => h) (Or.inl ⟨by rfl, (by intro W9 hSw; (try dsimp only at hSw); go_simp; first | done | with_reducible rfl)⟩) (by assumption) ?_
            simp only [Act.put, List.setIfInBounds_toArray]; try simp only [List.set_cons_zero, List.set_cons_succ]
            refine wpAnyH_takesJ (i := 3) (v := (.pointer (some ⟨b1, o1 + k * 2, none⟩))) (some 67) rfl rfl (by kernel_rfl) (by kernel_rfl) (by kernel_rfl) (fun _ _ _ h => h) (Or.inl ⟨by rfl, (by intro W9 hSw; (try dsimp only at hSw); go_simp; first | done | with_reducible rfl)⟩) (by assumption) ?_
            simp only [Act.put, List.setIfInBounds_toArray]; try simp only [List.set_cons_zero, List.set_cons_succ]
            refine wpAnyH_takesJ (i := 4) (v := (.agg #[.int .i64 x.1, .slice A n c])) (some 68) rfl rfl (by kernel_rfl) (by kernel_rfl) (by kernel_rfl) (fun _ _ _ h => h) (Or.inl ⟨by rfl, (by intro W9 hSw; (try dsimp only at hSw); go_simp; first | done | with_reducible rfl)⟩) (by assumption) ?_
            simp only [Act.put, List.setIfInBounds_toArray]; try simp only [List.set_cons_zero, List.set_cons_succ]
            refine wpAnyH_takesJ (i := 5) (v := (.pointer (some ⟨w.heap.size, 1, none⟩))) (some 69) rfl rfl (by kernel_rfl) (by kernel_rfl) (by kernel_rfl) (fun _ _ _ h => h) (Or.inl ⟨by rfl, (by intro W9 hSw; (try dsimp only at hSw); go_simp; first | done | with_reducible rfl)⟩) (by assumption) ?_
            simp only [Act.put, List.setIfInBounds_toArray]; try simp only [List.set_cons_zero, List.set_cons_succ]
            refine wpAnyH_takesJ (i := 6) (v := (.int .i64 r.size)) (some 70) rfl rfl (by kernel_rfl) (by kernel_rfl) (by kernel_rfl) (fun _ _ _ h => h) (Or.inl ⟨by rfl, (by intro W9 hSw; (try dsimp only at hSw); go_simp; first | done | with_reducible rfl)⟩) (by assumption) ?_
            simp only [Act.put, List.setIfInBounds_toArray]; try simp only [List.set_cons_zero, List.set_cons_succ]
            refine wpAnyH_ready (rs := [7]) (by kernel_rfl) (by simp) ?_
            refine AllReadyH.cons rfl (fun K hK => ?_) AllReadyH.nil
            go_simp
            go_at_call 24
            refine (MY.out _ (by exact HR.out.drew)).mono ?_
            rintro e w7 ⟨rfl, hb7⟩
            have B7 := Lib.hid (held_trans B6.out.drew hb7)
            have Y7 := X6.out.drew.step hb7
            have R7 := Lib.hid (HR.out.drew.below hb7)
            have hHeld7 := (show (w7.cell? ⟨w.heap.size, 0, none⟩ = some (.slice A0 nt ct) ∧ w7.cell? ⟨w.heap.size, 1, none⟩ = some (.int .i64 r.size) ∧ w7.cell? ⟨w.heap.size, 2, none⟩ = some (.slice (some ⟨b1, o1, none⟩) nr cr) ∧ w7.cell? ⟨w.heap.size, 3, none⟩ = some (.slice S ns cs) ∧ w7.cell? ⟨w.heap.size, 4, none⟩ = some (.int .u64 (r.on : Nat))) ∧ w7.cell? ⟨b1, o1 + k * 2, none⟩ = some (.int .i64 x.1) ∧ w7.cell? ⟨b1, o1 + k * 2 + 1, none⟩ = some (.slice A n c) from ⟨⟨Y7.c0, Y7.c1, Y7.c2, Y7.c3, Y7.c4⟩, keepcell hb7 c0, keepcell hb7 c1⟩)
            refine hK.out _ _ hHeld7 (fun hHeld => ?_)
            clear hK K
            try dsimp only
            refine wpAnyH_takesJ (i := 8) (v := (.bool false)) (some 72) rfl rfl (by kernel_rfl) (by kernel_rfl) (by kernel_rfl) (fun _ _ _ h => h) (Or.inl ⟨by rfl, (by intro W9 hSw; (try dsimp only at hSw); go_simp; first | done | with_reducible rfl)⟩) (by assumption) ?_
            simp only [Act.put, List.setIfInBounds_toArray]; try simp only [List.set_cons_zero, List.set_cons_succ]
            refine wpAnyH_takesJ (i := 9) (v := (.bool false)) (some 73) rfl rfl (by kernel_rfl) (by kernel_rfl) (by kernel_rfl) (fun _ _ _ h => h) (Or.inl ⟨by rfl, (by intro W9 hSw; (try dsimp only at hSw); go_simp; first | done | with_reducible rfl)⟩) (by assumption) ?_
            simp only [Act.put, List.setIfInBounds_toArray]; try simp only [List.set_cons_zero, List.set_cons_succ]
            refine wpAnyH_takesJ (i := 10) (v := (.pointer (some ⟨w.heap.size, 2, none⟩))) (some 74) rfl rfl (by kernel_rfl) (by kernel_rfl) (by kernel_rfl) (fun _ _ _ h => h) (Or.inl ⟨by rfl, (by intro W9 hSw; (try dsimp only at hSw); go_simp; first | done | with_reducible rfl)⟩) (by assumption) ?_
            simp only [Act.put, List.setIfInBounds_toArray]; try simp only [List.set_cons_zero, List.set_cons_succ]
            refine wpAnyH_takesJ (i := 11) (v := (.slice (some ⟨b1, o1, none⟩) nr cr)) (some 75) rfl rfl (by kernel_rfl) (by kernel_rfl) (by kernel_rfl) (fun _ _ _ h => h) (Or.inl ⟨by rfl, (by intro W9 hSw; (try dsimp only at hSw); go_simp; first | done | with_reducible rfl)⟩) (by assumption) ?_
            simp only [Act.put, List.setIfInBounds_toArray]; try simp only [List.set_cons_zero, List.set_cons_succ]
            refine wpAnyH_takesJ (i := 12) (v := (.int .i64 (k : Nat))) (some 76) rfl rfl (by kernel_rfl) (by kernel_rfl) (by kernel_rfl) (fun _ _ _ h => h) (Or.inl ⟨by rfl, (by intro W9 hSw; (try dsimp only at hSw); go_simp; first | done | with_reducible rfl)⟩) (by assumption) ?_
            simp only [Act.put, List.setIfInBounds_toArray]; try simp only [List.set_cons_zero, List.set_cons_succ]
            refine wpAnyH_takesJ (i := 13) (v := (.pointer (some ⟨b1, o1 + k * 2, none⟩))) (some 77) rfl rfl (by kernel_rfl) (by kernel_rfl) (by kernel_rfl) (fun _ _ _ h => h) (Or.inl ⟨by rfl, (by intro W9 hSw; (try dsimp only at hSw); go_simp; first | done | with_reducible rfl)⟩) (by assumption) ?_
            simp only [Act.put, List.setIfInBounds_toArray]; try simp only [List.set_cons_zero, List.set_cons_succ]
            refine wpAnyH_takesJ (i := 14) (v := (.agg #[.int .i64 x.1, .slice A n c])) (some 78) rfl rfl (by kernel_rfl) (by kernel_rfl) (by kernel_rfl) (fun _ _ _ h => h) (Or.inl ⟨by rfl, (by intro W9 hSw; (try dsimp only at hSw); go_simp; first | done | with_reducible rfl)⟩) (by assumption) ?_
            simp only [Act.put, List.setIfInBounds_toArray]; try simp only [List.set_cons_zero, List.set_cons_succ]
            refine wpAnyH_ready (rs := [15]) (by kernel_rfl) (by simp) ?_
            refine AllReadyH.cons rfl (fun K hK => ?_) AllReadyH.nil
            go_simp
            go_at_call 25
            refine (AL.out _ (by exact R7.out)).mono ?_
            rintro e w8 ⟨A8, n8, c8, rfl, hr8, hb8⟩
            obtain rfl : na = n8 := HNA.out.trans hr8.len
            have B8 := Lib.hid (held_trans B7.out hb8)
            have hHeld8 := (show (w8.cell? ⟨w.heap.size, 0, none⟩ = some (.slice A0 nt ct) ∧ w8.cell? ⟨w.heap.size, 1, none⟩ = some (.int .i64 r.size) ∧ w8.cell? ⟨w.heap.size, 2, none⟩ = some (.slice (some ⟨b1, o1, none⟩) nr cr) ∧ w8.cell? ⟨w.heap.size, 3, none⟩ = some (.slice S ns cs) ∧ w8.cell? ⟨w.heap.size, 4, none⟩ = some (.int .u64 (r.on : Nat))) ∧ w8.cell? ⟨b1, o1 + k * 2, none⟩ = some (.int .i64 x.1) ∧ w8.cell? ⟨b1, o1 + k * 2 + 1, none⟩ = some (.slice A n c) from ⟨⟨keepcell hb8 hHeld7.1.1, keepcell hb8 hHeld7.1.2.1, keepcell hb8 hHeld7.1.2.2.1, keepcell hb8 hHeld7.1.2.2.2.1, keepcell hb8 hHeld7.1.2.2.2.2⟩, keepcell hb8 hHeld7.2.1, keepcell hb8 hHeld7.2.2⟩)
            refine hK.out _ _ hHeld8 (fun hHeld => ?_)
            clear hK K
            try dsimp only
            refine wpAnyH_takesJ (i := 16) (v := (.int .i64 (na : Nat))) (some 80) rfl rfl (by kernel_rfl) (by kernel_rfl) (by kernel_rfl) (fun _ _ _ h => h) (Or.inl ⟨by rfl, (by intro W9 hSw; (try dsimp only at hSw); go_simp; first | done | with_reducible rfl)⟩) (by assumption) ?_
            simp only [Act.put, List.setIfInBounds_toArray]; try simp only [List.set_cons_zero, List.set_cons_succ]
            refine wpAnyH_takesJ (i := 17) (v := (.bool true)) (some 81) rfl rfl (by kernel_rfl) (by kernel_rfl) (by kernel_rfl) (fun _ _ _ h => h) (Or.inl ⟨by rfl, (by intro W9 hSw; (try dsimp only at hSw); go_simp; first | done | with_reducible rfl)⟩) (by assumption) ?_
            simp only [Act.put, List.setIfInBounds_toArray]; try simp only [List.set_cons_zero, List.set_cons_succ]
            refine wpAnyH_takesJ (i := 18) (v := (.bool true)) (some 82) rfl rfl (by kernel_rfl) (by kernel_rfl) (by kernel_rfl) (fun _ _ _ h => h) (Or.inl ⟨by rfl, (by intro W9 hSw; (try dsimp only at hSw); go_simp; first | done | with_reducible rfl)⟩) (by assumption) ?_
            simp only [Act.put, List.setIfInBounds_toArray]; try simp only [List.set_cons_zero, List.set_cons_succ]
            refine wpAnyH_takesJ (i := 19) (v := (.agg #[.slice A0 nt ct, .int .i64 r.size, .slice (some ⟨b1, o1, none⟩) nr cr, .slice S ns cs, .int .u64 (r.on : Nat)])) (some 83) rfl rfl (by kernel_rfl) (by kernel_rfl) (by kernel_rfl) (fun _ _ _ h => h) (Or.inl ⟨by rfl, (by intro W9 hSw; (try dsimp only at hSw); go_simp; first | done | with_reducible rfl)⟩) (by assumption) ?_
            simp only [Act.put, List.setIfInBounds_toArray]; try simp only [List.set_cons_zero, List.set_cons_succ]
            refine wpAnyH_takesJ (i := 20) (v := (.int .i64 (k : Nat))) (some 84) rfl rfl (by kernel_rfl) (by kernel_rfl) (by kernel_rfl) (fun _ _ _ h => h) (Or.inl ⟨by rfl, (by intro W9 hSw; (try dsimp only at hSw); go_simp; first | done | with_reducible rfl)⟩) (by assumption) ?_
            simp only [Act.put, List.setIfInBounds_toArray]; try simp only [List.set_cons_zero, List.set_cons_succ]
            refine wpAnyH_ready (rs := [21]) (by kernel_rfl) (by simp) ?_
            refine AllReadyH.cons rfl (fun K hK => ?_) AllReadyH.nil
            go_simp
            go_at_call 9
            refine (ON.out _).mono ?_
            rintro e w9 ⟨rfl, hb9'⟩
            have B9 := Lib.hid (held_trans B8.out hb9')
            have hb9 := held_trans hb8 hb9'
            refine hK.out _ _ (by exact ⟨⟨keepcell hb9' hHeld8.1.1, keepcell hb9' hHeld8.1.2.1, keepcell hb9' hHeld8.1.2.2.1, keepcell hb9' hHeld8.1.2.2.2.1, keepcell hb9' hHeld8.1.2.2.2.2⟩, keepcell hb9' hHeld8.2.1, keepcell hb9' hHeld8.2.2⟩) (fun hHeld => ?_)
            clear hK K
            try dsimp only
            refine wpAnyH_takesJ (i := 22) (v := (.bool true)) (some 86) rfl rfl (by kernel_rfl) (by kernel_rfl) (by kernel_rfl) (fun _ _ _ h => h) (Or.inl ⟨by rfl, (by intro W9 hSw; (try dsimp only at hSw); go_simp; first | done | with_reducible rfl)⟩) (by assumption) ?_
            simp only [Act.put, List.setIfInBounds_toArray]; try simp only [List.set_cons_zero, List.set_cons_succ]
            refine wpAnyH_takesJ (i := 23) (v := (.bool true)) (some 87) rfl rfl (by kernel_rfl) (by kernel_rfl) (by kernel_rfl) (fun _ _ _ h => h) (Or.inl ⟨by rfl, (by intro W9 hSw; (try dsimp only at hSw); go_simp; first | done | with_reducible rfl)⟩) (by assumption) ?_
            simp only [Act.put, List.setIfInBounds_toArray]; try simp only [List.set_cons_zero, List.set_cons_succ]
            refine wpAnyH_takesJ (i := 24) (v := (.bool true)) (some 88) rfl rfl (by kernel_rfl) (by kernel_rfl) (by kernel_rfl) (fun _ _ _ h => h) (Or.inl ⟨by rfl, (by intro W9 hSw; (try dsimp only at hSw); go_simp; first | done | with_reducible rfl)⟩) (by assumption) ?_
            simp only [Act.put, List.setIfInBounds_toArray]; try simp only [List.set_cons_zero, List.set_cons_succ]
            refine wpAnyH_done (by kernel_rfl) ?_ _
            clear HT
            go_wp2_with fail
            go_ret
            exact ⟨rfl, (B9.out)⟩
          | true =>
            refine wp_region_held_drew (S := fun w' => (w'.cell? ⟨w.heap.size, 0, none⟩ = some (.slice A0 nt ct) ∧ w'.cell? ⟨w.heap.size, 1, none⟩ = some (.int .i64 r.size) ∧ w'.cell? ⟨w.heap.size, 2, none⟩ = some (.slice (some ⟨b1, o1, none⟩) nr cr) ∧ w'.cell? ⟨w.heap.size, 3, none⟩ = some (.slice S ns cs) ∧ w'.cell? ⟨w.heap.size, 4, none⟩ = some (.int .u64 (r.on : Nat))) ∧ w'.cell? ⟨b1, o1 + k * 2, none⟩ = some (.int .i64 x.1) ∧ w'.cell? ⟨b1, o1 + k * 2 + 1, none⟩ = some (.slice A n c)) (by kernel_rfl) ⟨⟨d0, d1, d2, d3, d4⟩, c0, c1⟩ (fun hHeld => ?_)
            refine wpAnyH_takesJ (i := 0) (v := (.pointer (some ⟨w.heap.size, 2, none⟩))) (some 64) rfl rfl (by kernel_rfl) (by kernel_rfl) (by kernel_rfl) (fun _ _ _ h => h) (Or.inl ⟨by rfl, (by intro W9 hSw; (try dsimp only at hSw); go_simp; first | done | with_reducible rfl)⟩) (by assumption) ?_
            simp only [Act.put, List.setIfInBounds_toArray]; try simp only [List.set_cons_zero, List.set_cons_succ]
            refine wpAnyH_takesJ (i := 1) (v := (.slice (some ⟨b1, o1, none⟩) nr cr)) (some 65) rfl rfl (by kernel_rfl) (by kernel_rfl) (by kernel_rfl) (fun _ _ _ h => h) (Or.inl ⟨by rfl, (by intro W9 hSw; (try dsimp only at hSw); go_simp; first | done | with_reducible rfl)⟩) (by assumption) ?_
            simp only [Act.put, List.setIfInBounds_toArray]; try simp only [List.set_cons_zero, List.set_cons_succ]
            refine wpAnyH_takesJ (i := 2) (v := (.int .i64 (k : Nat))) (some 66) rfl rfl (by kernel_rfl) (by kernel_rfl) (by kernel_rfl) (fun _ _ _ h => h) (Or.inl ⟨by rfl, (by intro W9 hSw; (try dsimp only at hSw); go_simp; first | done | with_reducible rfl)⟩) (by assumption) ?_
            simp only [Act.put, List.setIfInBounds_toArray]; try simp only [List.set_cons_zero, List.set_cons_succ]
            refine wpAnyH_takesJ (i := 3) (v := (.pointer (some ⟨b1, o1 + k * 2, none⟩))) (some 67) rfl rfl (by kernel_rfl) (by kernel_rfl) (by kernel_rfl) (fun _ _ _ h => h) (Or.inl ⟨by rfl, (by intro W9 hSw; (try dsimp only at hSw); go_simp; first | done | with_reducible rfl)⟩) (by assumption) ?_
            simp only [Act.put, List.setIfInBounds_toArray]; try simp only [List.set_cons_zero, List.set_cons_succ]
            refine wpAnyH_takesJ (i := 4) (v := (.agg #[.int .i64 x.1, .slice A n c])) (some 68) rfl rfl (by kernel_rfl) (by kernel_rfl) (by kernel_rfl) (fun _ _ _ h => h) (Or.inl ⟨by rfl, (by intro W9 hSw; (try dsimp only at hSw); go_simp; first | done | with_reducible rfl)⟩) (by assumption) ?_
            simp only [Act.put, List.setIfInBounds_toArray]; try simp only [List.set_cons_zero, List.set_cons_succ]
            refine wpAnyH_takesJ (i := 5) (v := (.pointer (some ⟨w.heap.size, 1, none⟩))) (some 69) rfl rfl (by kernel_rfl) (by kernel_rfl) (by kernel_rfl) (fun _ _ _ h => h) (Or.inl ⟨by rfl, (by intro W9 hSw; (try dsimp only at hSw); go_simp; first | done | with_reducible rfl)⟩) (by assumption) ?_
            simp only [Act.put, List.setIfInBounds_toArray]; try simp only [List.set_cons_zero, List.set_cons_succ]
            refine wpAnyH_takesJ (i := 6) (v := (.int .i64 r.size)) (some 70) rfl rfl (by kernel_rfl) (by kernel_rfl) (by kernel_rfl) (fun _ _ _ h => h) (Or.inl ⟨by rfl, (by intro W9 hSw; (try dsimp only at hSw); go_simp; first | done | with_reducible rfl)⟩) (by assumption) ?_
            simp only [Act.put, List.setIfInBounds_toArray]; try simp only [List.set_cons_zero, List.set_cons_succ]
            refine wpAnyH_ready (rs := [7]) (by kernel_rfl) (by simp) ?_
            refine AllReadyH.cons rfl (fun K hK => ?_) AllReadyH.nil
            go_simp
            go_at_call 24
            refine (MY.out _ (by exact HR.out.drew)).mono ?_
            rintro e w7 ⟨rfl, hb7⟩
            have B7 := Lib.hid (held_trans B6.out.drew hb7)
            have Y7 := X6.out.drew.step hb7
            have R7 := Lib.hid (HR.out.drew.below hb7)
            have hHeld7 := (show (w7.cell? ⟨w.heap.size, 0, none⟩ = some (.slice A0 nt ct) ∧ w7.cell? ⟨w.heap.size, 1, none⟩ = some (.int .i64 r.size) ∧ w7.cell? ⟨w.heap.size, 2, none⟩ = some (.slice (some ⟨b1, o1, none⟩) nr cr) ∧ w7.cell? ⟨w.heap.size, 3, none⟩ = some (.slice S ns cs) ∧ w7.cell? ⟨w.heap.size, 4, none⟩ = some (.int .u64 (r.on : Nat))) ∧ w7.cell? ⟨b1, o1 + k * 2, none⟩ = some (.int .i64 x.1) ∧ w7.cell? ⟨b1, o1 + k * 2 + 1, none⟩ = some (.slice A n c) from ⟨⟨Y7.c0, Y7.c1, Y7.c2, Y7.c3, Y7.c4⟩, keepcell hb7 c0, keepcell hb7 c1⟩)
            refine hK.out _ _ hHeld7 (fun hHeld => ?_)
            clear hK K
            try dsimp only
            refine wpAnyH_takesJ (i := 8) (v := (.bool false)) (some 72) rfl rfl (by kernel_rfl) (by kernel_rfl) (by kernel_rfl) (fun _ _ _ h => h) (Or.inl ⟨by rfl, (by intro W9 hSw; (try dsimp only at hSw); go_simp; first | done | with_reducible rfl)⟩) (by assumption) ?_
            simp only [Act.put, List.setIfInBounds_toArray]; try simp only [List.set_cons_zero, List.set_cons_succ]
            refine wpAnyH_takesJ (i := 9) (v := (.bool false)) (some 73) rfl rfl (by kernel_rfl) (by kernel_rfl) (by kernel_rfl) (fun _ _ _ h => h) (Or.inl ⟨by rfl, (by intro W9 hSw; (try dsimp only at hSw); go_simp; first | done | with_reducible rfl)⟩) (by assumption) ?_
            simp only [Act.put, List.setIfInBounds_toArray]; try simp only [List.set_cons_zero, List.set_cons_succ]
            refine wpAnyH_takesJ (i := 10) (v := (.pointer (some ⟨w.heap.size, 2, none⟩))) (some 74) rfl rfl (by kernel_rfl) (by kernel_rfl) (by kernel_rfl) (fun _ _ _ h => h) (Or.inl ⟨by rfl, (by intro W9 hSw; (try dsimp only at hSw); go_simp; first | done | with_reducible rfl)⟩) (by assumption) ?_
            simp only [Act.put, List.setIfInBounds_toArray]; try simp only [List.set_cons_zero, List.set_cons_succ]
            refine wpAnyH_takesJ (i := 11) (v := (.slice (some ⟨b1, o1, none⟩) nr cr)) (some 75) rfl rfl (by kernel_rfl) (by kernel_rfl) (by kernel_rfl) (fun _ _ _ h => h) (Or.inl ⟨by rfl, (by intro W9 hSw; (try dsimp only at hSw); go_simp; first | done | with_reducible rfl)⟩) (by assumption) ?_
            simp only [Act.put, List.setIfInBounds_toArray]; try simp only [List.set_cons_zero, List.set_cons_succ]
            refine wpAnyH_takesJ (i := 12) (v := (.int .i64 (k : Nat))) (some 76) rfl rfl (by kernel_rfl) (by kernel_rfl) (by kernel_rfl) (fun _ _ _ h => h) (Or.inl ⟨by rfl, (by intro W9 hSw; (try dsimp only at hSw); go_simp; first | done | with_reducible rfl)⟩) (by assumption) ?_
            simp only [Act.put, List.setIfInBounds_toArray]; try simp only [List.set_cons_zero, List.set_cons_succ]
            refine wpAnyH_takesJ (i := 13) (v := (.pointer (some ⟨b1, o1 + k * 2, none⟩))) (some 77) rfl rfl (by kernel_rfl) (by kernel_rfl) (by kernel_rfl) (fun _ _ _ h => h) (Or.inl ⟨by rfl, (by intro W9 hSw; (try dsimp only at hSw); go_simp; first | done | with_reducible rfl)⟩) (by assumption) ?_
            simp only [Act.put, List.setIfInBounds_toArray]; try simp only [List.set_cons_zero, List.set_cons_succ]
            refine wpAnyH_takesJ (i := 14) (v := (.agg #[.int .i64 x.1, .slice A n c])) (some 78) rfl rfl (by kernel_rfl) (by kernel_rfl) (by kernel_rfl) (fun _ _ _ h => h) (Or.inl ⟨by rfl, (by intro W9 hSw; (try dsimp only at hSw); go_simp; first | done | with_reducible rfl)⟩) (by assumption) ?_
            simp only [Act.put, List.setIfInBounds_toArray]; try simp only [List.set_cons_zero, List.set_cons_succ]
            refine wpAnyH_ready (rs := [15]) (by kernel_rfl) (by simp) ?_
            refine AllReadyH.cons rfl (fun K hK => ?_) AllReadyH.nil
            go_simp
            go_at_call 25
            refine (AL.out _ (by exact R7.out)).mono ?_
            rintro e w8 ⟨A8, n8, c8, rfl, hr8, hb8⟩
            obtain rfl : na = n8 := HNA.out.trans hr8.len
            have B8 := Lib.hid (held_trans B7.out hb8)
            have hHeld8 := (show (w8.cell? ⟨w.heap.size, 0, none⟩ = some (.slice A0 nt ct) ∧ w8.cell? ⟨w.heap.size, 1, none⟩ = some (.int .i64 r.size) ∧ w8.cell? ⟨w.heap.size, 2, none⟩ = some (.slice (some ⟨b1, o1, none⟩) nr cr) ∧ w8.cell? ⟨w.heap.size, 3, none⟩ = some (.slice S ns cs) ∧ w8.cell? ⟨w.heap.size, 4, none⟩ = some (.int .u64 (r.on : Nat))) ∧ w8.cell? ⟨b1, o1 + k * 2, none⟩ = some (.int .i64 x.1) ∧ w8.cell? ⟨b1, o1 + k * 2 + 1, none⟩ = some (.slice A n c) from ⟨⟨keepcell hb8 hHeld7.1.1, keepcell hb8 hHeld7.1.2.1, keepcell hb8 hHeld7.1.2.2.1, keepcell hb8 hHeld7.1.2.2.2.1, keepcell hb8 hHeld7.1.2.2.2.2⟩, keepcell hb8 hHeld7.2.1, keepcell hb8 hHeld7.2.2⟩)
            refine hK.out _ _ hHeld8 (fun hHeld => ?_)
            clear hK K
            try dsimp only
            refine wpAnyH_takesJ (i := 16) (v := (.int .i64 (na : Nat))) (some 80) rfl rfl (by kernel_rfl) (by kernel_rfl) (by kernel_rfl) (fun _ _ _ h => h) (Or.inl ⟨by rfl, (by intro W9 hSw; (try dsimp only at hSw); go_simp; first | done | with_reducible rfl)⟩) (by assumption) ?_
            simp only [Act.put, List.setIfInBounds_toArray]; try simp only [List.set_cons_zero, List.set_cons_succ]
            refine wpAnyH_takesJ (i := 17) (v := (.bool true)) (some 81) rfl rfl (by kernel_rfl) (by kernel_rfl) (by kernel_rfl) (fun _ _ _ h => h) (Or.inl ⟨by rfl, (by intro W9 hSw; (try dsimp only at hSw); go_simp; first | done | with_reducible rfl)⟩) (by assumption) ?_
            simp only [Act.put, List.setIfInBounds_toArray]; try simp only [List.set_cons_zero, List.set_cons_succ]
            refine wpAnyH_takesJ (i := 18) (v := (.bool true)) (some 82) rfl rfl (by kernel_rfl) (by kernel_rfl) (by kernel_rfl) (fun _ _ _ h => h) (Or.inl ⟨by rfl, (by intro W9 hSw; (try dsimp only at hSw); go_simp; first | done | with_reducible rfl)⟩) (by assumption) ?_
            simp only [Act.put, List.setIfInBounds_toArray]; try simp only [List.set_cons_zero, List.set_cons_succ]
            refine wpAnyH_takesJ (i := 19) (v := (.agg #[.slice A0 nt ct, .int .i64 r.size, .slice (some ⟨b1, o1, none⟩) nr cr, .slice S ns cs, .int .u64 (r.on : Nat)])) (some 83) rfl rfl (by kernel_rfl) (by kernel_rfl) (by kernel_rfl) (fun _ _ _ h => h) (Or.inl ⟨by rfl, (by intro W9 hSw; (try dsimp only at hSw); go_simp; first | done | with_reducible rfl)⟩) (by assumption) ?_
            simp only [Act.put, List.setIfInBounds_toArray]; try simp only [List.set_cons_zero, List.set_cons_succ]
            refine wpAnyH_takesJ (i := 20) (v := (.int .i64 (k : Nat))) (some 84) rfl rfl (by kernel_rfl) (by kernel_rfl) (by kernel_rfl) (fun _ _ _ h => h) (Or.inl ⟨by rfl, (by intro W9 hSw; (try dsimp only at hSw); go_simp; first | done | with_reducible rfl)⟩) (by assumption) ?_
            simp only [Act.put, List.setIfInBounds_toArray]; try simp only [List.set_cons_zero, List.set_cons_succ]
            refine wpAnyH_ready (rs := [21]) (by kernel_rfl) (by simp) ?_
            refine AllReadyH.cons rfl (fun K hK => ?_) AllReadyH.nil
            go_simp
            go_at_call 9
            refine (ON.out _).mono ?_
            rintro e w9 ⟨rfl, hb9'⟩
            have B9 := Lib.hid (held_trans B8.out hb9')
            have hb9 := held_trans hb8 hb9'
            refine hK.out _ _ (by exact ⟨⟨keepcell hb9' hHeld8.1.1, keepcell hb9' hHeld8.1.2.1, keepcell hb9' hHeld8.1.2.2.1, keepcell hb9' hHeld8.1.2.2.2.1, keepcell hb9' hHeld8.1.2.2.2.2⟩, keepcell hb9' hHeld8.2.1, keepcell hb9' hHeld8.2.2⟩) (fun hHeld => ?_)
            clear hK K
            try dsimp only
            refine wpAnyH_takesJ (i := 22) (v := (.bool false)) (some 86) rfl rfl (by kernel_rfl) (by kernel_rfl) (by kernel_rfl) (fun _ _ _ h => h) (Or.inl ⟨by rfl, (by intro W9 hSw; (try dsimp only at hSw); go_simp; first | done | with_reducible rfl)⟩) (by assumption) ?_
            simp only [Act.put, List.setIfInBounds_toArray]; try simp only [List.set_cons_zero, List.set_cons_succ]
            refine wpAnyH_takesJ (i := 23) (v := (.bool false)) (some 87) rfl rfl (by kernel_rfl) (by kernel_rfl) (by kernel_rfl) (fun _ _ _ h => h) (Or.inl ⟨by rfl, (by intro W9 hSw; (try dsimp only at hSw); go_simp; first | done | with_reducible rfl)⟩) (by assumption) ?_
            simp only [Act.put, List.setIfInBounds_toArray]; try simp only [List.set_cons_zero, List.set_cons_succ]
            refine wpAnyH_takesJ (i := 24) (v := (.bool false)) (some 88) rfl rfl (by kernel_rfl) (by kernel_rfl) (by kernel_rfl) (fun _ _ _ h => h) (Or.inl ⟨by rfl, (by intro W9 hSw; (try dsimp only at hSw); go_simp; first | done | with_reducible rfl)⟩) (by assumption) ?_
            simp only [Act.put, List.setIfInBounds_toArray]; try simp only [List.set_cons_zero, List.set_cons_succ]
            refine wpAnyH_done (by kernel_rfl) ?_ _
            have hb8 := hb9
            have HG2 := Lib.hid (show ∀ j, j < k + 1 → ∀ y, r.rings[j]? = some y → GoodR r j y from fun j hj y hy => by
              by_cases e : j = k
              · subst e
                rw [HX.out] at hy
                injection hy with hy
                subst hy
                exact ⟨HMB.out.symm, (.inr HOB.out.symm)⟩
              · exact HG.out j (by omega) y hy)
            have HB2 := Lib.hid (held_trans HB.out ((((Below.refl _ _).drew).trans (hb7.mono (by simp))).trans (hb8.mono hb7.size)))
            clear hb7 hb8 hHeld hHeld7 hHeld8 d0 d1 d2 d3 d4 c0 c1
            go_wp2_with fail
            go_roundw
            case rel => exact ⟨k + 1, by omega, by go_num, HG2, HB2⟩
            case measure => simp [intOf]; omega
    · obtain rfl : k = nr := by omega
      have HGA := Lib.hid (show ∀ (p : Nat) y, r.rings[p]? = some y → GoodR r p y from fun p y hy => HG.out p (by rw [← hr1]; exact (List.getElem?_eq_some_iff.1 hy).1) y hy)
      have hAL := jrefAll_any ⟨A0, nt, ct, R, k, cr, S, ns, cs⟩ r wr HM.out HL.out
      unfold jv at hAL
      simp only at hAL
      have AL := Lib.hid hAL
      have hlle := all_le HL.out
      have HW : Hid (∀ P : Prop, (Rp.Once (Jp.all r) → P) → (Jp.May r → P)) := Lib.hid (fun P hP hM => hP hM.once)
      have HY := Lib.hid (show Rp.Once (Jp.all r) → Jp.May r from fun ho => ⟨HH.out.tree, HH.out.low, HH.out.high, HH.out.rings, HH.out.rows, HH.out.some, HH.out.few, fun p y hy => HGA.out p y hy, ho⟩)
      obtain ⟨l, hl⟩ : ∃ l, l = Jp.all r := ⟨_, rfl⟩
      rw [← hl] at AL hlle HW HY
      clear hAL HG HM HH HGA hl H HL X5 X6 HB B4 hr1 hs1 hr4 hs4 htl s1 s2
      go_wp2_with fail
      refine AL.out.mono ?_
      rintro e w10 ⟨A1, n1, q1, rfl, hr1, _, hb1⟩
      have hl1 := hr1.len
      have hq1 := hr1.cap
      have hq2 := hr1.most
      have B10 := Lib.hid (held_trans B6.out hb1)
      have R1 := Lib.hid hr1
      clear hr1 hb1 AL d0 d1 d2 d3 d4 B6
      go_wp2_with fail
      go_loopw [7] (fun i wr => ∃ k : Nat, k ≤ n1 ∧ i = .int .i64 k ∧ Hid (Rp.Once (l.take k)) ∧ Hid (Below w10.heap.size w10 wr)) (fun i _ => n1 - (intOf i).toNat)
      case atStart => exact ⟨0, Nat.zero_le _, rfl, Lib.hid ⟨fun x hx => by simp at hx, by simp⟩, Lib.hid (Below.refl _ _)⟩
      case round =>
        obtain ⟨k, hk, rfl, HO, HB1⟩ := hrel
        have HB := Lib.hid (held_trans B10.out HB1.out)
        by_cases hlt : k < n1
        · obtain ⟨z, hzk⟩ : ∃ z, l[k]? = some z := ⟨_, List.getElem?_eq_getElem (by omega)⟩
          obtain ⟨b, off, rfl, hbk, hcs⟩ := R1.out.cells (by omega)
          have hck := keepcell HB1.out (hcs k z hzk)
          have HZ := Lib.hid hzk
          have k0 : (0 : Int) ≤ (k : Int) := by omega
          have k1 : (k : Int) < (n1 : Int) := by omega
          have k2 : (k : Int) ≤ (q1 : Int) := by omega
          have G := Lib.hid (fun q => in_any (some ⟨b, off, none⟩) k q1 (l.take k) z (wr.drewN q) (wr.drewN q).heap.size (Lib.hid (by rw [List.length_take]; omega)) (by omega) (((R1.out.below HB1.out).take k hk).row.below (below_drewN (Below.refl _ _) q)))
          clear hcs hzk
          by_cases hz1 : z < 1
          · have t1 : decide (z < 1) = true := by simpa using hz1
            obtain rfl := t_no HT (HW.out _ (fun ho => by
              have := ((once_snoc HZ.out).1 (once_take ho)).2.1
              omega))
            go_wp2_with fail
            go_quiet (fail)
            clear HT
            go_wp2_with fail
            go_ret
            exact ⟨rfl, (below_drewN HB.out _)⟩
          · have t1 : decide (z < 1) = false := by simpa using hz1
            cases hh : Tp.has (l.take k) z
            · rw [hh] at G
              have HN := Lib.hid ((once_snoc HZ.out).2 ⟨HO.out, by omega, hh⟩)
              clear hh
              go_wp2_with fail
              go_quiet ((go_at_call 27; (with_reducible exact Calls.quiet_of_same (G.out _))))
              go_wp2_with fail
              go_roundw
              case rel => exact ⟨k + 1, by omega, by go_num, HN, Lib.hid (below_drewN HB1.out _)⟩
              case measure => simp [intOf]; omega
            · rw [hh] at G
              obtain rfl := t_no HT (HW.out _ (fun ho => by
                have := ((once_snoc HZ.out).1 (once_take ho)).2.2
                rw [hh] at this
                cases this))
              clear hh
              go_wp2_with fail
              go_quiet ((go_at_call 27; (with_reducible exact Calls.quiet_of_same (G.out _))))
              clear HT
              go_wp2_with fail
              go_ret
              exact ⟨rfl, (below_drewN HB.out _)⟩
        · obtain rfl : k = n1 := by omega
          have HO2 := HO.out
          rw [List.take_of_length_le (by omega)] at HO2
          obtain rfl : T = true := HT.out.2 (HY.out HO2)
          clear HT
          go_wp2_with fail
          go_ret
          exact ⟨rfl, (HB.out)⟩
end Go.Proofs.YtcoccegmkcdeiaaDoor

