/- SemBack: a semaphore that may be, acquired and then released, is as it was, if nobody waited; released and then acquired, too, if it isn't full: the call answers true and changes nothing that was there; for every input. -/
import Derived.Test.YtlcgadcbeoljbaaSCel
import Derived.Test.YtlcgadcbeoljbaaSMay
import Derived.Test.YtlcgadcbeoljbaaSFrame
namespace Go.Proofs.Ytlcgadcbeoljbaa.semBack
open Go.ChangeShapes Go.WideShapes Go.ChangeAt Go.RowKit
set_option linter.unusedVariables false

theorem acq_in {x ya g : Int} {zs la : List Int} {ba : Bool} (e : Sp.acq (x, zs) g = ((ya, la), ba)) (h0 : 0 ≤ x) (h1 : x ≤ 1000000) : 0 ≤ ya ∧ ya ≤ 1000000 ∧ la.length ≤ zs.length + 1 := by
  unfold Sp.acq at e
  split at e
  · injection e with e _
    injection e with e1 e2
    subst e1 e2
    simp only at *
    omega
  · injection e with e _
    injection e with e1 e2
    subst e1 e2
    simp at *
    omega
theorem rel_in {x ya y : Int} {zs la : List Int} (e : Sp.rel (x, zs) = ((ya, la), y)) (h0 : 0 ≤ x) (h1 : x ≤ 1000000) : 0 ≤ ya ∧ ya ≤ 1000000 ∧ la.length ≤ zs.length := by
  unfold Sp.rel at e
  cases zs with
  | nil =>
    injection e with e _
    injection e with e1 e2
    subst e1 e2
    simp only at *
    split <;> simp <;> omega
  | cons z t =>
    injection e with e _
    injection e with e1 e2
    subst e1 e2
    simp at *
    omega
/-- Nobody waits: there and back. -/
theorem alone_in {x ya yb yc yd g y i : Int} {la lb lc ld : List Int} {ba bd : Bool} (h0 : 0 ≤ x) (h1 : x ≤ 1000000) (hg : 0 < g) (ea : Sp.acq (x, []) g = ((ya, la), ba)) (eb : Sp.rel (ya, la) = ((yb, lb), y))
    (ec : Sp.rel (x, []) = ((yc, lc), i)) (ed : Sp.acq (yc, lc) g = ((yd, ld), bd)) : yb = x ∧ lb = [] ∧ ba = decide (0 < x) ∧ (y == g) = (!ba) ∧ (x ≠ 1000000 → bd = true ∧ i = 0 ∧ yd = x ∧ ld = []) := by
  have hx : yb = x ∧ lb = [] ∧ ba = decide (0 < x) ∧ (y == g) = (!ba) := by
    by_cases hx : 0 < x
    · rw [show Sp.acq (x, []) g = ((x - 1, []), true) by unfold Sp.acq; rw [if_pos hx]] at ea
      injection ea with ea e3
      injection ea with e1 e2
      subst e1 e2 e3
      rw [show Sp.rel (x - 1, []) = ((x - 1 + 1, []), 0) by unfold Sp.rel; simp only; rw [if_neg (by omega)]] at eb
      injection eb with eb e3
      injection eb with e1 e2
      subst e1 e2 e3
      exact ⟨by omega, rfl, by simpa using hx, by simp; omega⟩
    · rw [show Sp.acq (x, []) g = ((x, [g]), false) by unfold Sp.acq; rw [if_neg hx]; rfl] at ea
      injection ea with ea e3
      injection ea with e1 e2
      subst e1 e2 e3
      rw [show Sp.rel (x, [g]) = ((x, []), g) from rfl] at eb
      injection eb with eb e3
      injection eb with e1 e2
      subst e1 e2 e3
      exact ⟨rfl, rfl, by simpa using hx, by simp⟩
  refine ⟨hx.1, hx.2.1, hx.2.2.1, hx.2.2.2, fun hne => ?_⟩
  rw [show Sp.rel (x, []) = ((x + 1, []), 0) by unfold Sp.rel; simp only; rw [if_neg hne]] at ec
  injection ec with ec e3
  injection ec with e1 e2
  subst e1 e2 e3
  rw [show Sp.acq (x + 1, []) g = ((x + 1 - 1, []), true) by unfold Sp.acq; rw [if_pos (by simp only; omega)]] at ed
  injection ed with ed e3
  injection ed with e1 e2
  subst e1 e2 e3
  exact ⟨rfl, rfl, by omega, rfl⟩
/-- Somebody waits: the first one is woken. -/
theorem many_in {x ya yb yc g y i z : Int} {t la lb lc : List Int} {ba : Bool} (h : x = 0) (ea : Sp.acq (x, z :: t) g = ((ya, la), ba)) (eb : Sp.rel (ya, la) = ((yb, lb), y)) (ec : Sp.rel (x, z :: t) = ((yc, lc), i)) : y = z ∧ i = z := by
  subst h
  rw [show Sp.acq (0, z :: t) g = ((0, z :: t ++ [g]), false) from rfl] at ea
  injection ea with ea e3
  injection ea with e1 e2
  subst e1 e2 e3
  rw [List.cons_append, show Sp.rel (0, z :: (t ++ [g])) = ((0, t ++ [g]), z) from rfl] at eb
  injection eb with _ e3
  rw [show Sp.rel (0, z :: t) = ((0, t), z) from rfl] at ec
  injection ec with _ e4
  exact ⟨e3.symm, e4.symm⟩
/-- One is taken first; its place written out. -/
theorem wpAnyH_takes {P : Program} {ops : Array Oper} {Q : Exit → Act → World → Prop} {md : Region.Mode} {S : World → Prop} {i : Nat} {oi : Oper} {v : Value} {fuel : Nat} {listed : Array Bool} {a : Act} {w : World} (d : Option Tmp) (hi : ops[i]? = some oi) (hd : oi.dst = d)
    (hs : Region.noSelect ops = true) (hf : Region.free md ops listed i = true) (hr : (Region.ready md ops listed).contains i = true)
    (hQ : ∀ c a w, Q (.panic c) (a.put d v) w → Q (.panic c) a w) (hy : YieldsIf P ops S oi v a) (hS : S w)
    (h : wpAnyH P md ops Q S fuel (listed.setIfInBounds i true) (a.put d v) w) : wpAnyH P md ops Q S (fuel + 1) listed a w := by
  subst hd
  exact wpAnyH_take hi hs hf hr hQ hy hS h
set_option maxHeartbeats 4000000 in
set_option maxRecDepth 100000 in
theorem walk (x : Int) (A : Option Addr) (n c : Nat) (zs : List Int) (g : Int) (w : World) (h : Row w A n c zs) :
    Calls Try.prog 4 #[.agg #[.int .i64 x, .slice A n c], .int .i64 g] w fun e w' => e = .returned (.bool true) ∧ Below w.heap.size w w' := by
  have H := Lib.hid h
  have hlen := Lib.hid h.len
  have P0 := Lib.hid (Cel.new w (.int .i64 x) (.slice A n c) 34)
  have B0 := Lib.hid (below_new w (.cells #[.int .i64 x, .slice A n c] 34))
  clear h
  go_enter Try.func4, Try.ntmps4
  go_wp2_with fail
  refine (shown_any _).mono ?_
  rintro e w1 ⟨rfl, hb1⟩
  have B1 := Lib.hid (B0.out.trans (hb1.mono B0.out.size))
  have P1 := Lib.hid (P0.out.step hb1)
  have p0 := P1.out.c0
  have p1 := P1.out.c1
  clear hb1 B0 P0
  by_cases h300 : 300 < n
  · have i1 : (300 : Int) < (n : Int) := by omega
    have i2 : decide ((300 : Int) < (n : Int)) = true := by simpa using i1
    go_wp2_with fail
    go_ret
    exact ⟨rfl, B1.out⟩
  · have i1 : ¬ (300 : Int) < (n : Int) := by omega
    have i2 : decide ((300 : Int) < (n : Int)) = false := by simpa using i1
    have h3 : n ≤ 300 := by omega
    go_wp2_with fail
    refine (refMay_any x A n c zs _ (H.out.below B1.out) (by omega)).mono ?_
    rintro e w2 ⟨rfl, hb2⟩
    have B2 := Lib.hid (B1.out.trans (hb2.mono B1.out.size))
    have P2 := Lib.hid (P1.out.step hb2)
    have q0 := P2.out.c0
    have q1 := P2.out.c1
    clear hb2 p0 p1
    by_cases hm : Sp.May (x, zs)
    · have HM := Lib.hid hm
      have hx1 : 0 ≤ x := hm.1
      have hx2 : x ≤ 1000000 := hm.2.1
      rw [decide_eq_true hm]
      clear hm
      by_cases hg : g ≤ 0
      · have t1 : decide (g ≤ 0) = true := by simpa using hg
        go_wp2_with fail
        go_ret
        exact ⟨rfl, B2.out⟩
      · have t1 : decide (g ≤ 0) = false := by simpa using hg
        go_wp2_with fail
        refine (made_any x A n c zs _ (H.out.below B2.out) (by omega)).mono ?_
        rintro e w3 ⟨A3, n3, c3, rfl, hr3, hb3⟩
        obtain rfl : n = n3 := by have h1 : zs.length = n3 := hr3.len; have h2 := hlen.out; omega
        have hb' := below_then hb3 (.cells #[.int .i64 x, .slice A3 n c3] 26)
        have L := Lib.hid ((Bl.mk B2.out).step hb')
        have I0 := Lib.hid ((RI.mk P2.out (H.out.below B2.out)).step hb')
        have I3 := Lib.hid (RI.new (y := x) (l := zs) 26 hr3)
        clear hr3 hb3 hb' q0 q1 P2 B2 P1 B1
        go_wp2_with fail
        obtain ⟨⟨⟨y4, l4⟩, b4⟩, hE⟩ : ∃ r, Sp.acq (x, zs) g = r := ⟨_, rfl⟩
        have hin := acq_in hE (by omega) (by omega)
        obtain ⟨j4, m4, hl4⟩ := hin
        have E4 := Lib.hid hE
        refine (acq_any x A3 n c3 zs g _ I3.out.row (by omega) (by omega) (by omega)).mono ?_
        rintro e w4 ⟨A4, n4, c4, rfl, hr, hf, hb⟩
        rw [hE] at hr ⊢
        have hn4 : n4 ≤ 300 + 4 := by have h1 : l4.length = n4 := hr.len; have h2 := I3.out.row.len; omega
        have hb' := below_then hb (.cells #[.int .i64 y4, .slice A4 n4 c4] 26)
        have I4 := Lib.hid (RI.new (y := y4) (l := l4) 26 hr)
        clear hE hr hf hb hl4
        replace L := Lib.hid (L.out.step hb')
        replace I0 := Lib.hid (I0.out.step hb')
        replace I3 := Lib.hid (I3.out.step hb')
        clear hb'
        go_wp2_with fail
        obtain ⟨⟨⟨y5, l5⟩, b5⟩, hE⟩ : ∃ r, Sp.rel (y4, l4) = r := ⟨_, rfl⟩
        have hin := rel_in hE (by omega) (by omega)
        obtain ⟨j5, m5, hl5⟩ := hin
        have E5 := Lib.hid hE
        refine (rel_any y4 A4 n4 c4 l4 _ I4.out.row (by omega) (by omega) (by omega)).mono ?_
        rintro e w5 ⟨A5, n5, c5, rfl, hr, hf, hb⟩
        rw [hE] at hr ⊢
        have hn5 : n5 ≤ 300 + 5 := by have h1 : l5.length = n5 := hr.len; have h2 := I4.out.row.len; omega
        have hb' := below_then hb (.cells #[.int .i64 y5, .slice A5 n5 c5] 26)
        have I5 := Lib.hid (RI.new (y := y5) (l := l5) 26 hr)
        clear hE hr hf hb hl5
        replace L := Lib.hid (L.out.step hb')
        replace I0 := Lib.hid (I0.out.step hb')
        replace I3 := Lib.hid (I3.out.step hb')
        have p0 := I3.out.cel.c0
        have p1 := I3.out.cel.c1
        clear hb' I4
        go_wp2_with fail
        obtain ⟨⟨⟨y6, l6⟩, b6⟩, hE⟩ : ∃ r, Sp.rel (x, zs) = r := ⟨_, rfl⟩
        have hin := rel_in hE (by omega) (by omega)
        obtain ⟨j6, m6, hl6⟩ := hin
        have E6 := Lib.hid hE
        refine (rel_any x A3 n c3 zs _ I3.out.row (by omega) (by omega) (by omega)).mono ?_
        rintro e w6 ⟨A6, n6, c6, rfl, hr, hf, hb⟩
        rw [hE] at hr ⊢
        have hn6 : n6 ≤ 300 + 6 := by have h1 : l6.length = n6 := hr.len; have h2 := I3.out.row.len; omega
        have hb' := below_then hb (.cells #[.int .i64 y6, .slice A6 n6 c6] 26)
        have I6 := Lib.hid (RI.new (y := y6) (l := l6) 26 hr)
        clear hE hr hf hb hl6
        replace L := Lib.hid (L.out.step hb')
        replace I0 := Lib.hid (I0.out.step hb')
        replace I5 := Lib.hid (I5.out.step hb')
        clear hb' I3 p0 p1
        go_wp2_with fail
        obtain ⟨⟨⟨y7, l7⟩, b7⟩, hE⟩ : ∃ r, Sp.acq (y6, l6) g = r := ⟨_, rfl⟩
        have hin := acq_in hE (by omega) (by omega)
        obtain ⟨j7, m7, hl7⟩ := hin
        have E7 := Lib.hid hE
        refine (acq_any y6 A6 n6 c6 l6 g _ I6.out.row (by omega) (by omega) (by omega)).mono ?_
        rintro e w7 ⟨A7, n7, c7, rfl, hr, hf, hb⟩
        rw [hE] at hr ⊢
        have hn7 : n7 ≤ 300 + 7 := by have h1 : l7.length = n7 := hr.len; have h2 := I6.out.row.len; omega
        have hb' := below_then hb (.cells #[.int .i64 y7, .slice A7 n7 c7] 26)
        have I7 := Lib.hid (RI.new (y := y7) (l := l7) 26 hr)
        clear hE hr hf hb hl7
        replace L := Lib.hid (L.out.step hb')
        replace I0 := Lib.hid (I0.out.step hb')
        replace I5 := Lib.hid (I5.out.step hb')
        have p0 := I0.out.cel.c0
        have p1 := I0.out.cel.c1
        clear hb' I6
        by_cases hz : n = 0
        · subst hz
          obtain rfl : zs = [] := List.length_eq_zero_iff.1 hlen.out
          obtain ⟨rfl, rfl, ha, hh, hrest⟩ := alone_in hx1 hx2 (by omega) E4.out E5.out E6.out E7.out
          obtain rfl : n5 = 0 := by have := I5.out.row.len; simpa using this.symm
          clear E4 E5 E6 E7
          by_cases hx : 0 < y5
          · have t2 : decide (0 < y5) = true := by simpa using hx
            rw [t2] at ha
            rw [ha] at hh
            subst ha
            have t3 : (b5 == g) = false := hh
            clear hh
            go_wp2_with fail
            clear p0 p1
            generalize (w7.alloc (.cells #[.int .i64 y7, .slice A7 n7 c7] 26)) = V at *
            have a0 := I0.out.cel.c0
            have a1 := I0.out.cel.c1
            have a2 := I5.out.cel.c0
            have a3 := I5.out.cel.c1
            have bz : Below V.heap.size V V.drew := (Below.refl _ _).drew
            go_region_held3 (fun w' => w'.cell? ⟨w.heap.size, 0, none⟩ = some (.int .i64 y5) ∧ w'.cell? ⟨w.heap.size, 1, none⟩ = some (.slice A 0 c) ∧ w'.cell? ⟨w5.heap.size, 0, none⟩ = some (.int .i64 y5) ∧ w'.cell? ⟨w5.heap.size, 1, none⟩ = some (.slice A5 0 c5))
              (first
                | (go_split_ands; refine ⟨keepcell hbX (by assumption), keepcell hbX (by assumption), keepcell hbX (by assumption), keepcell hbX (by assumption)⟩)
                | (refine ⟨a0, a1, a2, a3⟩))
              (first
                | (go_at_call_of 15 (Value.slice A5 0 c5); refine (real_any y5 A5 0 c5 [] _ (I5.out.row.below bz)).mono ?_; rintro e v1 ⟨Ar, nr, cr, rfl, hr1, hbX⟩; have b1 := held_trans bz hbX)
                | (go_at_call_of 14 (Value.slice A 0 c); refine (same_row y5 y5 Ar A nr 0 cr c [] [] _ rfl rfl hr1 (I0.out.row.below b1)).mono ?_; rintro e v2 ⟨rfl, hbX⟩; have b2 := held_trans b1 hbX))
            replace L := Lib.hid (L.out.step b2)
            replace I0 := Lib.hid (I0.out.step b2)
            replace I7 := Lib.hid (I7.out.step b2)
            have p0 := I0.out.cel.c0
            have p1 := I0.out.cel.c1
            clear a0 a1 a2 a3 bz b1 b2 hr1 hbX I5
            by_cases hf : y5 = 1000000
            · have t4 : (y5 == 1000000) = true := by rw [beq_iff_eq]; exact hf
              clear hf hrest
              go_wp2_with fail
              go_quiet (fail)
              go_wp2_with fail
              go_ret
              exact ⟨rfl, below_drewN L.out.b _⟩
            · have t4 : (y5 == 1000000) = false := by rw [beq_eq_false_iff_ne]; exact hf
              obtain ⟨rfl, rfl, rfl, rfl⟩ := hrest hf
              obtain rfl : n7 = 0 := by have := I7.out.row.len; simpa using this.symm
              clear hf hrest
              go_wp2_with fail
              have a0 := I0.out.cel.c0
              have a1 := I0.out.cel.c1
              have a2 := I7.out.cel.c0
              have a3 := I7.out.cel.c1
              obtain ⟨U, rfl⟩ : ∃ U : World, U = v2 := ⟨_, rfl⟩
              have bz : Below U.heap.size U U.drew := (Below.refl _ _).drew
              refine wp_region_held_drew (S := fun w' => w'.cell? ⟨w.heap.size, 0, none⟩ = some (.int .i64 y7) ∧ w'.cell? ⟨w.heap.size, 1, none⟩ = some (.slice A 0 c) ∧ w'.cell? ⟨w7.heap.size, 0, none⟩ = some (.int .i64 y7) ∧ w'.cell? ⟨w7.heap.size, 1, none⟩ = some (.slice A7 0 c7)) (by kernel_rfl) ⟨a0, a1, a2, a3⟩ (fun hHeld => ?_)
              refine wpAnyH_takes (i := 0) (v := (.bool true)) (some 81) rfl rfl (by kernel_rfl) (by kernel_rfl) (by kernel_rfl) (fun _ _ _ h => h) (Or.inl ⟨by rfl, (by intro W9 hSw; (try dsimp only at hSw); go_simp; first | done | with_reducible rfl)⟩) (by assumption) ?_
              simp only [Act.put, List.setIfInBounds_toArray, List.set_cons_zero, List.set_cons_succ]
              refine wpAnyH_takes (i := 1) (v := (.bool true)) (some 82) rfl rfl (by kernel_rfl) (by kernel_rfl) (by kernel_rfl) (fun _ _ _ h => h) (Or.inl ⟨by rfl, (by intro W9 hSw; (try dsimp only at hSw); go_simp; first | done | with_reducible rfl)⟩) (by assumption) ?_
              simp only [Act.put, List.setIfInBounds_toArray, List.set_cons_zero, List.set_cons_succ]
              refine wpAnyH_takes (i := 2) (v := (.bool true)) (some 83) rfl rfl (by kernel_rfl) (by kernel_rfl) (by kernel_rfl) (fun _ _ _ h => h) (Or.inl ⟨by rfl, (by intro W9 hSw; (try dsimp only at hSw); go_simp; first | done | with_reducible rfl)⟩) (by assumption) ?_
              simp only [Act.put, List.setIfInBounds_toArray, List.set_cons_zero, List.set_cons_succ]
              refine wpAnyH_takes (i := 3) (v := (.bool false)) (some 84) rfl rfl (by kernel_rfl) (by kernel_rfl) (by kernel_rfl) (fun _ _ _ h => h) (Or.inl ⟨by rfl, (by intro W9 hSw; (try dsimp only at hSw); go_simp; first | done | with_reducible rfl)⟩) (by assumption) ?_
              simp only [Act.put, List.setIfInBounds_toArray, List.set_cons_zero, List.set_cons_succ]
              refine wpAnyH_takes (i := 4) (v := (.bool false)) (some 85) rfl rfl (by kernel_rfl) (by kernel_rfl) (by kernel_rfl) (fun _ _ _ h => h) (Or.inl ⟨by rfl, (by intro W9 hSw; (try dsimp only at hSw); go_simp; first | done | with_reducible rfl)⟩) (by assumption) ?_
              simp only [Act.put, List.setIfInBounds_toArray, List.set_cons_zero, List.set_cons_succ]
              refine wpAnyH_takes (i := 5) (v := (.pointer (some ⟨w.heap.size, 0, none⟩))) (some 86) rfl rfl (by kernel_rfl) (by kernel_rfl) (by kernel_rfl) (fun _ _ _ h => h) (Or.inl ⟨by rfl, (by intro W9 hSw; (try dsimp only at hSw); go_simp; first | done | with_reducible rfl)⟩) (by assumption) ?_
              simp only [Act.put, List.setIfInBounds_toArray, List.set_cons_zero, List.set_cons_succ]
              refine wpAnyH_takes (i := 6) (v := (.int .i64 y7)) (some 87) rfl rfl (by kernel_rfl) (by kernel_rfl) (by kernel_rfl) (fun _ _ _ h => h) (Or.inl ⟨by rfl, (by intro W9 hSw; (try dsimp only at hSw); go_simp; first | done | with_reducible rfl)⟩) (by assumption) ?_
              simp only [Act.put, List.setIfInBounds_toArray, List.set_cons_zero, List.set_cons_succ]
              refine wpAnyH_takes (i := 7) (v := (.bool false)) (some 88) rfl rfl (by kernel_rfl) (by kernel_rfl) (by kernel_rfl) (fun _ _ _ h => h) (Or.inl ⟨by rfl, (by intro W9 hSw; (try dsimp only at hSw); go_simp; first | done | with_reducible rfl)⟩) (by assumption) ?_
              simp only [Act.put, List.setIfInBounds_toArray, List.set_cons_zero, List.set_cons_succ]
              refine wpAnyH_takes (i := 8) (v := (.bool false)) (some 89) rfl rfl (by kernel_rfl) (by kernel_rfl) (by kernel_rfl) (fun _ _ _ h => h) (Or.inl ⟨by rfl, (by intro W9 hSw; (try dsimp only at hSw); go_simp; first | done | with_reducible rfl)⟩) (by assumption) ?_
              simp only [Act.put, List.setIfInBounds_toArray, List.set_cons_zero, List.set_cons_succ]
              refine wpAnyH_takes (i := 9) (v := (.bool false)) (some 90) rfl rfl (by kernel_rfl) (by kernel_rfl) (by kernel_rfl) (fun _ _ _ h => h) (Or.inl ⟨by rfl, (by intro W9 hSw; (try dsimp only at hSw); go_simp; first | done | with_reducible rfl)⟩) (by assumption) ?_
              simp only [Act.put, List.setIfInBounds_toArray, List.set_cons_zero, List.set_cons_succ]
              refine wpAnyH_takes (i := 10) (v := (.bool true)) (some 91) rfl rfl (by kernel_rfl) (by kernel_rfl) (by kernel_rfl) (fun _ _ _ h => h) (Or.inl ⟨by rfl, (by intro W9 hSw; (try dsimp only at hSw); go_simp; first | done | with_reducible rfl)⟩) (by assumption) ?_
              simp only [Act.put, List.setIfInBounds_toArray, List.set_cons_zero, List.set_cons_succ]
              refine wpAnyH_takes (i := 11) (v := (.bool true)) (some 92) rfl rfl (by kernel_rfl) (by kernel_rfl) (by kernel_rfl) (fun _ _ _ h => h) (Or.inl ⟨by rfl, (by intro W9 hSw; (try dsimp only at hSw); go_simp; first | done | with_reducible rfl)⟩) (by assumption) ?_
              simp only [Act.put, List.setIfInBounds_toArray, List.set_cons_zero, List.set_cons_succ]
              refine wpAnyH_takes (i := 12) (v := (.int .i64 0)) (some 93) rfl rfl (by kernel_rfl) (by kernel_rfl) (by kernel_rfl) (fun _ _ _ h => h) (Or.inl ⟨by rfl, (by intro W9 hSw; (try dsimp only at hSw); go_simp; first | done | with_reducible rfl)⟩) (by assumption) ?_
              simp only [Act.put, List.setIfInBounds_toArray, List.set_cons_zero, List.set_cons_succ]
              refine wpAnyH_takes (i := 13) (v := (.bool true)) (some 94) rfl rfl (by kernel_rfl) (by kernel_rfl) (by kernel_rfl) (fun _ _ _ h => h) (Or.inl ⟨by rfl, (by intro W9 hSw; (try dsimp only at hSw); go_simp; first | done | with_reducible rfl)⟩) (by assumption) ?_
              simp only [Act.put, List.setIfInBounds_toArray, List.set_cons_zero, List.set_cons_succ]
              refine wpAnyH_takes (i := 14) (v := (.bool true)) (some 95) rfl rfl (by kernel_rfl) (by kernel_rfl) (by kernel_rfl) (fun _ _ _ h => h) (Or.inl ⟨by rfl, (by intro W9 hSw; (try dsimp only at hSw); go_simp; first | done | with_reducible rfl)⟩) (by assumption) ?_
              simp only [Act.put, List.setIfInBounds_toArray, List.set_cons_zero, List.set_cons_succ]
              refine wpAnyH_takes (i := 15) (v := (.bool true)) (some 96) rfl rfl (by kernel_rfl) (by kernel_rfl) (by kernel_rfl) (fun _ _ _ h => h) (Or.inl ⟨by rfl, (by intro W9 hSw; (try dsimp only at hSw); go_simp; first | done | with_reducible rfl)⟩) (by assumption) ?_
              simp only [Act.put, List.setIfInBounds_toArray, List.set_cons_zero, List.set_cons_succ]
              refine wpAnyH_takes (i := 16) (v := (.agg #[.int .i64 y7, .slice A7 0 c7])) (some 97) rfl rfl (by kernel_rfl) (by kernel_rfl) (by kernel_rfl) (fun _ _ _ h => h) (Or.inl ⟨by rfl, (by intro W9 hSw; (try dsimp only at hSw); go_simp; first | done | with_reducible rfl)⟩) (by assumption) ?_
              simp only [Act.put, List.setIfInBounds_toArray, List.set_cons_zero, List.set_cons_succ]
              refine wpAnyH_takes (i := 18) (v := (.agg #[.int .i64 y7, .slice A 0 c])) (some 99) rfl rfl (by kernel_rfl) (by kernel_rfl) (by kernel_rfl) (fun _ _ _ h => h) (Or.inl ⟨by rfl, (by intro W9 hSw; (try dsimp only at hSw); go_simp; first | done | with_reducible rfl)⟩) (by assumption) ?_
              simp only [Act.put, List.setIfInBounds_toArray, List.set_cons_zero, List.set_cons_succ]
              refine wpAnyH_ready (rs := [17]) (by kernel_rfl) (by simp) ?_
              refine AllReadyH.cons rfl (fun K hK => ?_) AllReadyH.nil
              go_simp
              go_at_call_of 15 (Value.slice A7 0 c7)
              refine (real_any y7 A7 0 c7 [] _ (I7.out.row.below bz)).mono ?_
              rintro e v3 ⟨Ar, nr, cr, rfl, hr1, hbX⟩
              have b1 := held_trans bz hbX
              refine hK.out _ _ ?_ (fun hHeld => ?_)
              · go_split_ands
                exact ⟨keepcell hbX (by assumption), keepcell hbX (by assumption), keepcell hbX (by assumption), keepcell hbX (by assumption)⟩
              clear hK K
              try dsimp only
              refine wpAnyH_ready (rs := [19]) (by kernel_rfl) (by simp) ?_
              refine AllReadyH.cons rfl (fun K hK => ?_) AllReadyH.nil
              go_simp
              go_at_call_of 14 (Value.slice A 0 c)
              refine (same_row y7 y7 Ar A nr 0 cr c [] [] _ rfl rfl hr1 (I0.out.row.below b1)).mono ?_
              rintro e v4 ⟨rfl, hbX⟩
              have b2 := held_trans b1 hbX
              refine hK.out _ _ ?_ (fun hHeld => ?_)
              · go_split_ands
                exact ⟨keepcell hbX (by assumption), keepcell hbX (by assumption), keepcell hbX (by assumption), keepcell hbX (by assumption)⟩
              clear hK K
              try dsimp only
              refine wpAnyH_takes (i := 20) (v := (.bool true)) (some 101) rfl rfl (by kernel_rfl) (by kernel_rfl) (by kernel_rfl) (fun _ _ _ h => h) (Or.inl ⟨by rfl, (by intro W9 hSw; (try dsimp only at hSw); go_simp; first | done | with_reducible rfl)⟩) (by assumption) ?_
              simp only [Act.put, List.setIfInBounds_toArray, List.set_cons_zero, List.set_cons_succ]
              refine wpAnyH_takes (i := 21) (v := (.bool true)) (some 102) rfl rfl (by kernel_rfl) (by kernel_rfl) (by kernel_rfl) (fun _ _ _ h => h) (Or.inl ⟨by rfl, (by intro W9 hSw; (try dsimp only at hSw); go_simp; first | done | with_reducible rfl)⟩) (by assumption) ?_
              simp only [Act.put, List.setIfInBounds_toArray, List.set_cons_zero, List.set_cons_succ]
              refine wpAnyH_takes (i := 22) (v := (.bool true)) (some 103) rfl rfl (by kernel_rfl) (by kernel_rfl) (by kernel_rfl) (fun _ _ _ h => h) (Or.inl ⟨by rfl, (by intro W9 hSw; (try dsimp only at hSw); go_simp; first | done | with_reducible rfl)⟩) (by assumption) ?_
              simp only [Act.put, List.setIfInBounds_toArray, List.set_cons_zero, List.set_cons_succ]
              refine wpAnyH_takes (i := 23) (v := (.bool true)) (some 104) rfl rfl (by kernel_rfl) (by kernel_rfl) (by kernel_rfl) (fun _ _ _ h => h) (Or.inl ⟨by rfl, (by intro W9 hSw; (try dsimp only at hSw); go_simp; first | done | with_reducible rfl)⟩) (by assumption) ?_
              simp only [Act.put, List.setIfInBounds_toArray, List.set_cons_zero, List.set_cons_succ]
              refine wpAnyH_takes (i := 24) (v := (.bool true)) (some 105) rfl rfl (by kernel_rfl) (by kernel_rfl) (by kernel_rfl) (fun _ _ _ h => h) (Or.inl ⟨by rfl, (by intro W9 hSw; (try dsimp only at hSw); go_simp; first | done | with_reducible rfl)⟩) (by assumption) ?_
              simp only [Act.put, List.setIfInBounds_toArray, List.set_cons_zero, List.set_cons_succ]
              refine wpAnyH_takes (i := 25) (v := (.bool true)) (some 106) rfl rfl (by kernel_rfl) (by kernel_rfl) (by kernel_rfl) (fun _ _ _ h => h) (Or.inl ⟨by rfl, (by intro W9 hSw; (try dsimp only at hSw); go_simp; first | done | with_reducible rfl)⟩) (by assumption) ?_
              simp only [Act.put, List.setIfInBounds_toArray, List.set_cons_zero, List.set_cons_succ]
              refine wpAnyH_takes (i := 26) (v := undef) (some 107) rfl rfl (by kernel_rfl) (by kernel_rfl) (by kernel_rfl) (fun _ _ _ h => h) (Or.inr ⟨by rfl, rfl⟩) (by assumption) ?_
              simp only [Act.put, List.setIfInBounds_toArray, List.set_cons_zero, List.set_cons_succ]
              refine wpAnyH_takes (i := 27) (v := undef) (some 108) rfl rfl (by kernel_rfl) (by kernel_rfl) (by kernel_rfl) (fun _ _ _ h => h) (Or.inr ⟨by rfl, rfl⟩) (by assumption) ?_
              simp only [Act.put, List.setIfInBounds_toArray, List.set_cons_zero, List.set_cons_succ]
              refine wpAnyH_takes (i := 28) (v := undef) (some 109) rfl rfl (by kernel_rfl) (by kernel_rfl) (by kernel_rfl) (fun _ _ _ h => h) (Or.inr ⟨by rfl, rfl⟩) (by assumption) ?_
              simp only [Act.put, List.setIfInBounds_toArray, List.set_cons_zero, List.set_cons_succ]
              refine wpAnyH_takes (i := 29) (v := undef) (some 110) rfl rfl (by kernel_rfl) (by kernel_rfl) (by kernel_rfl) (fun _ _ _ h => h) (Or.inr ⟨by rfl, rfl⟩) (by assumption) ?_
              simp only [Act.put, List.setIfInBounds_toArray, List.set_cons_zero, List.set_cons_succ]
              refine wpAnyH_takes (i := 30) (v := undef) (some 111) rfl rfl (by kernel_rfl) (by kernel_rfl) (by kernel_rfl) (fun _ _ _ h => h) (Or.inr ⟨by rfl, rfl⟩) (by assumption) ?_
              simp only [Act.put, List.setIfInBounds_toArray, List.set_cons_zero, List.set_cons_succ]
              refine wpAnyH_takes (i := 31) (v := undef) (some 112) rfl rfl (by kernel_rfl) (by kernel_rfl) (by kernel_rfl) (fun _ _ _ h => h) (Or.inr ⟨by rfl, rfl⟩) (by assumption) ?_
              simp only [Act.put, List.setIfInBounds_toArray, List.set_cons_zero, List.set_cons_succ]
              refine wpAnyH_takes (i := 32) (v := undef) (some 113) rfl rfl (by kernel_rfl) (by kernel_rfl) (by kernel_rfl) (fun _ _ _ h => h) (Or.inr ⟨by rfl, rfl⟩) (by assumption) ?_
              simp only [Act.put, List.setIfInBounds_toArray, List.set_cons_zero, List.set_cons_succ]
              refine wpAnyH_takes (i := 33) (v := undef) (some 114) rfl rfl (by kernel_rfl) (by kernel_rfl) (by kernel_rfl) (fun _ _ _ h => h) (Or.inr ⟨by rfl, rfl⟩) (by assumption) ?_
              simp only [Act.put, List.setIfInBounds_toArray, List.set_cons_zero, List.set_cons_succ]
              refine wpAnyH_takes (i := 34) (v := undef) (some 115) rfl rfl (by kernel_rfl) (by kernel_rfl) (by kernel_rfl) (fun _ _ _ h => h) (Or.inr ⟨by rfl, rfl⟩) (by assumption) ?_
              simp only [Act.put, List.setIfInBounds_toArray, List.set_cons_zero, List.set_cons_succ]
              refine wpAnyH_takes (i := 35) (v := undef) (some 116) rfl rfl (by kernel_rfl) (by kernel_rfl) (by kernel_rfl) (fun _ _ _ h => h) (Or.inr ⟨by rfl, rfl⟩) (by assumption) ?_
              simp only [Act.put, List.setIfInBounds_toArray, List.set_cons_zero, List.set_cons_succ]
              refine wpAnyH_takes (i := 36) (v := undef) (some 117) rfl rfl (by kernel_rfl) (by kernel_rfl) (by kernel_rfl) (fun _ _ _ h => h) (Or.inr ⟨by rfl, rfl⟩) (by assumption) ?_
              simp only [Act.put, List.setIfInBounds_toArray, List.set_cons_zero, List.set_cons_succ]
              refine wpAnyH_takes (i := 37) (v := undef) (some 118) rfl rfl (by kernel_rfl) (by kernel_rfl) (by kernel_rfl) (fun _ _ _ h => h) (Or.inr ⟨by rfl, rfl⟩) (by assumption) ?_
              simp only [Act.put, List.setIfInBounds_toArray, List.set_cons_zero, List.set_cons_succ]
              refine wpAnyH_takes (i := 38) (v := undef) (some 119) rfl rfl (by kernel_rfl) (by kernel_rfl) (by kernel_rfl) (fun _ _ _ h => h) (Or.inr ⟨by rfl, rfl⟩) (by assumption) ?_
              simp only [Act.put, List.setIfInBounds_toArray, List.set_cons_zero, List.set_cons_succ]
              refine wpAnyH_takes (i := 39) (v := undef) (some 120) rfl rfl (by kernel_rfl) (by kernel_rfl) (by kernel_rfl) (fun _ _ _ h => h) (Or.inr ⟨by rfl, rfl⟩) (by assumption) ?_
              simp only [Act.put, List.setIfInBounds_toArray, List.set_cons_zero, List.set_cons_succ]
              refine wpAnyH_takes (i := 40) (v := (.bool true)) (some 121) rfl rfl (by kernel_rfl) (by kernel_rfl) (by kernel_rfl) (fun _ _ _ h => h) (Or.inl ⟨by rfl, (by intro W9 hSw; (try dsimp only at hSw); go_simp; first | done | with_reducible rfl)⟩) (by assumption) ?_
              simp only [Act.put, List.setIfInBounds_toArray, List.set_cons_zero, List.set_cons_succ]
              refine wpAnyH_takes (i := 41) (v := (.bool true)) (some 122) rfl rfl (by kernel_rfl) (by kernel_rfl) (by kernel_rfl) (fun _ _ _ h => h) (Or.inl ⟨by rfl, (by intro W9 hSw; (try dsimp only at hSw); go_simp; first | done | with_reducible rfl)⟩) (by assumption) ?_
              simp only [Act.put, List.setIfInBounds_toArray, List.set_cons_zero, List.set_cons_succ]
              refine wpAnyH_takes (i := 42) (v := (.bool true)) (some 4) rfl rfl (by kernel_rfl) (by kernel_rfl) (by kernel_rfl) (fun _ _ _ h => h) (Or.inl ⟨by rfl, (by intro W9 hSw; (try dsimp only at hSw); go_simp; first | done | with_reducible rfl)⟩) (by assumption) ?_
              simp only [Act.put, List.setIfInBounds_toArray, List.set_cons_zero, List.set_cons_succ]
              refine wpAnyH_done (by kernel_rfl) ?_ _
              have HB := Lib.hid (L.out.step b2).b
              clear a0 a1 a2 a3 bz b1 b2 hr1 hbX hHeld p0 p1
              go_wp2_with fail
              go_ret
              exact ⟨rfl, HB.out⟩
          · have t2 : decide (0 < y5) = false := by simpa using hx
            rw [t2] at ha
            rw [ha] at hh
            subst ha
            have t3 : (b5 == g) = true := hh
            clear hh
            go_wp2_with fail
            clear p0 p1
            generalize (w7.alloc (.cells #[.int .i64 y7, .slice A7 n7 c7] 26)) = V at *
            have a0 := I0.out.cel.c0
            have a1 := I0.out.cel.c1
            have a2 := I5.out.cel.c0
            have a3 := I5.out.cel.c1
            have bz : Below V.heap.size V V.drew := (Below.refl _ _).drew
            go_region_held3 (fun w' => w'.cell? ⟨w.heap.size, 0, none⟩ = some (.int .i64 y5) ∧ w'.cell? ⟨w.heap.size, 1, none⟩ = some (.slice A 0 c) ∧ w'.cell? ⟨w5.heap.size, 0, none⟩ = some (.int .i64 y5) ∧ w'.cell? ⟨w5.heap.size, 1, none⟩ = some (.slice A5 0 c5))
              (first
                | (go_split_ands; refine ⟨keepcell hbX (by assumption), keepcell hbX (by assumption), keepcell hbX (by assumption), keepcell hbX (by assumption)⟩)
                | (refine ⟨a0, a1, a2, a3⟩))
              (first
                | (go_at_call_of 15 (Value.slice A5 0 c5); refine (real_any y5 A5 0 c5 [] _ (I5.out.row.below bz)).mono ?_; rintro e v1 ⟨Ar, nr, cr, rfl, hr1, hbX⟩; have b1 := held_trans bz hbX)
                | (go_at_call_of 14 (Value.slice A 0 c); refine (same_row y5 y5 Ar A nr 0 cr c [] [] _ rfl rfl hr1 (I0.out.row.below b1)).mono ?_; rintro e v2 ⟨rfl, hbX⟩; have b2 := held_trans b1 hbX))
            replace L := Lib.hid (L.out.step b2)
            replace I0 := Lib.hid (I0.out.step b2)
            replace I7 := Lib.hid (I7.out.step b2)
            have p0 := I0.out.cel.c0
            have p1 := I0.out.cel.c1
            clear a0 a1 a2 a3 bz b1 b2 hr1 hbX I5
            by_cases hf : y5 = 1000000
            · have t4 : (y5 == 1000000) = true := by rw [beq_iff_eq]; exact hf
              clear hf hrest
              go_wp2_with fail
              go_quiet (fail)
              go_wp2_with fail
              go_ret
              exact ⟨rfl, below_drewN L.out.b _⟩
            · have t4 : (y5 == 1000000) = false := by rw [beq_eq_false_iff_ne]; exact hf
              obtain ⟨rfl, rfl, rfl, rfl⟩ := hrest hf
              obtain rfl : n7 = 0 := by have := I7.out.row.len; simpa using this.symm
              clear hf hrest
              go_wp2_with fail
              have a0 := I0.out.cel.c0
              have a1 := I0.out.cel.c1
              have a2 := I7.out.cel.c0
              have a3 := I7.out.cel.c1
              obtain ⟨U, rfl⟩ : ∃ U : World, U = v2 := ⟨_, rfl⟩
              have bz : Below U.heap.size U U.drew := (Below.refl _ _).drew
              refine wp_region_held_drew (S := fun w' => w'.cell? ⟨w.heap.size, 0, none⟩ = some (.int .i64 y7) ∧ w'.cell? ⟨w.heap.size, 1, none⟩ = some (.slice A 0 c) ∧ w'.cell? ⟨w7.heap.size, 0, none⟩ = some (.int .i64 y7) ∧ w'.cell? ⟨w7.heap.size, 1, none⟩ = some (.slice A7 0 c7)) (by kernel_rfl) ⟨a0, a1, a2, a3⟩ (fun hHeld => ?_)
              refine wpAnyH_takes (i := 0) (v := (.bool true)) (some 81) rfl rfl (by kernel_rfl) (by kernel_rfl) (by kernel_rfl) (fun _ _ _ h => h) (Or.inl ⟨by rfl, (by intro W9 hSw; (try dsimp only at hSw); go_simp; first | done | with_reducible rfl)⟩) (by assumption) ?_
              simp only [Act.put, List.setIfInBounds_toArray, List.set_cons_zero, List.set_cons_succ]
              refine wpAnyH_takes (i := 1) (v := (.bool true)) (some 82) rfl rfl (by kernel_rfl) (by kernel_rfl) (by kernel_rfl) (fun _ _ _ h => h) (Or.inl ⟨by rfl, (by intro W9 hSw; (try dsimp only at hSw); go_simp; first | done | with_reducible rfl)⟩) (by assumption) ?_
              simp only [Act.put, List.setIfInBounds_toArray, List.set_cons_zero, List.set_cons_succ]
              refine wpAnyH_takes (i := 2) (v := (.bool true)) (some 83) rfl rfl (by kernel_rfl) (by kernel_rfl) (by kernel_rfl) (fun _ _ _ h => h) (Or.inl ⟨by rfl, (by intro W9 hSw; (try dsimp only at hSw); go_simp; first | done | with_reducible rfl)⟩) (by assumption) ?_
              simp only [Act.put, List.setIfInBounds_toArray, List.set_cons_zero, List.set_cons_succ]
              refine wpAnyH_takes (i := 3) (v := (.bool false)) (some 84) rfl rfl (by kernel_rfl) (by kernel_rfl) (by kernel_rfl) (fun _ _ _ h => h) (Or.inl ⟨by rfl, (by intro W9 hSw; (try dsimp only at hSw); go_simp; first | done | with_reducible rfl)⟩) (by assumption) ?_
              simp only [Act.put, List.setIfInBounds_toArray, List.set_cons_zero, List.set_cons_succ]
              refine wpAnyH_takes (i := 4) (v := (.bool false)) (some 85) rfl rfl (by kernel_rfl) (by kernel_rfl) (by kernel_rfl) (fun _ _ _ h => h) (Or.inl ⟨by rfl, (by intro W9 hSw; (try dsimp only at hSw); go_simp; first | done | with_reducible rfl)⟩) (by assumption) ?_
              simp only [Act.put, List.setIfInBounds_toArray, List.set_cons_zero, List.set_cons_succ]
              refine wpAnyH_takes (i := 5) (v := (.pointer (some ⟨w.heap.size, 0, none⟩))) (some 86) rfl rfl (by kernel_rfl) (by kernel_rfl) (by kernel_rfl) (fun _ _ _ h => h) (Or.inl ⟨by rfl, (by intro W9 hSw; (try dsimp only at hSw); go_simp; first | done | with_reducible rfl)⟩) (by assumption) ?_
              simp only [Act.put, List.setIfInBounds_toArray, List.set_cons_zero, List.set_cons_succ]
              refine wpAnyH_takes (i := 6) (v := (.int .i64 y7)) (some 87) rfl rfl (by kernel_rfl) (by kernel_rfl) (by kernel_rfl) (fun _ _ _ h => h) (Or.inl ⟨by rfl, (by intro W9 hSw; (try dsimp only at hSw); go_simp; first | done | with_reducible rfl)⟩) (by assumption) ?_
              simp only [Act.put, List.setIfInBounds_toArray, List.set_cons_zero, List.set_cons_succ]
              refine wpAnyH_takes (i := 7) (v := (.bool false)) (some 88) rfl rfl (by kernel_rfl) (by kernel_rfl) (by kernel_rfl) (fun _ _ _ h => h) (Or.inl ⟨by rfl, (by intro W9 hSw; (try dsimp only at hSw); go_simp; first | done | with_reducible rfl)⟩) (by assumption) ?_
              simp only [Act.put, List.setIfInBounds_toArray, List.set_cons_zero, List.set_cons_succ]
              refine wpAnyH_takes (i := 8) (v := (.bool false)) (some 89) rfl rfl (by kernel_rfl) (by kernel_rfl) (by kernel_rfl) (fun _ _ _ h => h) (Or.inl ⟨by rfl, (by intro W9 hSw; (try dsimp only at hSw); go_simp; first | done | with_reducible rfl)⟩) (by assumption) ?_
              simp only [Act.put, List.setIfInBounds_toArray, List.set_cons_zero, List.set_cons_succ]
              refine wpAnyH_takes (i := 9) (v := (.bool false)) (some 90) rfl rfl (by kernel_rfl) (by kernel_rfl) (by kernel_rfl) (fun _ _ _ h => h) (Or.inl ⟨by rfl, (by intro W9 hSw; (try dsimp only at hSw); go_simp; first | done | with_reducible rfl)⟩) (by assumption) ?_
              simp only [Act.put, List.setIfInBounds_toArray, List.set_cons_zero, List.set_cons_succ]
              refine wpAnyH_takes (i := 10) (v := (.bool true)) (some 91) rfl rfl (by kernel_rfl) (by kernel_rfl) (by kernel_rfl) (fun _ _ _ h => h) (Or.inl ⟨by rfl, (by intro W9 hSw; (try dsimp only at hSw); go_simp; first | done | with_reducible rfl)⟩) (by assumption) ?_
              simp only [Act.put, List.setIfInBounds_toArray, List.set_cons_zero, List.set_cons_succ]
              refine wpAnyH_takes (i := 11) (v := (.bool true)) (some 92) rfl rfl (by kernel_rfl) (by kernel_rfl) (by kernel_rfl) (fun _ _ _ h => h) (Or.inl ⟨by rfl, (by intro W9 hSw; (try dsimp only at hSw); go_simp; first | done | with_reducible rfl)⟩) (by assumption) ?_
              simp only [Act.put, List.setIfInBounds_toArray, List.set_cons_zero, List.set_cons_succ]
              refine wpAnyH_takes (i := 12) (v := (.int .i64 0)) (some 93) rfl rfl (by kernel_rfl) (by kernel_rfl) (by kernel_rfl) (fun _ _ _ h => h) (Or.inl ⟨by rfl, (by intro W9 hSw; (try dsimp only at hSw); go_simp; first | done | with_reducible rfl)⟩) (by assumption) ?_
              simp only [Act.put, List.setIfInBounds_toArray, List.set_cons_zero, List.set_cons_succ]
              refine wpAnyH_takes (i := 13) (v := (.bool true)) (some 94) rfl rfl (by kernel_rfl) (by kernel_rfl) (by kernel_rfl) (fun _ _ _ h => h) (Or.inl ⟨by rfl, (by intro W9 hSw; (try dsimp only at hSw); go_simp; first | done | with_reducible rfl)⟩) (by assumption) ?_
              simp only [Act.put, List.setIfInBounds_toArray, List.set_cons_zero, List.set_cons_succ]
              refine wpAnyH_takes (i := 14) (v := (.bool true)) (some 95) rfl rfl (by kernel_rfl) (by kernel_rfl) (by kernel_rfl) (fun _ _ _ h => h) (Or.inl ⟨by rfl, (by intro W9 hSw; (try dsimp only at hSw); go_simp; first | done | with_reducible rfl)⟩) (by assumption) ?_
              simp only [Act.put, List.setIfInBounds_toArray, List.set_cons_zero, List.set_cons_succ]
              refine wpAnyH_takes (i := 15) (v := (.bool true)) (some 96) rfl rfl (by kernel_rfl) (by kernel_rfl) (by kernel_rfl) (fun _ _ _ h => h) (Or.inl ⟨by rfl, (by intro W9 hSw; (try dsimp only at hSw); go_simp; first | done | with_reducible rfl)⟩) (by assumption) ?_
              simp only [Act.put, List.setIfInBounds_toArray, List.set_cons_zero, List.set_cons_succ]
              refine wpAnyH_takes (i := 16) (v := (.agg #[.int .i64 y7, .slice A7 0 c7])) (some 97) rfl rfl (by kernel_rfl) (by kernel_rfl) (by kernel_rfl) (fun _ _ _ h => h) (Or.inl ⟨by rfl, (by intro W9 hSw; (try dsimp only at hSw); go_simp; first | done | with_reducible rfl)⟩) (by assumption) ?_
              simp only [Act.put, List.setIfInBounds_toArray, List.set_cons_zero, List.set_cons_succ]
              refine wpAnyH_takes (i := 18) (v := (.agg #[.int .i64 y7, .slice A 0 c])) (some 99) rfl rfl (by kernel_rfl) (by kernel_rfl) (by kernel_rfl) (fun _ _ _ h => h) (Or.inl ⟨by rfl, (by intro W9 hSw; (try dsimp only at hSw); go_simp; first | done | with_reducible rfl)⟩) (by assumption) ?_
              simp only [Act.put, List.setIfInBounds_toArray, List.set_cons_zero, List.set_cons_succ]
              refine wpAnyH_ready (rs := [17]) (by kernel_rfl) (by simp) ?_
              refine AllReadyH.cons rfl (fun K hK => ?_) AllReadyH.nil
              go_simp
              go_at_call_of 15 (Value.slice A7 0 c7)
              refine (real_any y7 A7 0 c7 [] _ (I7.out.row.below bz)).mono ?_
              rintro e v3 ⟨Ar, nr, cr, rfl, hr1, hbX⟩
              have b1 := held_trans bz hbX
              refine hK.out _ _ ?_ (fun hHeld => ?_)
              · go_split_ands
                exact ⟨keepcell hbX (by assumption), keepcell hbX (by assumption), keepcell hbX (by assumption), keepcell hbX (by assumption)⟩
              clear hK K
              try dsimp only
              refine wpAnyH_ready (rs := [19]) (by kernel_rfl) (by simp) ?_
              refine AllReadyH.cons rfl (fun K hK => ?_) AllReadyH.nil
              go_simp
              go_at_call_of 14 (Value.slice A 0 c)
              refine (same_row y7 y7 Ar A nr 0 cr c [] [] _ rfl rfl hr1 (I0.out.row.below b1)).mono ?_
              rintro e v4 ⟨rfl, hbX⟩
              have b2 := held_trans b1 hbX
              refine hK.out _ _ ?_ (fun hHeld => ?_)
              · go_split_ands
                exact ⟨keepcell hbX (by assumption), keepcell hbX (by assumption), keepcell hbX (by assumption), keepcell hbX (by assumption)⟩
              clear hK K
              try dsimp only
              refine wpAnyH_takes (i := 20) (v := (.bool true)) (some 101) rfl rfl (by kernel_rfl) (by kernel_rfl) (by kernel_rfl) (fun _ _ _ h => h) (Or.inl ⟨by rfl, (by intro W9 hSw; (try dsimp only at hSw); go_simp; first | done | with_reducible rfl)⟩) (by assumption) ?_
              simp only [Act.put, List.setIfInBounds_toArray, List.set_cons_zero, List.set_cons_succ]
              refine wpAnyH_takes (i := 21) (v := (.bool true)) (some 102) rfl rfl (by kernel_rfl) (by kernel_rfl) (by kernel_rfl) (fun _ _ _ h => h) (Or.inl ⟨by rfl, (by intro W9 hSw; (try dsimp only at hSw); go_simp; first | done | with_reducible rfl)⟩) (by assumption) ?_
              simp only [Act.put, List.setIfInBounds_toArray, List.set_cons_zero, List.set_cons_succ]
              refine wpAnyH_takes (i := 22) (v := (.bool true)) (some 103) rfl rfl (by kernel_rfl) (by kernel_rfl) (by kernel_rfl) (fun _ _ _ h => h) (Or.inl ⟨by rfl, (by intro W9 hSw; (try dsimp only at hSw); go_simp; first | done | with_reducible rfl)⟩) (by assumption) ?_
              simp only [Act.put, List.setIfInBounds_toArray, List.set_cons_zero, List.set_cons_succ]
              refine wpAnyH_takes (i := 23) (v := (.bool true)) (some 104) rfl rfl (by kernel_rfl) (by kernel_rfl) (by kernel_rfl) (fun _ _ _ h => h) (Or.inl ⟨by rfl, (by intro W9 hSw; (try dsimp only at hSw); go_simp; first | done | with_reducible rfl)⟩) (by assumption) ?_
              simp only [Act.put, List.setIfInBounds_toArray, List.set_cons_zero, List.set_cons_succ]
              refine wpAnyH_takes (i := 24) (v := (.bool true)) (some 105) rfl rfl (by kernel_rfl) (by kernel_rfl) (by kernel_rfl) (fun _ _ _ h => h) (Or.inl ⟨by rfl, (by intro W9 hSw; (try dsimp only at hSw); go_simp; first | done | with_reducible rfl)⟩) (by assumption) ?_
              simp only [Act.put, List.setIfInBounds_toArray, List.set_cons_zero, List.set_cons_succ]
              refine wpAnyH_takes (i := 25) (v := (.bool true)) (some 106) rfl rfl (by kernel_rfl) (by kernel_rfl) (by kernel_rfl) (fun _ _ _ h => h) (Or.inl ⟨by rfl, (by intro W9 hSw; (try dsimp only at hSw); go_simp; first | done | with_reducible rfl)⟩) (by assumption) ?_
              simp only [Act.put, List.setIfInBounds_toArray, List.set_cons_zero, List.set_cons_succ]
              refine wpAnyH_takes (i := 26) (v := undef) (some 107) rfl rfl (by kernel_rfl) (by kernel_rfl) (by kernel_rfl) (fun _ _ _ h => h) (Or.inr ⟨by rfl, rfl⟩) (by assumption) ?_
              simp only [Act.put, List.setIfInBounds_toArray, List.set_cons_zero, List.set_cons_succ]
              refine wpAnyH_takes (i := 27) (v := undef) (some 108) rfl rfl (by kernel_rfl) (by kernel_rfl) (by kernel_rfl) (fun _ _ _ h => h) (Or.inr ⟨by rfl, rfl⟩) (by assumption) ?_
              simp only [Act.put, List.setIfInBounds_toArray, List.set_cons_zero, List.set_cons_succ]
              refine wpAnyH_takes (i := 28) (v := undef) (some 109) rfl rfl (by kernel_rfl) (by kernel_rfl) (by kernel_rfl) (fun _ _ _ h => h) (Or.inr ⟨by rfl, rfl⟩) (by assumption) ?_
              simp only [Act.put, List.setIfInBounds_toArray, List.set_cons_zero, List.set_cons_succ]
              refine wpAnyH_takes (i := 29) (v := undef) (some 110) rfl rfl (by kernel_rfl) (by kernel_rfl) (by kernel_rfl) (fun _ _ _ h => h) (Or.inr ⟨by rfl, rfl⟩) (by assumption) ?_
              simp only [Act.put, List.setIfInBounds_toArray, List.set_cons_zero, List.set_cons_succ]
              refine wpAnyH_takes (i := 30) (v := undef) (some 111) rfl rfl (by kernel_rfl) (by kernel_rfl) (by kernel_rfl) (fun _ _ _ h => h) (Or.inr ⟨by rfl, rfl⟩) (by assumption) ?_
              simp only [Act.put, List.setIfInBounds_toArray, List.set_cons_zero, List.set_cons_succ]
              refine wpAnyH_takes (i := 31) (v := undef) (some 112) rfl rfl (by kernel_rfl) (by kernel_rfl) (by kernel_rfl) (fun _ _ _ h => h) (Or.inr ⟨by rfl, rfl⟩) (by assumption) ?_
              simp only [Act.put, List.setIfInBounds_toArray, List.set_cons_zero, List.set_cons_succ]
              refine wpAnyH_takes (i := 32) (v := undef) (some 113) rfl rfl (by kernel_rfl) (by kernel_rfl) (by kernel_rfl) (fun _ _ _ h => h) (Or.inr ⟨by rfl, rfl⟩) (by assumption) ?_
              simp only [Act.put, List.setIfInBounds_toArray, List.set_cons_zero, List.set_cons_succ]
              refine wpAnyH_takes (i := 33) (v := undef) (some 114) rfl rfl (by kernel_rfl) (by kernel_rfl) (by kernel_rfl) (fun _ _ _ h => h) (Or.inr ⟨by rfl, rfl⟩) (by assumption) ?_
              simp only [Act.put, List.setIfInBounds_toArray, List.set_cons_zero, List.set_cons_succ]
              refine wpAnyH_takes (i := 34) (v := undef) (some 115) rfl rfl (by kernel_rfl) (by kernel_rfl) (by kernel_rfl) (fun _ _ _ h => h) (Or.inr ⟨by rfl, rfl⟩) (by assumption) ?_
              simp only [Act.put, List.setIfInBounds_toArray, List.set_cons_zero, List.set_cons_succ]
              refine wpAnyH_takes (i := 35) (v := undef) (some 116) rfl rfl (by kernel_rfl) (by kernel_rfl) (by kernel_rfl) (fun _ _ _ h => h) (Or.inr ⟨by rfl, rfl⟩) (by assumption) ?_
              simp only [Act.put, List.setIfInBounds_toArray, List.set_cons_zero, List.set_cons_succ]
              refine wpAnyH_takes (i := 36) (v := undef) (some 117) rfl rfl (by kernel_rfl) (by kernel_rfl) (by kernel_rfl) (fun _ _ _ h => h) (Or.inr ⟨by rfl, rfl⟩) (by assumption) ?_
              simp only [Act.put, List.setIfInBounds_toArray, List.set_cons_zero, List.set_cons_succ]
              refine wpAnyH_takes (i := 37) (v := undef) (some 118) rfl rfl (by kernel_rfl) (by kernel_rfl) (by kernel_rfl) (fun _ _ _ h => h) (Or.inr ⟨by rfl, rfl⟩) (by assumption) ?_
              simp only [Act.put, List.setIfInBounds_toArray, List.set_cons_zero, List.set_cons_succ]
              refine wpAnyH_takes (i := 38) (v := undef) (some 119) rfl rfl (by kernel_rfl) (by kernel_rfl) (by kernel_rfl) (fun _ _ _ h => h) (Or.inr ⟨by rfl, rfl⟩) (by assumption) ?_
              simp only [Act.put, List.setIfInBounds_toArray, List.set_cons_zero, List.set_cons_succ]
              refine wpAnyH_takes (i := 39) (v := undef) (some 120) rfl rfl (by kernel_rfl) (by kernel_rfl) (by kernel_rfl) (fun _ _ _ h => h) (Or.inr ⟨by rfl, rfl⟩) (by assumption) ?_
              simp only [Act.put, List.setIfInBounds_toArray, List.set_cons_zero, List.set_cons_succ]
              refine wpAnyH_takes (i := 40) (v := (.bool true)) (some 121) rfl rfl (by kernel_rfl) (by kernel_rfl) (by kernel_rfl) (fun _ _ _ h => h) (Or.inl ⟨by rfl, (by intro W9 hSw; (try dsimp only at hSw); go_simp; first | done | with_reducible rfl)⟩) (by assumption) ?_
              simp only [Act.put, List.setIfInBounds_toArray, List.set_cons_zero, List.set_cons_succ]
              refine wpAnyH_takes (i := 41) (v := (.bool true)) (some 122) rfl rfl (by kernel_rfl) (by kernel_rfl) (by kernel_rfl) (fun _ _ _ h => h) (Or.inl ⟨by rfl, (by intro W9 hSw; (try dsimp only at hSw); go_simp; first | done | with_reducible rfl)⟩) (by assumption) ?_
              simp only [Act.put, List.setIfInBounds_toArray, List.set_cons_zero, List.set_cons_succ]
              refine wpAnyH_takes (i := 42) (v := (.bool true)) (some 4) rfl rfl (by kernel_rfl) (by kernel_rfl) (by kernel_rfl) (fun _ _ _ h => h) (Or.inl ⟨by rfl, (by intro W9 hSw; (try dsimp only at hSw); go_simp; first | done | with_reducible rfl)⟩) (by assumption) ?_
              simp only [Act.put, List.setIfInBounds_toArray, List.set_cons_zero, List.set_cons_succ]
              refine wpAnyH_done (by kernel_rfl) ?_ _
              have HB := Lib.hid (L.out.step b2).b
              clear a0 a1 a2 a3 bz b1 b2 hr1 hbX hHeld p0 p1
              go_wp2_with fail
              go_ret
              exact ⟨rfl, HB.out⟩
        · obtain ⟨z, t, rfl⟩ : ∃ z t, zs = z :: t := by cases zs with | nil => exact absurd hlen.out.symm hz | cons z t => exact ⟨z, t, rfl⟩
          obtain ⟨rfl, rfl⟩ := many_in (by have := HM.out.2.2.1; simpa using this) E4.out E5.out E6.out
          have z1 : ((n : Int) == 0) = false := by rw [beq_eq_false_iff_ne]; omega
          have z2 : (b6 == b6) = true := by simp
          have z3 : (0 : Int) < (n : Int) := by omega
          obtain ⟨b, off, rfl, hbk, hcs⟩ := I0.out.row.cells (by omega)
          have hc0 := hcs 0 b6 rfl
          rw [Nat.add_zero] at hc0
          clear hcs E4 E5 E6 E7
          go_wp2_with fail
          go_quiet (fail)
          go_wp2_with fail
          go_quiet (fail)
          go_wp2_with fail
          go_ret
          exact ⟨rfl, below_drewN (below_drewN L.out.b _) _⟩
    · rw [decide_eq_false hm]
      clear hm
      go_wp2_with fail
      go_ret
      exact ⟨rfl, B2.out⟩
set_option maxRecDepth 100000 in
theorem lifted (os : Os) (started : os.Started) (H : Type) (enc : TypeId × Value → H) :
    ReturnsInHanded {} Try.checked os 4 .any (Rows.semBackSpec.pre6 enc Try.prog Try.f4 Rows.semBackRow.domain false) (Rows.semBackSpec.post enc Try.prog Try.f4 false true false false) := by
  refine returnsInHanded_of_change (C := Try.checked) own started (by kernel_rfl) Try.func4
    (ChangeSpec.witness6 (enc := enc) (C := Try.checked) false ⟨#[], #[.agg #[.int .i64 0, .slice none 0 0], .int .i64 0], []⟩ 8 (by kernel_rfl) (by kernel_rfl) (by kernel_rfl) (by kernel_rfl)) ?_
  intro W base args ds gs before hval0 hW hcnd _
  have hval : ∀ (j : Nat) t v, Try.f4.params[j]? = some t → args[j]? = some v → Value.okWide Try.prog W .any base t v := hval0
  have hW' := hW
  obtain ⟨p, q, hA0, hV, rfl, hfz, hnd⟩ := hW
  have hA : DataW.TrodAll enc Try.prog W 0 (fun _ => true) true Try.f4.params.toList args.toList ds p := hA0
  rw [Try.params4] at hA hval
  obtain ⟨v0, vs0, d0, ds0, p0, q0, hargs, rfl, rfl, h0, r0⟩ := trodAll_cons hA
  obtain ⟨v1, vs1, d1, ds1, p1, q1, rfl, rfl, rfl, h1, r1⟩ := trodAll_cons r0
  obtain ⟨rfl, rfl, rfl⟩ := trodAll_nil r1
  obtain rfl : args = #[v0, v1] := by cases args; simp_all
  obtain ⟨rfl, rfl⟩ := trodVars_none hV
  have k0 := h0
  have lt0 : ∀ x ∈ p0, x.block < W.heap.size := by obtain ⟨m, hm⟩ := k0; exact DataW.trod_lt m _ _ _ hm
  obtain ⟨x0, a0, len0, cap0, z0, rfl, hr0⟩ := open_sem (hval 0 34 v0 rfl rfl) h0
  obtain ⟨a1, rfl, rfl, rfl, w1⟩ := open_int Try.underlying3 (hval 1 3 v1 rfl rfl) h1
  clear hA0 hval0
  refine (walk x0 a0 len0 cap0 z0 a1 W hr0).mono fun e W' ⟨he, bel⟩ => ?_
  subst he
  exact ⟨_, rfl, _, _, _, [], _, [], hW', trodAll_mk1 (shut_bool Try.underlying4 _), (trodAll_cons_mk (Below.trod laidOut (by kernel_rfl) (of_decide_eq_true (by kernel_rfl)) k0 bel lt0) (trodAll_cons_mk (shut_int Try.underlying3 w1) trodAll_mk0)), rfl, bel.frame _, fun h => by cases h⟩
theorem over : Rows.semBackRow.holds Try.pinned (OpenSpec.ofChange Rows.semBackSpec) :=
  OpenClaim.holds_of_wide 4 Try.f4 rfl rfl rfl rfl rfl rfl rfl ⟨rfl, rfl, rfl, rfl, rfl⟩ rfl rfl rfl rfl rfl (by kernel_rfl) Try.func4 (by kernel_rfl)
    (of_decide_eq_true (by kernel_rfl)) (by unfold Func.isWrapper; first | (rw [if_pos (by decide +kernel)]; kernel_rfl) | (rw [if_neg (by decide +kernel)]; exact ⟨rfl, rfl⟩))
    (fun os started H enc _ => lifted os started H enc)
theorem proved : Rows.SemBackSaid := over
end Go.Proofs.Ytlcgadcbeoljbaa.semBack

