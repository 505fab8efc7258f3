/- box.May, by its contract: all who wait, sorted; the least is above 0, and none is struck out as one that is there twice. -/
import Derived.Test.YtjpnfjiccckaiaaOWait
import Derived.Test.YtjpnfjiccckaiaaRSort
namespace Go.Proofs.Ytjpnfjiccckaiaa
open Go.RowKit Go.Sort
open Mp (Bo)
set_option linter.unusedVariables false

theorem int_eq_dec (a b : Nat) : ((a : Int) == (b : Int)) = decide (a = b) := by
  rw [Bool.eq_iff_iff, beq_iff_eq, decide_eq_true_iff]
  omega
set_option maxHeartbeats 3200000 in
theorem may_any (b : Bo) (A B C : Option Addr) (n1 n2 n3 c1 c2 c3 : Nat) (w : World) (h : Tri w A n1 c1 B n2 c2 C n3 c3 b) (h1 : n1 ≤ 100000) (h2 : n2 ≤ 100000) (h3 : n3 ≤ 100000) :
    Calls Try.prog 11 #[.agg #[.int .i64 b.room, .slice A n1 c1, .slice B n2 c2, .slice C n3 c3]] w fun e w' => e = .returned (.bool (decide (Mp.May b))) ∧ Below w.heap.size w w' := by
  obtain ⟨room, msgs, send, recv⟩ := b
  obtain ⟨w0, hw0⟩ : ∃ w0, w0 = w.alloc (.cells #[.int .i64 room, .slice A n1 c1, .slice B n2 c2, .slice C n3 c3] 31) := ⟨_, rfl⟩
  have B0 := Lib.hid (show Below w.heap.size w w0 by rw [hw0]; exact below_new w _)
  have hQ : Q4 w0 w.heap.size (.int .i64 room) (.slice A n1 c1) (.slice B n2 c2) (.slice C n3 c3) := by rw [hw0]; exact Q4.new _ _ _ _ _ _
  have p0 := hQ.c0
  have p1 := hQ.c1
  have p2 := hQ.c2
  have p3 := hQ.c3
  have hl1 : msgs.length = n1 := h.m.len
  have hl2 : send.length = n2 := h.s.len
  have hl3 : recv.length = n3 := h.r.len
  have H := Lib.hid (h.step B0.out)
  have E0 := Lib.hid hw0
  have h23 := Lib.hid (And.intro h2 h3)
  clear h hw0 hQ h2 h3
  by_cases g0 : room < 0
  · have t0 : decide (room < 0) = true := by simpa using g0
    have HF := Lib.hid (show decide (Mp.May ⟨room, msgs, send, recv⟩) = false from decide_eq_false fun ⟨⟨g0, g1, g2, g3, g4⟩, _⟩ => by
      simp only at g0 g1 g2 g3 g4
      first
        | omega
        | (rcases g3 with g3 | g3
           · subst g3; simp at hl2; omega
           · omega)
        | (rcases g4 with g4 | ⟨g4, g5⟩
           · subst g4; simp at hl3; omega
           · subst g4 g5; simp at hl1 hl2; omega))
    go_enter Try.func11, Try.ntmps11
    go_wp2_with fail
    rw [← E0.out]
    clear E0
    go_ret
    exact ⟨ret_bool HF.out.symm, B0.out⟩
  · have t0 : decide (room < 0) = false := by simpa using g0
    by_cases g1 : 8 < room
    · have t1 : decide (8 < room) = true := by simpa using g1
      have HF := Lib.hid (show decide (Mp.May ⟨room, msgs, send, recv⟩) = false from decide_eq_false fun ⟨⟨g0, g1, g2, g3, g4⟩, _⟩ => by
        simp only at g0 g1 g2 g3 g4
        first
          | omega
          | (rcases g3 with g3 | g3
             · subst g3; simp at hl2; omega
             · omega)
          | (rcases g4 with g4 | ⟨g4, g5⟩
             · subst g4; simp at hl3; omega
             · subst g4 g5; simp at hl1 hl2; omega))
      go_enter Try.func11, Try.ntmps11
      go_wp2_with fail
      rw [← E0.out]
      clear E0
      go_ret
      exact ⟨ret_bool HF.out.symm, B0.out⟩
    · have t1 : decide (8 < room) = false := by simpa using g1
      by_cases g2 : room < (n1 : Int)
      · have t2 : decide (room < (n1 : Int)) = true := by simpa using g2
        have HF := Lib.hid (show decide (Mp.May ⟨room, msgs, send, recv⟩) = false from decide_eq_false fun ⟨⟨g0, g1, g2, g3, g4⟩, _⟩ => by
          simp only at g0 g1 g2 g3 g4
          first
            | omega
            | (rcases g3 with g3 | g3
               · subst g3; simp at hl2; omega
               · omega)
            | (rcases g4 with g4 | ⟨g4, g5⟩
               · subst g4; simp at hl3; omega
               · subst g4 g5; simp at hl1 hl2; omega))
        go_enter Try.func11, Try.ntmps11
        go_wp2_with fail
        rw [← E0.out]
        clear E0
        go_ret
        exact ⟨ret_bool HF.out.symm, B0.out⟩
      · have t2 : decide (room < (n1 : Int)) = false := by simpa using g2
        by_cases g3 : n2 < 1
        · have t3 : decide ((0 : Int) < (n2 : Int)) = false := by simp; omega
          by_cases g4 : n3 < 1
          · have t4 : decide ((0 : Int) < (n3 : Int)) = false := by simp; omega
            have HF := Lib.hid (show decide (Mp.May ⟨room, msgs, send, recv⟩) = true by
              obtain rfl : send = [] := List.length_eq_zero_iff.1 (by omega)
              obtain rfl : recv = [] := List.length_eq_zero_iff.1 (by omega)
              exact decide_eq_true ⟨⟨by simp only; omega, by simp only; omega, by simp only; omega, .inl rfl, .inl rfl⟩, ⟨fun x hx => by simp [Mp.who] at hx, by simp [Mp.who]⟩⟩)
            go_enter Try.func11, Try.ntmps11
            go_wp2_with fail
            rw [← E0.out]
            clear E0
            refine (waiting_own ⟨room, msgs, send, recv⟩ A B C n1 n2 n3 c1 c2 c3 _ H.out h23.out.1 h23.out.2).mono ?_
            rintro e w1 ⟨v1, rfl, ho1, hb1⟩
            have hbe1 := Lib.hid (B0.out.trans (hb1.mono B0.out.size))
            have hs0 : w.heap.size ≤ w0.heap.size := B0.out.size
            have O1 := Lib.hid (own_base ho1 hs0)
            have L1 := Lib.hid (own_len ho1)
            clear hb1 ho1 hs0
            obtain ⟨A1, d1, hv⟩ := own_form O1.out
            subst hv
            have N0 : n3 + n2 = 0 := by omega
            rw [N0]
            go_wp2_with fail
            refine (Any.slices_Sort_int_none (P := Try.prog) laysSort A1 d1 _).mono ?_
            rintro e w2 ⟨rfl, rfl⟩
            go_wp2_with fail
            go_ret
            exact ⟨ret_bool HF.out.symm, hbe1.out⟩
          · have t4 : decide ((0 : Int) < (n3 : Int)) = true := by simp; omega
            have s5 : IntKind.i64.wrap ((n1 : Int) + (n2 : Int)) = (n1 : Int) + (n2 : Int) := IntWalk.i64_in _ (by have := h23.out; omega)
            by_cases g5 : n1 < 1
            · have t5 : decide ((0 : Int) < (n1 : Int) + (n2 : Int)) = false := by simp; omega
              have hx : send = [] ∨ ¬ (msgs.length : Int) < room := .inl (List.length_eq_zero_iff.1 (by omega))
              have hy : recv = [] ∨ msgs = [] ∧ send = [] := .inr ⟨List.length_eq_zero_iff.1 (by omega), List.length_eq_zero_iff.1 (by omega)⟩
              have HM := Lib.hid (show decide (Mp.May ⟨room, msgs, send, recv⟩) = decide (Rp.Once (recv ++ send.map Prod.fst)) from decide_eq_decide.2 ⟨fun h => h.2.perm List.perm_append_comm, fun h => ⟨⟨by simp only; omega, by simp only; omega, by simp only; omega, hx, hy⟩, h.perm List.perm_append_comm⟩⟩)
              clear hx hy
              go_enter Try.func11, Try.ntmps11
              go_wp2_with fail
              rw [← E0.out]
              clear E0
              refine (waiting_own ⟨room, msgs, send, recv⟩ A B C n1 n2 n3 c1 c2 c3 _ H.out h23.out.1 h23.out.2).mono ?_
              rintro e w1 ⟨v1, rfl, ho1, hb1⟩
              have hbe1 := Lib.hid (B0.out.trans (hb1.mono B0.out.size))
              have hs0 : w.heap.size ≤ w0.heap.size := B0.out.size
              have O1 := Lib.hid (own_base ho1 hs0)
              have L1 := Lib.hid (own_len ho1)
              clear hb1 ho1 hs0
              obtain ⟨N, hN⟩ : ∃ N, N = n3 + n2 := ⟨_, rfl⟩
              obtain ⟨l, hl⟩ : ∃ l, l = recv ++ send.map Prod.fst := ⟨_, rfl⟩
              have HN := Lib.hid hN
              have HL := Lib.hid hl
              rw [← hN, ← hl] at O1 L1
              have hN0 : 0 < N := by omega
              have hNm := h23.out
              have hN1 : N ≤ 200000 := by omega
              clear hN hl hNm
              obtain ⟨g, cap, hv, hbg, hlg, hnc, hcm, _, _⟩ := Lib.holds_of_ownsRow O1.out (by
                intro e
                rcases O1.out.2 with ⟨_, h9⟩ | ⟨g9, c9, cur9, e9, _⟩
                · omega
                · rw [e9] at e; cases e)
              subst hv
              obtain ⟨z, hz⟩ : ∃ z, (sorted l)[0]? = some z := ⟨_, List.getElem?_eq_getElem (by rw [sorted_length, L1.out]; exact hN0)⟩
              have HF := Lib.hid (show decide (Mp.May ⟨room, msgs, send, recv⟩) = (decide (0 < z) && decide ((Lib.compact (sorted l)).length = N)) by
                have h9 := once_sorted l z hz
                rw [L1.out] at h9
                rw [h9, HM.out, HL.out])
              have HZ := Lib.hid hz
              clear hz
              go_wp2_with fail
              refine (sort_own g N cap l _ w.heap.size O1.out (by omega)).mono ?_
              rintro e w2 ⟨rfl, hH2, hlg2, hb2⟩
              have hbe2 := Lib.hid (hbe1.out.trans hb2)
              have hc2 : w2.cell? ⟨g, 0, none⟩ = some (.int .i64 z) := by
                have h8 := (hH2 0 (by simp [sorted_length, L1.out]; omega)).1
                rw [show (sorted l).toArray[0]! = z from by
                  obtain ⟨h7, e7⟩ := List.getElem?_eq_some_iff.1 HZ.out
                  rw [getElem!_pos _ _ (by simpa using h7)]
                  simpa using e7] at h8
                simpa using h8
              have HH := Lib.hid hH2
              have n0 : ((N : Int) == 0) = false := by rw [beq_eq_false_iff_ne]; omega
              have n3' : (0 : Int) < (N : Int) := by omega
              clear hH2 hb2
              by_cases hp : 0 < z
              · have p1 : decide (0 < z) = true := by simpa using hp
                go_wp2_with fail
                refine (compact_own g N cap (sorted l) _ (by rw [sorted_length]; exact L1.out) HH.out (by omega) (by omega)).mono ?_
                rintro e w3 ⟨rfl, hb3⟩
                have hbe3 := Lib.hid (hbe2.out.trans (hb3 _ hbg))
                obtain ⟨q, hq⟩ : ∃ q, q = (Lib.compact (sorted l)).length := ⟨_, rfl⟩
                rw [p1, Bool.true_and, ← hq] at HF
                rw [← hq]
                clear hq hb3
                go_wp2_with fail
                go_ret
                exact ⟨ret_bool (by rw [HF.out]; exact int_eq_dec q N), hbe3.out⟩
              · have p1 : decide (0 < z) = false := by simpa using hp
                rw [p1, Bool.false_and] at HF
                go_wp2_with fail
                go_ret
                exact ⟨ret_bool HF.out.symm, hbe2.out⟩
            · have t5 : decide ((0 : Int) < (n1 : Int) + (n2 : Int)) = true := by simp; omega
              have HF := Lib.hid (show decide (Mp.May ⟨room, msgs, send, recv⟩) = false from decide_eq_false fun ⟨⟨g0, g1, g2, g3, g4⟩, _⟩ => by
                simp only at g0 g1 g2 g3 g4
                first
                  | omega
                  | (rcases g3 with g3 | g3
                     · subst g3; simp at hl2; omega
                     · omega)
                  | (rcases g4 with g4 | ⟨g4, g5⟩
                     · subst g4; simp at hl3; omega
                     · subst g4 g5; simp at hl1 hl2; omega))
              go_enter Try.func11, Try.ntmps11
              go_wp2_with fail
              rw [← E0.out]
              clear E0
              go_ret
              exact ⟨ret_bool HF.out.symm, B0.out⟩
        · have t3 : decide ((0 : Int) < (n2 : Int)) = true := by simp; omega
          by_cases g4 : (n1 : Int) < room
          · have t4 : decide ((n1 : Int) < room) = true := by simpa using g4
            have HF := Lib.hid (show decide (Mp.May ⟨room, msgs, send, recv⟩) = false from decide_eq_false fun ⟨⟨g0, g1, g2, g3, g4⟩, _⟩ => by
              simp only at g0 g1 g2 g3 g4
              first
                | omega
                | (rcases g3 with g3 | g3
                   · subst g3; simp at hl2; omega
                   · omega)
                | (rcases g4 with g4 | ⟨g4, g5⟩
                   · subst g4; simp at hl3; omega
                   · subst g4 g5; simp at hl1 hl2; omega))
            go_enter Try.func11, Try.ntmps11
            go_wp2_with fail
            rw [← E0.out]
            clear E0
            go_ret
            exact ⟨ret_bool HF.out.symm, B0.out⟩
          · have t4 : decide ((n1 : Int) < room) = false := by simpa using g4
            by_cases g5 : n3 < 1
            · have t5 : decide ((0 : Int) < (n3 : Int)) = false := by simp; omega
              have hx : send = [] ∨ ¬ (msgs.length : Int) < room := .inr (by omega)
              have hy : recv = [] ∨ msgs = [] ∧ send = [] := .inl (List.length_eq_zero_iff.1 (by omega))
              have HM := Lib.hid (show decide (Mp.May ⟨room, msgs, send, recv⟩) = decide (Rp.Once (recv ++ send.map Prod.fst)) from decide_eq_decide.2 ⟨fun h => h.2.perm List.perm_append_comm, fun h => ⟨⟨by simp only; omega, by simp only; omega, by simp only; omega, hx, hy⟩, h.perm List.perm_append_comm⟩⟩)
              clear hx hy
              go_enter Try.func11, Try.ntmps11
              go_wp2_with fail
              rw [← E0.out]
              clear E0
              refine (waiting_own ⟨room, msgs, send, recv⟩ A B C n1 n2 n3 c1 c2 c3 _ H.out h23.out.1 h23.out.2).mono ?_
              rintro e w1 ⟨v1, rfl, ho1, hb1⟩
              have hbe1 := Lib.hid (B0.out.trans (hb1.mono B0.out.size))
              have hs0 : w.heap.size ≤ w0.heap.size := B0.out.size
              have O1 := Lib.hid (own_base ho1 hs0)
              have L1 := Lib.hid (own_len ho1)
              clear hb1 ho1 hs0
              obtain ⟨N, hN⟩ : ∃ N, N = n3 + n2 := ⟨_, rfl⟩
              obtain ⟨l, hl⟩ : ∃ l, l = recv ++ send.map Prod.fst := ⟨_, rfl⟩
              have HN := Lib.hid hN
              have HL := Lib.hid hl
              rw [← hN, ← hl] at O1 L1
              have hN0 : 0 < N := by omega
              have hNm := h23.out
              have hN1 : N ≤ 200000 := by omega
              clear hN hl hNm
              obtain ⟨g, cap, hv, hbg, hlg, hnc, hcm, _, _⟩ := Lib.holds_of_ownsRow O1.out (by
                intro e
                rcases O1.out.2 with ⟨_, h9⟩ | ⟨g9, c9, cur9, e9, _⟩
                · omega
                · rw [e9] at e; cases e)
              subst hv
              obtain ⟨z, hz⟩ : ∃ z, (sorted l)[0]? = some z := ⟨_, List.getElem?_eq_getElem (by rw [sorted_length, L1.out]; exact hN0)⟩
              have HF := Lib.hid (show decide (Mp.May ⟨room, msgs, send, recv⟩) = (decide (0 < z) && decide ((Lib.compact (sorted l)).length = N)) by
                have h9 := once_sorted l z hz
                rw [L1.out] at h9
                rw [h9, HM.out, HL.out])
              have HZ := Lib.hid hz
              clear hz
              go_wp2_with fail
              refine (sort_own g N cap l _ w.heap.size O1.out (by omega)).mono ?_
              rintro e w2 ⟨rfl, hH2, hlg2, hb2⟩
              have hbe2 := Lib.hid (hbe1.out.trans hb2)
              have hc2 : w2.cell? ⟨g, 0, none⟩ = some (.int .i64 z) := by
                have h8 := (hH2 0 (by simp [sorted_length, L1.out]; omega)).1
                rw [show (sorted l).toArray[0]! = z from by
                  obtain ⟨h7, e7⟩ := List.getElem?_eq_some_iff.1 HZ.out
                  rw [getElem!_pos _ _ (by simpa using h7)]
                  simpa using e7] at h8
                simpa using h8
              have HH := Lib.hid hH2
              have n0 : ((N : Int) == 0) = false := by rw [beq_eq_false_iff_ne]; omega
              have n3' : (0 : Int) < (N : Int) := by omega
              clear hH2 hb2
              by_cases hp : 0 < z
              · have p1 : decide (0 < z) = true := by simpa using hp
                go_wp2_with fail
                refine (compact_own g N cap (sorted l) _ (by rw [sorted_length]; exact L1.out) HH.out (by omega) (by omega)).mono ?_
                rintro e w3 ⟨rfl, hb3⟩
                have hbe3 := Lib.hid (hbe2.out.trans (hb3 _ hbg))
                obtain ⟨q, hq⟩ : ∃ q, q = (Lib.compact (sorted l)).length := ⟨_, rfl⟩
                rw [p1, Bool.true_and, ← hq] at HF
                rw [← hq]
                clear hq hb3
                go_wp2_with fail
                go_ret
                exact ⟨ret_bool (by rw [HF.out]; exact int_eq_dec q N), hbe3.out⟩
              · have p1 : decide (0 < z) = false := by simpa using hp
                rw [p1, Bool.false_and] at HF
                go_wp2_with fail
                go_ret
                exact ⟨ret_bool HF.out.symm, hbe2.out⟩
            · have t5 : decide ((0 : Int) < (n3 : Int)) = true := by simp; omega
              have s5 : IntKind.i64.wrap ((n1 : Int) + (n2 : Int)) = (n1 : Int) + (n2 : Int) := IntWalk.i64_in _ (by have := h23.out; omega)
              have t6 : decide ((0 : Int) < (n1 : Int) + (n2 : Int)) = true := by simp; omega
              have HF := Lib.hid (show decide (Mp.May ⟨room, msgs, send, recv⟩) = false from decide_eq_false fun ⟨⟨g0, g1, g2, g3, g4⟩, _⟩ => by
                simp only at g0 g1 g2 g3 g4
                first
                  | omega
                  | (rcases g3 with g3 | g3
                     · subst g3; simp at hl2; omega
                     · omega)
                  | (rcases g4 with g4 | ⟨g4, g5⟩
                     · subst g4; simp at hl3; omega
                     · subst g4 g5; simp at hl1 hl2; omega))
              go_enter Try.func11, Try.ntmps11
              go_wp2_with fail
              rw [← E0.out]
              clear E0
              go_ret
              exact ⟨ret_bool HF.out.symm, B0.out⟩
end Go.Proofs.Ytjpnfjiccckaiaa

