/- The document's May, by its contract. -/
import Derived.Test.YtjpnfjiccckaiaaOSame
namespace Go.Proofs.Ytjpnfjiccckaiaa
open Go.RowKit
open Mp (Bo)
set_option linter.unusedVariables false

/-- The first k of a row are above 0, each once. -/
theorem once_snoc {l : List Int} {k : Nat} {z : Int} (hz : l[k]? = some z) : Rp.Once (l.take (k + 1)) ↔ Rp.Once (l.take k) ∧ 1 ≤ z ∧ Tp.has (l.take k) z = false := by
  have e : l.take (k + 1) = l.take k ++ [z] := by rw [List.take_add_one, hz]; rfl
  have hh : Tp.has (l.take k) z = false ↔ z ∉ l.take k := by unfold Tp.has; rw [← Bool.not_eq_true, List.contains_iff_mem]
  rw [e, hh]
  constructor
  · intro h
    refine ⟨h.left, h.1 z (by simp), fun hm => ?_⟩
    exact (List.nodup_append.1 h.2).2.2 z hm z (by simp) rfl
  · rintro ⟨h1, h2, h3⟩
    exact h1.snoc h2 h3
theorem once_take {l : List Int} {k : Nat} (h : Rp.Once l) : Rp.Once (l.take k) := by
  have e : l = l.take k ++ l.drop k := (List.take_append_drop _ _).symm
  rw [e] at h
  exact h.left
theorem who_len (b : Bo) : (Mp.who b).length = b.send.length + b.recv.length := by simp [Mp.who]
set_option maxHeartbeats 3200000 in
theorem refMay_any (b : Bo) (A B C : Option Addr) (n1 n2 n3 c1 c2 c3 : Nat) (w : World) (h : Tri w A n1 c1 B n2 c2 C n3 c3 b) (h2 : n2 ≤ 100000) (h3 : n3 ≤ 100000) :
    Calls Try.prog 12 #[.agg #[.int .i64 b.room, .slice A n1 c1, .slice B n2 c2, .slice C n3 c3]] w fun e w' => e = .returned (.bool (decide (Mp.May b))) ∧ Below w.heap.size w w' := by
  obtain ⟨room, msgs, send, recv⟩ := b
  obtain ⟨w0, hw0⟩ : ∃ w0, w0 = w.alloc (.cells #[.int .i64 room, .slice A n1 c1, .slice B n2 c2, .slice C n3 c3] 26) := ⟨_, rfl⟩
  have B0 := Lib.hid (show Below w.heap.size w w0 by rw [hw0]; exact below_new w _)
  have hQ : Q4 w0 w.heap.size (.int .i64 room) (.slice A n1 c1) (.slice B n2 c2) (.slice C n3 c3) := by rw [hw0]; exact Q4.new _ _ _ _ _ _
  have Q0 := Lib.hid hQ
  have hl1 : msgs.length = n1 := h.m.len
  have hl2 : send.length = n2 := h.s.len
  have hl3 : recv.length = n3 := h.r.len
  have hcap2 := h.s.cap
  have hmost2 := h.s.most
  have H := Lib.hid (h.step B0.out)
  have E0 := Lib.hid hw0
  have h23 := Lib.hid (And.intro h2 h3)
  clear h hw0 hQ h2 h3
  go_enter Try.func12, Try.ntmps12
  go_wp2_with fail
  rw [← E0.out]
  clear E0
  have O0 := Lib.hid (World.ownsRow_nil w0 w0.heap.size 3 1)
  go_loopw [3, 4] (fun l i wr => ∃ k : Nat, k ≤ n2 ∧ i = .int .i64 k ∧ Hid (wr.ownsRow w0.heap.size 3 1 l k (((send.take k).map Prod.fst).map (Value.int .i64))) ∧ Hid (Below w0.heap.size w0 wr)) (fun _ i _ => n2 - (intOf i).toNat)
  case atStart => exact ⟨0, Nat.zero_le _, rfl, Lib.hid (by simpa using O0.out), Lib.hid (Below.refl _ _)⟩
  case round =>
    clear O0
    obtain ⟨k, hk, rfl, HO, HB⟩ := hrel
    have hQ := Q0.out.step HB.out
    have p0 := hQ.c0
    have p1 := hQ.c1
    have p2 := hQ.c2
    have p3 := hQ.c3
    clear hQ
    by_cases hlt : k < n2
    · obtain ⟨z, hzk⟩ : ∃ z, send[k]? = some z := ⟨_, List.getElem?_eq_getElem (by omega)⟩
      obtain ⟨b1, o1, rfl, hbk, hcs⟩ := (H.out.s.below HB.out).cells (by omega)
      obtain ⟨hck, hdk⟩ := hcs k z hzk
      have k0 : (0 : Int) ≤ (k : Int) := by omega
      have k1 : (k : Int) < (n2 : Int) := by omega
      have HT := Lib.hid (show ((send.take (k + 1)).map Prod.fst) = ((send.take k).map Prod.fst) ++ [z.1] by rw [List.take_add_one, hzk]; simp)
      have hN := below_new wr (.cells #[.int .i64 z.1] 3)
      have O2 := Lib.hid (own_below HO.out hN)
      have B2 := Lib.hid (HB.out.trans (hN.mono HB.out.size))
      have R2 := Lib.hid (row_at wr z.1 _ rfl)
      clear hN HO hcs hzk
      go_wp2_with (at_builtin; refine wpList_append_row rfl _ _ rfl w0.heap.size _ k _ rfl O2.out _ 1 1 [z.1] rfl R2.out (by have := h23.out; omega) B2.out.size ?_)
      intro v4 w4 ho4 hg4
      have O4 := Lib.hid (show w4.ownsRow w0.heap.size 3 1 v4 (k + 1) (((send.take (k + 1)).map Prod.fst).map (Value.int .i64)) by rw [HT.out]; simpa using ho4)
      have B4 := Lib.hid (B2.out.grown hg4 B2.out.size (fun j hj => (O2.out.lt j hj).1))
      clear ho4 hg4 O2 B2 R2 HB
      go_wp2_with fail
      go_roundw
      case rel => exact ⟨k + 1, by omega, by go_num, O4, B4⟩
      case measure => simp [intOf]; omega
    · obtain rfl : k = n2 := by omega
      rw [List.take_of_length_le (by omega)] at HO
      have HC := Lib.hid (H.out.r.below HB.out)
      go_wp2_with (at_builtin; refine wpList_append_row rfl _ _ rfl w0.heap.size _ k _ rfl HO.out C n3 c3 recv rfl HC.out (by have := h23.out; omega) HB.out.size ?_)
      intro v4 w4 ho4 hg4
      have O4 := Lib.hid (show w4.ownsRow w0.heap.size 3 1 v4 (k + n3) ((Mp.who ⟨room, msgs, send, recv⟩).map (Value.int .i64)) by unfold Mp.who; simpa using ho4)
      have B4 := Lib.hid (HB.out.grown hg4 HB.out.size (fun j hj => (HO.out.lt j hj).1))
      clear ho4 hg4 HB HO HC p0 p1 p2 p3
      obtain ⟨N, hN⟩ : ∃ N, N = k + n3 := ⟨_, rfl⟩
      rw [← hN] at O4
      have hNm : N ≤ 200000 := by have := h23.out; omega
      have HN := Lib.hid hN
      clear hN
      obtain ⟨l, hl⟩ : ∃ l, l = Mp.who ⟨room, msgs, send, recv⟩ := ⟨_, rfl⟩
      have HL := Lib.hid hl
      rw [← hl] at O4
      clear hl
      obtain ⟨A4, d4, rfl, R4, _⟩ := Row.of_own' O4.out
      have hlen := R4.len
      have hcap4 := R4.cap
      have hmost4 := R4.most
      have HR4 := Lib.hid R4
      clear R4 O4
      go_wp2_with fail
      go_loopw [5] (fun i wr => ∃ j : Nat, j ≤ N ∧ i = .int .i64 j ∧ Hid (Rp.Once (l.take j)) ∧ Hid (Below w4.heap.size w4 wr)) (fun i _ => N - (intOf i).toNat)
      case atStart => exact ⟨0, Nat.zero_le _, rfl, Lib.hid ⟨fun x hx => by simp at hx, by simp⟩, Lib.hid (Below.refl _ _)⟩
      case round =>
        obtain ⟨j, hj, rfl, HO, HB1⟩ := hrel
        have HB := Lib.hid (B0.out.trans ((B4.out.trans (HB1.out.mono B4.out.size)).mono B0.out.size))
        by_cases hlt2 : j < N
        · obtain ⟨z, hzk⟩ : ∃ z, l[j]? = some z := ⟨_, List.getElem?_eq_getElem (by omega)⟩
          obtain ⟨b1, o1, rfl, hbk, hcs⟩ := (HR4.out.below HB1.out).cells (by omega)
          have hck := hcs j z hzk
          have HZ := Lib.hid hzk
          have k0 : (0 : Int) ≤ (j : Int) := by omega
          have k1 : (j : Int) < (N : Int) := by omega
          have k2 : (j : Int) ≤ (d4 : Int) := by omega
          have G := Lib.hid (fun q => in_any (some ⟨b1, o1, none⟩) j d4 (l.take j) z (wr.drewN q) (wr.drewN q).heap.size (Lib.hid (by rw [List.length_take]; omega)) (by omega) (((HR4.out.below HB1.out).take j hj).row.below (below_drewN (Below.refl _ _) q)))
          clear hcs hzk
          by_cases hz1 : z < 1
          · have t1 : decide (z < 1) = true := by simpa using hz1
            have HF := Lib.hid (show decide (Mp.May ⟨room, msgs, send, recv⟩) = false by
              rw [decide_eq_false_iff_not]
              rintro ⟨_, ho⟩
              rw [← HL.out] at ho
              have := ((once_snoc HZ.out).1 (once_take ho)).2.1
              omega)
            go_wp2_with fail
            go_quiet (fail)
            go_wp2_with fail
            go_ret
            exact ⟨ret_bool HF.out.symm, below_drewN HB.out _⟩
          · have t1 : decide (z < 1) = false := by simpa using hz1
            cases hh : Tp.has (l.take j) z
            · rw [hh] at G
              have HN2 := Lib.hid ((once_snoc HZ.out).2 ⟨HO.out, by omega, hh⟩)
              clear hh
              go_wp2_with fail
              go_quiet ((go_at_call 23; (with_reducible exact Calls.quiet_of_same (G.out _))))
              go_wp2_with fail
              go_roundw
              case rel => exact ⟨j + 1, by omega, by go_num, HN2, Lib.hid (below_drewN HB1.out _)⟩
              case measure => simp [intOf]; omega
            · rw [hh] at G
              have HF := Lib.hid (show decide (Mp.May ⟨room, msgs, send, recv⟩) = false by
                rw [decide_eq_false_iff_not]
                rintro ⟨_, ho⟩
                rw [← HL.out] at ho
                have := ((once_snoc HZ.out).1 (once_take ho)).2.2
                rw [hh] at this
                cases this)
              clear hh
              go_wp2_with fail
              go_quiet ((go_at_call 23; (with_reducible exact Calls.quiet_of_same (G.out _))))
              go_wp2_with fail
              go_ret
              exact ⟨ret_bool HF.out.symm, below_drewN HB.out _⟩
        · obtain rfl : j = N := by omega
          have HO2 := HO.out
          rw [List.take_of_length_le (by omega), HL.out] at HO2
          have HO3 := Lib.hid HO2
          have hQ := Q0.out.step (B4.out.trans (HB1.out.mono B4.out.size))
          have p0 := hQ.c0
          have p1 := hQ.c1
          have p2 := hQ.c2
          have p3 := hQ.c3
          clear HO2 HO hQ
          by_cases g0 : room < 0
          · have t0 : decide (room < 0) = true := by simpa using g0
            have HF := Lib.hid (show decide (Mp.May ⟨room, msgs, send, recv⟩) = false from decide_eq_false fun ⟨⟨g0, g1, g2, g3, g4⟩, _⟩ => by
              simp only at g0 g1 g2 g3 g4
              first
                | omega
                | (rcases g3 with g3 | g3
                   · subst g3; simp at hl2; omega
                   · omega)
                | (rcases g4 with g4 | ⟨g4, g5⟩
                   · subst g4; simp at hl3; omega
                   · subst g4 g5; simp at hl1 hl2; omega))
            go_wp2_with fail
            go_ret
            exact ⟨ret_bool HF.out.symm, HB.out⟩
          · have t0 : decide (room < 0) = false := by simpa using g0
            by_cases g1 : 8 < room
            · have t1 : decide (8 < room) = true := by simpa using g1
              have HF := Lib.hid (show decide (Mp.May ⟨room, msgs, send, recv⟩) = false from decide_eq_false fun ⟨⟨g0, g1, g2, g3, g4⟩, _⟩ => by
                simp only at g0 g1 g2 g3 g4
                first
                  | omega
                  | (rcases g3 with g3 | g3
                     · subst g3; simp at hl2; omega
                     · omega)
                  | (rcases g4 with g4 | ⟨g4, g5⟩
                     · subst g4; simp at hl3; omega
                     · subst g4 g5; simp at hl1 hl2; omega))
              go_wp2_with fail
              go_ret
              exact ⟨ret_bool HF.out.symm, HB.out⟩
            · have t1 : decide (8 < room) = false := by simpa using g1
              by_cases g2 : room < (n1 : Int)
              · have t2 : decide (room < (n1 : Int)) = true := by simpa using g2
                have HF := Lib.hid (show decide (Mp.May ⟨room, msgs, send, recv⟩) = false from decide_eq_false fun ⟨⟨g0, g1, g2, g3, g4⟩, _⟩ => by
                  simp only at g0 g1 g2 g3 g4
                  first
                    | omega
                    | (rcases g3 with g3 | g3
                       · subst g3; simp at hl2; omega
                       · omega)
                    | (rcases g4 with g4 | ⟨g4, g5⟩
                       · subst g4; simp at hl3; omega
                       · subst g4 g5; simp at hl1 hl2; omega))
                go_wp2_with fail
                go_ret
                exact ⟨ret_bool HF.out.symm, HB.out⟩
              · have t2 : decide (room < (n1 : Int)) = false := by simpa using g2
                by_cases g4 : (n1 : Int) < room
                · have t3 : decide ((n1 : Int) < room) = true := by simpa using g4
                  by_cases g5 : 0 < k
                  · have t4 : decide ((0 : Int) < (k : Int)) = true := by simp; omega
                    have HF := Lib.hid (show decide (Mp.May ⟨room, msgs, send, recv⟩) = false from decide_eq_false fun ⟨⟨g0, g1, g2, g3, g4⟩, _⟩ => by
                      simp only at g0 g1 g2 g3 g4
                      first
                        | omega
                        | (rcases g3 with g3 | g3
                           · subst g3; simp at hl2; omega
                           · omega)
                        | (rcases g4 with g4 | ⟨g4, g5⟩
                           · subst g4; simp at hl3; omega
                           · subst g4 g5; simp at hl1 hl2; omega))
                    go_wp2_with fail
                    go_ret
                    exact ⟨ret_bool HF.out.symm, HB.out⟩
                  · have t4 : decide ((0 : Int) < (k : Int)) = false := by simp; omega
                    by_cases g6 : n3 < 1
                    · have z6 : ((n3 : Int) == 0) = true := by rw [beq_iff_eq]; omega
                      have HF := Lib.hid (show decide (Mp.May ⟨room, msgs, send, recv⟩) = true by
                        have hx : send = [] ∨ ¬ (msgs.length : Int) < room := by
                          by_cases h : k < 1
                          · exact .inl (List.length_eq_zero_iff.1 (by omega))
                          · exact .inr (by omega)
                        have hy : recv = [] ∨ msgs = [] ∧ send = [] := by
                          by_cases h : n3 < 1
                          · exact .inl (List.length_eq_zero_iff.1 (by omega))
                          · exact .inr ⟨List.length_eq_zero_iff.1 (by omega), List.length_eq_zero_iff.1 (by omega)⟩
                        exact decide_eq_true ⟨⟨by simp only; omega, by simp only; omega, by simp only; omega, hx, hy⟩, HO3.out⟩)
                      go_wp2_with fail
                      go_ret
                      exact ⟨ret_bool HF.out.symm, HB.out⟩
                    · have z6 : ((n3 : Int) == 0) = false := by rw [beq_eq_false_iff_ne]; omega
                      by_cases g7 : n1 < 1
                      · have z7 : ((n1 : Int) == 0) = true := by rw [beq_iff_eq]; omega
                        have z8 : ((k : Int) == 0) = true := by rw [beq_iff_eq]; omega
                        have HF := Lib.hid (show decide (Mp.May ⟨room, msgs, send, recv⟩) = true by
                          have hx : send = [] ∨ ¬ (msgs.length : Int) < room := by
                            by_cases h : k < 1
                            · exact .inl (List.length_eq_zero_iff.1 (by omega))
                            · exact .inr (by omega)
                          have hy : recv = [] ∨ msgs = [] ∧ send = [] := by
                            by_cases h : n3 < 1
                            · exact .inl (List.length_eq_zero_iff.1 (by omega))
                            · exact .inr ⟨List.length_eq_zero_iff.1 (by omega), List.length_eq_zero_iff.1 (by omega)⟩
                          exact decide_eq_true ⟨⟨by simp only; omega, by simp only; omega, by simp only; omega, hx, hy⟩, HO3.out⟩)
                        go_wp2_with fail
                        go_ret
                        exact ⟨ret_bool HF.out.symm, HB.out⟩
                      · have z7 : ((n1 : Int) == 0) = false := by rw [beq_eq_false_iff_ne]; omega
                        have HF := Lib.hid (show decide (Mp.May ⟨room, msgs, send, recv⟩) = false from decide_eq_false fun ⟨⟨g0, g1, g2, g3, g4⟩, _⟩ => by
                          simp only at g0 g1 g2 g3 g4
                          first
                            | omega
                            | (rcases g3 with g3 | g3
                               · subst g3; simp at hl2; omega
                               · omega)
                            | (rcases g4 with g4 | ⟨g4, g5⟩
                               · subst g4; simp at hl3; omega
                               · subst g4 g5; simp at hl1 hl2; omega))
                        go_wp2_with fail
                        go_ret
                        exact ⟨ret_bool HF.out.symm, HB.out⟩
                · have t3 : decide ((n1 : Int) < room) = false := by simpa using g4
                  by_cases g6 : n3 < 1
                  · have z6 : ((n3 : Int) == 0) = true := by rw [beq_iff_eq]; omega
                    have HF := Lib.hid (show decide (Mp.May ⟨room, msgs, send, recv⟩) = true by
                      have hx : send = [] ∨ ¬ (msgs.length : Int) < room := by
                        by_cases h : k < 1
                        · exact .inl (List.length_eq_zero_iff.1 (by omega))
                        · exact .inr (by omega)
                      have hy : recv = [] ∨ msgs = [] ∧ send = [] := by
                        by_cases h : n3 < 1
                        · exact .inl (List.length_eq_zero_iff.1 (by omega))
                        · exact .inr ⟨List.length_eq_zero_iff.1 (by omega), List.length_eq_zero_iff.1 (by omega)⟩
                      exact decide_eq_true ⟨⟨by simp only; omega, by simp only; omega, by simp only; omega, hx, hy⟩, HO3.out⟩)
                    go_wp2_with fail
                    go_ret
                    exact ⟨ret_bool HF.out.symm, HB.out⟩
                  · have z6 : ((n3 : Int) == 0) = false := by rw [beq_eq_false_iff_ne]; omega
                    by_cases g7 : n1 < 1
                    · have z7 : ((n1 : Int) == 0) = true := by rw [beq_iff_eq]; omega
                      by_cases g8 : k < 1
                      · have z8 : ((k : Int) == 0) = true := by rw [beq_iff_eq]; omega
                        have HF := Lib.hid (show decide (Mp.May ⟨room, msgs, send, recv⟩) = true by
                          have hx : send = [] ∨ ¬ (msgs.length : Int) < room := by
                            by_cases h : k < 1
                            · exact .inl (List.length_eq_zero_iff.1 (by omega))
                            · exact .inr (by omega)
                          have hy : recv = [] ∨ msgs = [] ∧ send = [] := by
                            by_cases h : n3 < 1
                            · exact .inl (List.length_eq_zero_iff.1 (by omega))
                            · exact .inr ⟨List.length_eq_zero_iff.1 (by omega), List.length_eq_zero_iff.1 (by omega)⟩
                          exact decide_eq_true ⟨⟨by simp only; omega, by simp only; omega, by simp only; omega, hx, hy⟩, HO3.out⟩)
                        go_wp2_with fail
                        go_ret
                        exact ⟨ret_bool HF.out.symm, HB.out⟩
                      · have z8 : ((k : Int) == 0) = false := by rw [beq_eq_false_iff_ne]; omega
                        have HF := Lib.hid (show decide (Mp.May ⟨room, msgs, send, recv⟩) = false from decide_eq_false fun ⟨⟨g0, g1, g2, g3, g4⟩, _⟩ => by
                          simp only at g0 g1 g2 g3 g4
                          first
                            | omega
                            | (rcases g3 with g3 | g3
                               · subst g3; simp at hl2; omega
                               · omega)
                            | (rcases g4 with g4 | ⟨g4, g5⟩
                               · subst g4; simp at hl3; omega
                               · subst g4 g5; simp at hl1 hl2; omega))
                        go_wp2_with fail
                        go_ret
                        exact ⟨ret_bool HF.out.symm, HB.out⟩
                    · have z7 : ((n1 : Int) == 0) = false := by rw [beq_eq_false_iff_ne]; omega
                      have HF := Lib.hid (show decide (Mp.May ⟨room, msgs, send, recv⟩) = false from decide_eq_false fun ⟨⟨g0, g1, g2, g3, g4⟩, _⟩ => by
                        simp only at g0 g1 g2 g3 g4
                        first
                          | omega
                          | (rcases g3 with g3 | g3
                             · subst g3; simp at hl2; omega
                             · omega)
                          | (rcases g4 with g4 | ⟨g4, g5⟩
                             · subst g4; simp at hl3; omega
                             · subst g4 g5; simp at hl1 hl2; omega))
                      go_wp2_with fail
                      go_ret
                      exact ⟨ret_bool HF.out.symm, HB.out⟩
end Go.Proofs.Ytjpnfjiccckaiaa

