/- The document's May, by its contract. -/
import Derived.Test.YtlcgadcbeoljbaaSSame
namespace Go.Proofs.Ytlcgadcbeoljbaa
open Go.RowKit
set_option linter.unusedVariables false

/-- The first k of a row are above 0, each once. -/
theorem once_snoc {l : List Int} {k : Nat} {z : Int} (hz : l[k]? = some z) : Rp.Once (l.take (k + 1)) ↔ Rp.Once (l.take k) ∧ 1 ≤ z ∧ Tp.has (l.take k) z = false := by
  have e : l.take (k + 1) = l.take k ++ [z] := by rw [List.take_add_one, hz]; rfl
  have hh : Tp.has (l.take k) z = false ↔ z ∉ l.take k := by unfold Tp.has; rw [← Bool.not_eq_true, List.contains_iff_mem]
  rw [e, hh]
  constructor
  · intro h
    refine ⟨h.left, h.1 z (by simp), fun hm => ?_⟩
    exact (List.nodup_append.1 h.2).2.2 z hm z (by simp) rfl
  · rintro ⟨h1, h2, h3⟩
    exact h1.snoc h2 h3
theorem once_take {l : List Int} {k : Nat} (h : Rp.Once l) : Rp.Once (l.take k) := by
  have e : l = l.take k ++ l.drop k := (List.take_append_drop _ _).symm
  rw [e] at h
  exact h.left
set_option maxHeartbeats 1000000 in
theorem refMay_any (x : Int) (A : Option Addr) (n c : Nat) (zs : List Int) (w : World) (h : Row w A n c zs) (hn : n ≤ 100000) :
    Calls Try.prog 12 #[.agg #[.int .i64 x, .slice A n c]] w fun e w' => e = .returned (.bool (decide (Sp.May (x, zs)))) ∧ Below w.heap.size w w' := by
  have h1 := h.cap
  have h2 := h.most
  have hlen := h.len
  have H := Lib.hid h
  have hb0 := Lib.hid (below_new w (.cells #[.int .i64 x, .slice A n c] 34))
  have c0 : (w.alloc (.cells #[.int .i64 x, .slice A n c] 34)).cell? ⟨w.heap.size, 0, none⟩ = some (.int .i64 x) := by rw [World.cell?_alloc_at _ _ _ _ rfl]; rfl
  have c1 : (w.alloc (.cells #[.int .i64 x, .slice A n c] 34)).cell? ⟨w.heap.size, 1, none⟩ = some (.slice A n c) := by rw [World.cell?_alloc_at _ _ _ _ rfl]; rfl
  obtain ⟨w1, hw1⟩ : ∃ w1, w1 = w.alloc (.cells #[.int .i64 x, .slice A n c] 34) := ⟨_, rfl⟩
  have E1 := Lib.hid hw1
  rw [← hw1] at hb0 c0 c1
  have C0 := Lib.hid c0
  have C1 := Lib.hid c1
  clear h hw1 c0 c1
  go_enter Try.func12, Try.ntmps12
  go_wp2_with fail
  rw [← E1.out]
  clear E1
  go_loopw [3] (fun i wr => ∃ k : Nat, k ≤ n ∧ i = .int .i64 k ∧ Hid (Rp.Once (zs.take k)) ∧ Hid (Below w1.heap.size w1 wr)) (fun i _ => n - (intOf i).toNat)
  case atStart => exact ⟨0, Nat.zero_le _, rfl, Lib.hid ⟨fun x hx => by simp at hx, by simp⟩, Lib.hid (Below.refl _ _)⟩
  case round =>
    obtain ⟨k, hk, rfl, HO, HB1⟩ := hrel
    have d0 := keepcell HB1.out C0.out
    have d1 := keepcell HB1.out C1.out
    have HB := Lib.hid (hb0.out.trans (HB1.out.mono hb0.out.size))
    by_cases hlt : k < n
    · obtain ⟨z, hzk⟩ : ∃ z, zs[k]? = some z := ⟨_, List.getElem?_eq_getElem (by omega)⟩
      obtain ⟨b, off, rfl, hbk, hcs⟩ := H.out.cells (by omega)
      have hck := keepcell HB1.out (keepcell hb0.out (hcs k z hzk))
      have HZ := Lib.hid hzk
      have k0 : (0 : Int) ≤ (k : Int) := by omega
      have k1 : (k : Int) < (n : Int) := by omega
      have k2 : (k : Int) ≤ (c : Int) := by omega
      have G := Lib.hid (fun q => in_any (some ⟨b, off, none⟩) k c (zs.take k) z (wr.drewN q) (wr.drewN q).heap.size (Lib.hid (by rw [List.length_take]; omega)) (by omega) (((H.out.below HB.out).take k hk).row.below (below_drewN (Below.refl _ _) q)))
      clear hcs hzk
      by_cases hz1 : z < 1
      · have t1 : decide (z < 1) = true := by simpa using hz1
        have HF := Lib.hid (show decide (Sp.May (x, zs)) = false by
          rw [decide_eq_false_iff_not]
          rintro ⟨_, _, _, ho⟩
          have := ((once_snoc HZ.out).1 (once_take ho)).2.1
          omega)
        go_wp2_with fail
        go_quiet (fail)
        go_wp2_with fail
        go_ret
        exact ⟨ret_bool HF.out.symm, below_drewN HB.out _⟩
      · have t1 : decide (z < 1) = false := by simpa using hz1
        cases hh : Tp.has (zs.take k) z
        · rw [hh] at G
          have HN := Lib.hid ((once_snoc HZ.out).2 ⟨HO.out, by omega, hh⟩)
          clear hh
          go_wp2_with fail
          go_quiet ((go_at_call 21; (with_reducible exact Calls.quiet_of_same (G.out _))))
          go_wp2_with fail
          go_roundw
          case rel => exact ⟨k + 1, by omega, by go_num, HN, Lib.hid (below_drewN HB1.out _)⟩
          case measure => simp [intOf]; omega
        · rw [hh] at G
          have HF := Lib.hid (show decide (Sp.May (x, zs)) = false by
            rw [decide_eq_false_iff_not]
            rintro ⟨_, _, _, ho⟩
            have := ((once_snoc HZ.out).1 (once_take ho)).2.2
            rw [hh] at this
            cases this)
          clear hh
          go_wp2_with fail
          go_quiet ((go_at_call 21; (with_reducible exact Calls.quiet_of_same (G.out _))))
          go_wp2_with fail
          go_ret
          exact ⟨ret_bool HF.out.symm, below_drewN HB.out _⟩
    · have hkn : k = n := by omega
      subst hkn
      have HO2 := HO.out
      rw [List.take_of_length_le (by omega)] at HO2
      have HO3 := Lib.hid HO2
      clear HO2 HO
      by_cases g0 : 0 ≤ x
      · by_cases g1 : x ≤ 1000000
        · by_cases g2 : x = 0
          · subst g2
            have HF := Lib.hid (show decide (Sp.May (0, zs)) = true from decide_eq_true ⟨Int.le_refl 0, (by show (0 : Int) ≤ 1000000; decide), .inl rfl, HO3.out⟩)
            go_wp2_with fail
            go_ret
            exact ⟨ret_bool HF.out.symm, HB.out⟩
          · have t2 : (x == 0) = false := by rw [beq_eq_false_iff_ne]; exact g2
            have t3 : decide (0 ≤ x) = true := by simpa using g0
            have t4 : decide (x ≤ 1000000) = true := by simpa using g1
            by_cases g3 : k = 0
            · subst g3
              obtain rfl : zs = [] := List.length_eq_zero_iff.1 hlen
              have HF := Lib.hid (show decide (Sp.May (x, [])) = true from decide_eq_true ⟨g0, g1, .inr rfl, HO3.out⟩)
              go_wp2_with fail
              go_ret
              exact ⟨ret_bool HF.out.symm, HB.out⟩
            · have HF := Lib.hid (show decide (Sp.May (x, zs)) = false by
                rw [decide_eq_false_iff_not]
                rintro ⟨_, _, h9 | h9, _⟩
                · exact g2 h9
                · simp only at h9; subst h9; simp at hlen; omega)
              have t5 : ((k : Int) == 0) = false := by rw [beq_eq_false_iff_ne]; omega
              go_wp2_with fail
              go_ret
              exact ⟨ret_bool HF.out.symm, HB.out⟩
        · have HF := Lib.hid (show decide (Sp.May (x, zs)) = false by
            rw [decide_eq_false_iff_not]
            rintro ⟨_, h9, _⟩
            exact g1 h9)
          have t3 : decide (0 ≤ x) = true := by simpa using g0
          have t4 : decide (x ≤ 1000000) = false := by simpa using g1
          go_wp2_with fail
          go_ret
          exact ⟨ret_bool HF.out.symm, HB.out⟩
      · have HF := Lib.hid (show decide (Sp.May (x, zs)) = false by
          rw [decide_eq_false_iff_not]
          rintro ⟨h9, _⟩
          exact g0 h9)
        have t3 : decide (0 ≤ x) = false := by simpa using g0
        go_wp2_with fail
        go_ret
        exact ⟨ret_bool HF.out.symm, HB.out⟩
end Go.Proofs.Ytlcgadcbeoljbaa

