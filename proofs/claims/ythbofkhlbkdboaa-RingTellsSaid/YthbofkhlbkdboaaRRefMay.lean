/- The document's May, by its contract. -/
import Derived.Test.YthbofkhlbkdboaaRRef
namespace Go.Proofs.Ythbofkhlbkdboaa
open Go.RowKit
set_option linter.unusedVariables false

/-- The first k of a row are above 0, each once. -/
theorem once_snoc {l : List Int} {k : Nat} {z : Int} (hz : l[k]? = some z) : Rp.Once (l.take (k + 1)) ↔ Rp.Once (l.take k) ∧ 1 ≤ z ∧ Tp.has (l.take k) z = false := by
  have e : l.take (k + 1) = l.take k ++ [z] := by rw [List.take_add_one, hz]; rfl
  have hh : Tp.has (l.take k) z = false ↔ z ∉ l.take k := by unfold Tp.has; rw [← Bool.not_eq_true, List.contains_iff_mem]
  rw [e, hh]
  constructor
  · intro h
    refine ⟨h.left, h.1 z (by simp), fun hm => ?_⟩
    exact (List.nodup_append.1 h.2).2.2 z hm z (by simp) rfl
  · rintro ⟨h1, h2, h3⟩
    exact h1.snoc h2 h3
theorem once_take {l : List Int} {k : Nat} (h : Rp.Once l) : Rp.Once (l.take k) := by
  have e : l = l.take k ++ l.drop k := (List.take_append_drop _ _).symm
  rw [e] at h
  exact h.left
set_option maxHeartbeats 1000000 in
theorem refMay_any (x : Int) (A : Option Addr) (n c : Nat) (zs : List Int) (s : Int) (w : World) (h : Row w A n c zs) (hn : n ≤ 100000) :
    Calls Try.prog 26 #[.agg #[.int .i64 x, .slice A n c], .int .i64 s] w fun e w' => e = .returned (.bool (Rp.may (x, zs) s)) ∧ Below w.heap.size w w' := by
  have h1 := h.cap
  have h2 := h.most
  have hlen := h.len
  have H := Lib.hid h
  have hb0 := Lib.hid (below_new w (.cells #[.int .i64 x, .slice A n c] 24))
  have c0 : (w.alloc (.cells #[.int .i64 x, .slice A n c] 24)).cell? ⟨w.heap.size, 0, none⟩ = some (.int .i64 x) := by rw [World.cell?_alloc_at _ _ _ _ rfl]; rfl
  have c1 : (w.alloc (.cells #[.int .i64 x, .slice A n c] 24)).cell? ⟨w.heap.size, 1, none⟩ = some (.slice A n c) := by rw [World.cell?_alloc_at _ _ _ _ rfl]; rfl
  obtain ⟨l, hl⟩ : ∃ l, l = Rp.all (x, zs) := ⟨_, rfl⟩
  have HM := Lib.hid (show Rp.may (x, zs) s = (decide (zs.length ≤ Rp.sz s) && decide (Rp.Once l)) by rw [hl]; rfl)
  have hll : l.length ≤ 100001 := by rw [hl]; have := Rp.all_length (x, zs); simp only at this; omega
  have HL := Lib.hid hl
  clear hl h
  go_enter Try.func26, Try.ntmps26
  go_wp2_with fail
  refine (refAll_any x A n c zs _ (H.out.below hb0.out) hn).mono ?_
  rintro e w1 ⟨A1, n1, q1, rfl, hr1, hb1⟩
  rw [← HL.out] at hr1
  have hl1 := hr1.len
  have hq1 := hr1.cap
  have hq2 := hr1.most
  have d0 := keepcell hb1 c0
  have d1 := keepcell hb1 c1
  have hbe1 := hb0.out.trans (hb1.mono hb0.out.size)
  have R1 := Lib.hid hr1
  clear hr1 c0 c1 hb1
  go_wp2_with fail
  go_loopw [6] (fun i wr => ∃ k : Nat, k ≤ n1 ∧ i = .int .i64 k ∧ Hid (Rp.Once (l.take k)) ∧ Hid (Below w.heap.size w wr) ∧ Hid (Below w1.heap.size w1 wr)) (fun i _ => n1 - (intOf i).toNat)
  case atStart => exact ⟨0, Nat.zero_le _, rfl, Lib.hid ⟨fun x hx => by simp at hx, by simp⟩, Lib.hid hbe1, Lib.hid (Below.refl _ _)⟩
  case round =>
    obtain ⟨k, hk, rfl, HO, HB, HB1⟩ := hrel
    by_cases hlt : k < n1
    · obtain ⟨z, hzk⟩ : ∃ z, l[k]? = some z := ⟨_, List.getElem?_eq_getElem (by omega)⟩
      obtain ⟨b, off, rfl, hbk, hcs⟩ := R1.out.cells (by omega)
      have hck := keepcell HB1.out (hcs k z hzk)
      have HZ := Lib.hid hzk
      have k0 : (0 : Int) ≤ (k : Int) := by omega
      have k1 : (k : Int) < (n1 : Int) := by omega
      have k2 : (k : Int) ≤ (q1 : Int) := by omega
      have G := Lib.hid (fun q => in_any (some ⟨b, off, none⟩) k q1 (l.take k) z (wr.drewN q) (wr.drewN q).heap.size (Lib.hid (by rw [List.length_take]; omega)) (by omega) (((R1.out.below HB1.out).take k hk).row.below (below_drewN (Below.refl _ _) q)))
      clear hcs hzk
      by_cases hz1 : z < 1
      · have t1 : decide (z < 1) = true := by simpa using hz1
        have HF := Lib.hid (show Rp.may (x, zs) s = false by
          rw [HM.out, Bool.and_eq_false_iff]
          right
          rw [decide_eq_false_iff_not]
          intro ho
          have := ((once_snoc HZ.out).1 (once_take ho)).2.1
          omega)
        go_wp2_with fail
        go_quiet (fail)
        go_wp2_with fail
        go_ret
        exact ⟨ret_bool HF.out.symm, below_drewN HB.out _⟩
      · have t1 : decide (z < 1) = false := by simpa using hz1
        cases hh : Tp.has (l.take k) z
        · rw [hh] at G
          have HN := Lib.hid ((once_snoc HZ.out).2 ⟨HO.out, by omega, hh⟩)
          clear hh
          go_wp2_with fail
          go_quiet ((go_at_call 27; (with_reducible exact Calls.quiet_of_same (G.out _))))
          go_wp2_with fail
          go_roundw
          case rel => exact ⟨k + 1, by omega, by go_num, HN, Lib.hid (below_drewN HB.out _), Lib.hid (below_drewN HB1.out _)⟩
          case measure => simp [intOf]; omega
        · rw [hh] at G
          have HF := Lib.hid (show Rp.may (x, zs) s = false by
            rw [HM.out, Bool.and_eq_false_iff]
            right
            rw [decide_eq_false_iff_not]
            intro ho
            have := ((once_snoc HZ.out).1 (once_take ho)).2.2
            rw [hh] at this
            cases this)
          clear hh
          go_wp2_with fail
          go_quiet ((go_at_call 27; (with_reducible exact Calls.quiet_of_same (G.out _))))
          go_wp2_with fail
          go_ret
          exact ⟨ret_bool HF.out.symm, below_drewN HB.out _⟩
    · have hkn : k = n1 := by omega
      subst hkn
      have HO2 := HO.out
      rw [List.take_of_length_le (by omega)] at HO2
      have e0 := keepcell HB1.out d0
      have e1 := keepcell HB1.out d1
      have HO3 := Lib.hid HO2
      clear HO2
      by_cases hs : (n : Int) ≤ s
      · have t1 : decide ((n : Int) ≤ s) = true := by simpa using hs
        have HF := Lib.hid (show Rp.may (x, zs) s = true by
          rw [HM.out, hlen]
          have : n ≤ Rp.sz s := by unfold Rp.sz; split <;> omega
          simp [this, HO3.out])
        go_wp2_with fail
        go_ret
        exact ⟨ret_bool HF.out.symm, HB.out⟩
      · have t1 : decide ((n : Int) ≤ s) = false := by simpa using hs
        have HF := Lib.hid (show Rp.may (x, zs) s = decide ((n : Int) ≤ 2) by
          rw [HM.out, hlen]
          have : decide (n ≤ Rp.sz s) = decide ((n : Int) ≤ 2) := by
            rw [decide_eq_decide]
            unfold Rp.sz; split <;> omega
          simp only [this, HO3.out, decide_true, Bool.and_true])
        go_wp2_with fail
        go_ret
        exact ⟨ret_bool HF.out.symm, HB.out⟩
end Go.Proofs.Ythbofkhlbkdboaa

