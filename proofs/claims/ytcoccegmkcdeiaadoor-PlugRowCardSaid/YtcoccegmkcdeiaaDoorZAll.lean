/- All, and the document's All, by their contracts: the members, rising, in new memory. -/
import Derived.Test.YtcoccegmkcdeiaaDoorM9
namespace Go.Proofs.YtcoccegmkcdeiaaDoor
open Go.RowKit
set_option linter.unusedVariables false

theorem zown_base' {w : World} {b1 b2 n size : Nat} {e : TypeId} {v : Value} {xs : List Value} (h : w.ownsRow b1 e size v n xs) (hb : b2 ≤ b1) : w.ownsRow b2 e size v n xs := by
  refine ⟨h.1, ?_⟩
  rcases h.2 with h0 | ⟨g, cap, cur, e1, hg, h3⟩
  · exact .inl h0
  · exact .inr ⟨g, cap, cur, e1, Nat.le_trans hb hg, h3⟩
set_option maxHeartbeats 4000000 in
set_option maxRecDepth 100000 in
theorem zall_any (x : Nat) (w : World) (hx : x < 18446744073709551616) (hT : Tab w) :
    Calls Tryd.prog 73 #[.int .u64 x] w (MadeO w (Zp.mem x)) := by
  obtain ⟨i0, hi, hz0, hz1, hz2⟩ := info_parts info_int
  have HT := Lib.hid hT
  have HL := Lib.hid (Zp.mem_len x)
  clear hT
  go_enter Tryd.func73, Tryd.ntmps73
  go_wp2
  go_loopw [0, 3] (fun s v wr => ∃ (y : Nat) (done : List Int) (d : Nat), s = .int .u64 (y : Nat) ∧ y < 18446744073709551616 ∧ Hid (Zp.mem x = done ++ Zp.mem y) ∧ wr.ownsRow w.heap.size 3 1 v d (done.map (Value.int .i64)) ∧ Hid (Below w.heap.size w wr))
    (fun s _ _ => (Zp.mem (intOf s).toNat).length)
  case atStart => exact ⟨x, [], 0, rfl, hx, Lib.hid rfl, World.ownsRow_nil _ _ _ _, Lib.hid (Below.refl _ _)⟩
  case round =>
    obtain ⟨y, done, d, rfl, hy, HM, hown, HB⟩ := hrel
    by_cases h0 : y = 0
    · subst h0
      have HE := Lib.hid (show Zp.mem x = done by have := HM.out; rwa [Zp.mem_zero, List.append_nil] at this)
      go_wp2_with fail
      go_ret
      refine ⟨_, d, rfl, ?_, HB.out⟩
      rw [HE.out]; exact hown
    · have t0 : ((y : Int) != 0) = true := by rw [bne_iff_ne]; omega
      have HY := Lib.hid h0
      have HW := Lib.hid (Zp.tail_mem h0 hy)
      have HD := Lib.hid (own_len hown)
      generalize hk : Lib.ctz 64 y = k at HW
      have HK := Lib.hid hk
      have hwl := Zp.wout_lt hy (k : Int)
      have hd : d ≤ 64 := by
        have h1 := HL.out; rw [HM.out, List.length_append, HD.out] at h1; omega
      clear h0 hk
      go_wp2_with fail
      refine (least_any y _ hy HY.out (HT.out.step HB.out)).mono ?_
      rintro e w1 ⟨rfl, rfl⟩
      rw [HK.out]
      go_wp2_with (at_builtin; refine wpList_append_own _ rfl _ _ 42 rfl w.heap.size 3 i0 (.int .i64 0) 1 8 Tryd.underlying42 hi hz0 hz1 hz2 rfl (by decide) _ _ _ rfl (hown.alloc _) ⟨w1.heap.size, 0, none⟩ 1 1 [.int .i64 (k : Int)] rfl rfl ?c1 ?c2 ?c3 ?c4 ?c5 ?_)
      case c1 => exact one_cell _ _ _
      case c2 => intro u hu; simp at hu; subst hu; rfl
      case c3 => unfold maxLen; omega
      case c4 => omega
      case c5 => have := HB.out.size; simp; omega
      intro v' w2 hown2 hg _
      have HO := Lib.hid (show w2.ownsRow w.heap.size 3 1 v' (d + 1) ((done ++ [(k : Int)]).map (Value.int .i64)) by simpa using hown2)
      have HB2 := Lib.hid ((HB.out.alloc HB.out.size (.cells #[.int .i64 (k : Int)] 3)).grown hg (by have := HB.out.size; simp; omega) (fun j hj => (hown.lt j hj).1))
      clear hown2 hg hown
      go_wp2_with fail
      refine (without_any y (k : Int) _ hy).mono ?_
      rintro e w3 ⟨rfl, hb3⟩
      have HB3 := Lib.hid (HB2.out.trans (hb3.mono HB2.out.size))
      have hown3 := own_below HO.out hb3
      clear hb3
      go_wp2_with fail
      go_roundw
      case rel => exact ⟨_, done ++ [(k : Int)], d + 1, rfl, hwl, Lib.hid (by rw [HM.out, HW.out, List.append_assoc]; rfl), hown3, HB3⟩
      case measure => simp only [intOf, Int.toNat_natCast]; rw [HW.out]; simp
set_option maxHeartbeats 4000000 in
set_option maxRecDepth 100000 in
theorem zrefAll_any (x : Nat) (w : World) (hx : x < 18446744073709551616) :
    Calls Tryd.prog 23 #[.int .u64 x] w (MadeO w (Zp.mem x)) := by
  obtain ⟨i0, hi, hz0, hz1, hz2⟩ := info_parts info_int
  go_enter Tryd.func23, Tryd.ntmps23
  go_wp2
  go_loopw [0, 3, 4] (fun s v i wr => ∃ (y k d : Nat), k ≤ 64 ∧ s = .int .u64 (y : Nat) ∧ y < 18446744073709551616 ∧ Hid (y = x / 2 ^ k) ∧ i = .int .i64 k ∧ d ≤ k ∧ wr.ownsRow w.heap.size 3 1 v d ((Zp.memTo k x).map (Value.int .i64)) ∧ Hid (Below w.heap.size w wr))
    (fun _ _ i _ => 64 - (intOf i).toNat)
  case atStart => exact ⟨x, 0, 0, Nat.zero_le _, rfl, hx, Lib.hid (by simp), rfl, Nat.le_refl _, World.ownsRow_nil _ _ _ _, Lib.hid (Below.refl _ _)⟩
  case round =>
    obtain ⟨y, k, d, hk, rfl, hy, HY, rfl, hd, hown, HB⟩ := hrel
    by_cases hlt : k < 64
    · have HY2 := Lib.hid (show y / 2 = x / 2 ^ (k + 1) by rw [HY.out, Nat.pow_succ, Nat.div_div_eq_div_mul])
      have hy2 : y / 2 < 18446744073709551616 := by omega
      have m0 : (y : Int).tmod 2 = ((y % 2 : Nat) : Int) := by rw [Int.tmod_eq_emod_of_nonneg (by omega)]; omega
      have q0 : (y : Int).tdiv 2 = ((y / 2 : Nat) : Int) := by rw [Int.tdiv_eq_ediv_of_nonneg (by omega)]; omega
      have HT := Lib.hid (show x.testBit k = decide (y % 2 = 1) by rw [Nat.testBit_eq_decide_div_mod_eq, HY.out])
      by_cases h1 : y % 2 = 1
      · have HM := Lib.hid (show Zp.memTo (k + 1) x = Zp.memTo k x ++ [(k : Int)] by rw [Zp.memTo_succ, HT.out, h1]; rfl)
        go_wp2_with (at_builtin; refine wpList_append_own _ rfl _ _ 42 rfl w.heap.size 3 i0 (.int .i64 0) 1 8 Tryd.underlying42 hi hz0 hz1 hz2 rfl (by decide) _ _ _ rfl (hown.alloc _) ⟨wr.heap.size, 0, none⟩ 1 1 [.int .i64 (k : Int)] rfl rfl ?c1 ?c2 ?c3 ?c4 ?c5 ?_)
        case c1 => exact one_cell _ _ _
        case c2 => intro u hu; simp at hu; subst hu; rfl
        case c3 => unfold maxLen; omega
        case c4 => omega
        case c5 => have := HB.out.size; simp; omega
        intro v' w2 hown2 hg _
        have HO := Lib.hid (show w2.ownsRow w.heap.size 3 1 v' (d + 1) ((Zp.memTo (k + 1) x).map (Value.int .i64)) by rw [HM.out]; simpa using hown2)
        have HB2 := Lib.hid ((HB.out.alloc HB.out.size (.cells #[.int .i64 (k : Int)] 3)).grown hg (by have := HB.out.size; simp; omega) (fun j hj => (hown.lt j hj).1))
        clear hown2 hg hown
        go_wp2_with fail
        go_roundw
        case rel => exact ⟨y / 2, k + 1, d + 1, by omega, by simp, hy2, HY2, by go_num, by omega, HO.out, HB2⟩
        case measure => simp [intOf]; omega
      · have h0 : y % 2 = 0 := by omega
        have HM := Lib.hid (show Zp.memTo (k + 1) x = Zp.memTo k x by rw [Zp.memTo_succ, HT.out, h0]; simp)
        go_wp2_with fail
        go_roundw
        case rel => exact ⟨y / 2, k + 1, d, by omega, by simp, hy2, HY2, by go_num, by omega, by rw [HM.out]; exact hown, HB⟩
        case measure => simp [intOf]; omega
    · obtain rfl : k = 64 := by omega
      go_wp2_with fail
      go_ret
      exact ⟨_, d, rfl, hown, HB.out⟩
end Go.Proofs.YtcoccegmkcdeiaaDoor

