/- The document's own lists (Kids, Of), by contracts. -/
import Derived.Test.YtdhcnmcfgicbjaaThose
namespace Go.Proofs.Ytdhcnmcfgicbjaa
open Go.RowKit
set_option linter.unusedVariables false

set_option maxHeartbeats 1600000 in
set_option maxRecDepth 1000000 in
theorem refKids_any (A : Option Addr) (n c : Nat) (vs : List (Int × Int)) (v : Int) (w : World)
    (hn : Hid (vs.length = n)) (hl : n ≤ 9223372036854775807) (hby : n * 8 ≤ 140737488351232) (hv : VRow w w.heap.size A vs) :
    Calls Try.prog 23 #[.slice A n c, .int .i64 v] w (Made w (Tp.those (kidsP v) vs)) := by
  obtain ⟨i0, hi, hz0, hz1, hz2⟩ := info_parts info_int
  go_enter Try.func23, Try.ntmps23
  go_wp2
  go_loopw [5, 6] (fun u i wr => ∃ k : Nat, k ≤ n ∧ i = .int .i64 k ∧ wr.ownsRow w.heap.size 3 1 u (Tp.those (kidsP v) (vs.take k)).length ((Tp.those (kidsP v) (vs.take k)).map (Value.int .i64)) ∧ Below w.heap.size w wr)
    (fun _ i _ => n - (intOf i).toNat)
  case atStart => exact ⟨0, Nat.zero_le _, rfl, World.ownsRow_nil _ _ _ _, Below.refl _ _⟩
  case round =>
    obtain ⟨k, hk, rfl, hown, hbe⟩ := hrel
    by_cases hlt : k < n
    · obtain ⟨x, hx⟩ : ∃ x, vs[k]? = some x := ⟨_, List.getElem?_eq_getElem (by have := hn.out; omega)⟩
      obtain ⟨b, off, hA, hbk, hc1, hc2⟩ := (hv.below hbe) k x hx
      subst hA
      have HX : Hid (vs[k]? = some x) := hx
      clear hx
      have hle := Tp.those_le (kidsP v) vs k
      cases hp : (x.1 == v)
      · have hm := Hid.out HX
        have R := Tp.those_miss (p := kidsP v) hm hp
        clear hm
        have R' := Lib.hid R
        clear R
        go_wp2
        go_roundw
        case rel => exact ⟨k + 1, by omega, by go_num, by rw [R'.out]; exact hown, hbe⟩
        case measure => simp [intOf]; omega
      · have hm := Hid.out HX
        have R := Tp.those_hit (p := kidsP v) hm hp
        clear hm
        have R' := Lib.hid R
        clear R
        go_wp2_with (at_builtin; refine wpList_append_own _ rfl _ _ 37 rfl w.heap.size 3 i0 (.int .i64 0) 1 8 Try.underlying37 hi hz0 hz1 hz2 rfl (by decide) _ _ _ rfl (hown.alloc _) ⟨wr.heap.size, 0, none⟩ 1 1 [.int .i64 (k : Int)] rfl rfl ?c1 ?c2 ?c3 ?c4 ?c5 ?_)
        case c1 => exact one_cell _ _ _
        case c2 => intro u hu; simp at hu; subst hu; rfl
        case c3 => unfold maxLen; omega
        case c4 => omega
        case c5 => have := hbe.size; simp; omega
        intro v' w2 hown2 hg _
        go_wp2
        go_roundw
        case rel =>
          refine ⟨k + 1, by omega, by go_num, ?_, (hbe.alloc hbe.size _).grown hg (by have := hbe.size; simp; omega) (fun j hj => (hown.lt j hj).1)⟩
          rw [R'.out]; simpa using hown2
        case measure => simp [intOf]; omega
    · have hkn : k = n := by omega
      have e := hn.out
      have H := Lib.hid (show vs.take k = vs by rw [List.take_of_length_le (by omega)])
      clear hkn e
      go_wp2
      go_ret
      rw [H.out] at hown
      exact made_of (Below.refl _ _) hown hbe

set_option maxHeartbeats 1600000 in
set_option maxRecDepth 1000000 in
theorem refOf_any (A : Option Addr) (n c : Nat) (vs : List (Int × Int)) (v : Int) (w : World)
    (hn : Hid (vs.length = n)) (hl : n ≤ 9223372036854775807) (hby : n * 8 ≤ 140737488351232) (hv : VRow w w.heap.size A vs) :
    Calls Try.prog 17 #[.slice A n c, .int .i64 v] w (Made w (Tp.those (levelP v) vs)) := by
  obtain ⟨i0, hi, hz0, hz1, hz2⟩ := info_parts info_int
  go_enter Try.func17, Try.ntmps17
  go_wp2
  go_loopw [5, 6] (fun u i wr => ∃ k : Nat, k ≤ n ∧ i = .int .i64 k ∧ wr.ownsRow w.heap.size 3 1 u (Tp.those (levelP v) (vs.take k)).length ((Tp.those (levelP v) (vs.take k)).map (Value.int .i64)) ∧ Below w.heap.size w wr)
    (fun _ i _ => n - (intOf i).toNat)
  case atStart => exact ⟨0, Nat.zero_le _, rfl, World.ownsRow_nil _ _ _ _, Below.refl _ _⟩
  case round =>
    obtain ⟨k, hk, rfl, hown, hbe⟩ := hrel
    by_cases hlt : k < n
    · obtain ⟨x, hx⟩ : ∃ x, vs[k]? = some x := ⟨_, List.getElem?_eq_getElem (by have := hn.out; omega)⟩
      obtain ⟨b, off, hA, hbk, hc1, hc2⟩ := (hv.below hbe) k x hx
      subst hA
      have HX : Hid (vs[k]? = some x) := hx
      clear hx
      have hle := Tp.those_le (levelP v) vs k
      cases hp : (x.2 == v)
      · have hm := Hid.out HX
        have R := Tp.those_miss (p := levelP v) hm hp
        clear hm
        have R' := Lib.hid R
        clear R
        go_wp2
        go_roundw
        case rel => exact ⟨k + 1, by omega, by go_num, by rw [R'.out]; exact hown, hbe⟩
        case measure => simp [intOf]; omega
      · have hm := Hid.out HX
        have R := Tp.those_hit (p := levelP v) hm hp
        clear hm
        have R' := Lib.hid R
        clear R
        go_wp2_with (at_builtin; refine wpList_append_own _ rfl _ _ 37 rfl w.heap.size 3 i0 (.int .i64 0) 1 8 Try.underlying37 hi hz0 hz1 hz2 rfl (by decide) _ _ _ rfl (hown.alloc _) ⟨wr.heap.size, 0, none⟩ 1 1 [.int .i64 (k : Int)] rfl rfl ?c1 ?c2 ?c3 ?c4 ?c5 ?_)
        case c1 => exact one_cell _ _ _
        case c2 => intro u hu; simp at hu; subst hu; rfl
        case c3 => unfold maxLen; omega
        case c4 => omega
        case c5 => have := hbe.size; simp; omega
        intro v' w2 hown2 hg _
        go_wp2
        go_roundw
        case rel =>
          refine ⟨k + 1, by omega, by go_num, ?_, (hbe.alloc hbe.size _).grown hg (by have := hbe.size; simp; omega) (fun j hj => (hown.lt j hj).1)⟩
          rw [R'.out]; simpa using hown2
        case measure => simp [intOf]; omega
    · have hkn : k = n := by omega
      have e := hn.out
      have H := Lib.hid (show vs.take k = vs by rw [List.take_of_length_le (by omega)])
      clear hkn e
      go_wp2
      go_ret
      rw [H.out] at hown
      exact made_of (Below.refl _ _) hown hbe

end Go.Proofs.Ytdhcnmcfgicbjaa

