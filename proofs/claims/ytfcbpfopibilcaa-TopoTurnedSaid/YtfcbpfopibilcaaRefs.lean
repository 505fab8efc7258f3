/- The document's own lists (Kids, Of) and the comparisons of lists (Ints, In), by contracts. -/
import Derived.Test.YtfcbpfopibilcaaThose
namespace Go.Proofs.Ytfcbpfopibilcaa
open Go.RowKit
set_option linter.unusedVariables false

set_option maxHeartbeats 1600000 in
set_option maxRecDepth 1000000 in
theorem refKids_any (A : Option Addr) (n c : Nat) (vs : List (Int × Int)) (v : Int) (w : World)
    (hn : Hid (vs.length = n)) (hl : n ≤ 9223372036854775807) (hby : n * 8 ≤ 140737488351232) (hv : VRow w w.heap.size A vs) :
    Calls Try.prog 14 #[.slice A n c, .int .i64 v] w (Made w (Tp.those (kidsP v) vs)) := by
  obtain ⟨i0, hi, hz0, hz1, hz2⟩ := info_parts info_int
  go_enter Try.func14, Try.ntmps14
  go_wp2
  go_loopw [5, 6] (fun u i wr => ∃ k : Nat, k ≤ n ∧ i = .int .i64 k ∧ wr.ownsRow w.heap.size 3 1 u (Tp.those (kidsP v) (vs.take k)).length ((Tp.those (kidsP v) (vs.take k)).map (Value.int .i64)) ∧ Below w.heap.size w wr)
    (fun _ i _ => n - (intOf i).toNat)
  case atStart => exact ⟨0, Nat.zero_le _, rfl, World.ownsRow_nil _ _ _ _, Below.refl _ _⟩
  case round =>
    obtain ⟨k, hk, rfl, hown, hbe⟩ := hrel
    by_cases hlt : k < n
    · obtain ⟨x, hx⟩ : ∃ x, vs[k]? = some x := ⟨_, List.getElem?_eq_getElem (by have := hn.out; omega)⟩
      obtain ⟨b, off, hA, hbk, hc1, hc2⟩ := (hv.below hbe) k x hx
      subst hA
      have HX : Hid (vs[k]? = some x) := hx
      clear hx
      have hle := Tp.those_le (kidsP v) vs k
      cases hp : (x.1 == v)
      · have hm := Hid.out HX
        have R := Tp.those_miss (p := kidsP v) hm hp
        clear hm
        have R' := Lib.hid R
        clear R
        go_wp2
        go_roundw
        case rel => exact ⟨k + 1, by omega, by go_num, by rw [R'.out]; exact hown, hbe⟩
        case measure => simp [intOf]; omega
      · have hm := Hid.out HX
        have R := Tp.those_hit (p := kidsP v) hm hp
        clear hm
        have R' := Lib.hid R
        clear R
        go_wp2_with (at_builtin; refine wpList_append_own _ rfl _ _ 28 rfl w.heap.size 3 i0 (.int .i64 0) 1 8 Try.underlying28 hi hz0 hz1 hz2 rfl (by decide) _ _ _ rfl (hown.alloc _) ⟨wr.heap.size, 0, none⟩ 1 1 [.int .i64 (k : Int)] rfl rfl ?c1 ?c2 ?c3 ?c4 ?c5 ?_)
        case c1 => exact one_cell _ _ _
        case c2 => intro u hu; simp at hu; subst hu; rfl
        case c3 => unfold maxLen; omega
        case c4 => omega
        case c5 => have := hbe.size; simp; omega
        intro v' w2 hown2 hg _
        go_wp2
        go_roundw
        case rel =>
          refine ⟨k + 1, by omega, by go_num, ?_, (hbe.alloc hbe.size _).grown hg (by have := hbe.size; simp; omega) (fun j hj => (hown.lt j hj).1)⟩
          rw [R'.out]; simpa using hown2
        case measure => simp [intOf]; omega
    · have hkn : k = n := by omega
      have e := hn.out
      have H := Lib.hid (show vs.take k = vs by rw [List.take_of_length_le (by omega)])
      clear hkn e
      go_wp2
      go_ret
      rw [H.out] at hown
      exact made_of (Below.refl _ _) hown hbe

set_option maxHeartbeats 1600000 in
set_option maxRecDepth 1000000 in
theorem refOf_any (A : Option Addr) (n c : Nat) (vs : List (Int × Int)) (v : Int) (w : World)
    (hn : Hid (vs.length = n)) (hl : n ≤ 9223372036854775807) (hby : n * 8 ≤ 140737488351232) (hv : VRow w w.heap.size A vs) :
    Calls Try.prog 16 #[.slice A n c, .int .i64 v] w (Made w (Tp.those (levelP v) vs)) := by
  obtain ⟨i0, hi, hz0, hz1, hz2⟩ := info_parts info_int
  go_enter Try.func16, Try.ntmps16
  go_wp2
  go_loopw [5, 6] (fun u i wr => ∃ k : Nat, k ≤ n ∧ i = .int .i64 k ∧ wr.ownsRow w.heap.size 3 1 u (Tp.those (levelP v) (vs.take k)).length ((Tp.those (levelP v) (vs.take k)).map (Value.int .i64)) ∧ Below w.heap.size w wr)
    (fun _ i _ => n - (intOf i).toNat)
  case atStart => exact ⟨0, Nat.zero_le _, rfl, World.ownsRow_nil _ _ _ _, Below.refl _ _⟩
  case round =>
    obtain ⟨k, hk, rfl, hown, hbe⟩ := hrel
    by_cases hlt : k < n
    · obtain ⟨x, hx⟩ : ∃ x, vs[k]? = some x := ⟨_, List.getElem?_eq_getElem (by have := hn.out; omega)⟩
      obtain ⟨b, off, hA, hbk, hc1, hc2⟩ := (hv.below hbe) k x hx
      subst hA
      have HX : Hid (vs[k]? = some x) := hx
      clear hx
      have hle := Tp.those_le (levelP v) vs k
      cases hp : (x.2 == v)
      · have hm := Hid.out HX
        have R := Tp.those_miss (p := levelP v) hm hp
        clear hm
        have R' := Lib.hid R
        clear R
        go_wp2
        go_roundw
        case rel => exact ⟨k + 1, by omega, by go_num, by rw [R'.out]; exact hown, hbe⟩
        case measure => simp [intOf]; omega
      · have hm := Hid.out HX
        have R := Tp.those_hit (p := levelP v) hm hp
        clear hm
        have R' := Lib.hid R
        clear R
        go_wp2_with (at_builtin; refine wpList_append_own _ rfl _ _ 28 rfl w.heap.size 3 i0 (.int .i64 0) 1 8 Try.underlying28 hi hz0 hz1 hz2 rfl (by decide) _ _ _ rfl (hown.alloc _) ⟨wr.heap.size, 0, none⟩ 1 1 [.int .i64 (k : Int)] rfl rfl ?c1 ?c2 ?c3 ?c4 ?c5 ?_)
        case c1 => exact one_cell _ _ _
        case c2 => intro u hu; simp at hu; subst hu; rfl
        case c3 => unfold maxLen; omega
        case c4 => omega
        case c5 => have := hbe.size; simp; omega
        intro v' w2 hown2 hg _
        go_wp2
        go_roundw
        case rel =>
          refine ⟨k + 1, by omega, by go_num, ?_, (hbe.alloc hbe.size _).grown hg (by have := hbe.size; simp; omega) (fun j hj => (hown.lt j hj).1)⟩
          rw [R'.out]; simpa using hown2
        case measure => simp [intOf]; omega
    · have hkn : k = n := by omega
      have e := hn.out
      have H := Lib.hid (show vs.take k = vs by rw [List.take_of_length_le (by omega)])
      clear hkn e
      go_wp2
      go_ret
      rw [H.out] at hown
      exact made_of (Below.refl _ _) hown hbe

/-- Two lists that are one: true; and nothing that was there is another. -/
theorem ints_same (A B : Option Addr) (n c d : Nat) (zs : List Int) (w : World) (hn : Hid (zs.length = n)) (hl : n ≤ 9223372036854775807)
    (ha : IRow w w.heap.size A zs) (hb : IRow w w.heap.size B zs) :
    Calls Try.prog 12 #[.slice A n c, .slice B n d] w fun e w' => e = .returned (.bool true) ∧ Below w.heap.size w w' := by
  go_enter Try.func12, Try.ntmps12
  go_wp2
  go_loopw [5] (fun i wr => ∃ k : Nat, k ≤ n ∧ i = .int .i64 k ∧ Below w.heap.size w wr)
    (fun i _ => n - (intOf i).toNat)
  case atStart => exact ⟨0, Nat.zero_le _, rfl, Below.refl _ _⟩
  case round =>
    obtain ⟨k, hk, rfl, hbe⟩ := hrel
    by_cases hlt : k < n
    · obtain ⟨x, hx⟩ : ∃ x, zs[k]? = some x := ⟨_, List.getElem?_eq_getElem (by have := hn.out; omega)⟩
      obtain ⟨b, off, hA, hbk, hc⟩ := (ha.below hbe) k x hx
      obtain ⟨b', off', hB, hbk', hc'⟩ := (hb.below hbe) k x hx
      subst hA
      subst hB
      clear hx
      go_wp2
      go_quiet (fail)
      go_wp2
      go_roundw
      case rel => exact ⟨k + 1, by omega, by go_num, below_drewN hbe _⟩
      case measure => simp [intOf]; omega
    · go_wp2
      go_ret
      exact ⟨rfl, hbe⟩

/-- Is a number in a list? The world stays as it was. -/
theorem in_any (A : Option Addr) (n c : Nat) (zs : List Int) (z : Int) (w : World) (B : Nat) (hn : Hid (zs.length = n)) (hl : n ≤ 9223372036854775807)
    (ha : IRow w B A zs) :
    Calls Try.prog 21 #[.slice A n c, .int .i64 z] w fun e w' => e = .returned (.bool (Tp.has zs z)) ∧ w' = w := by
  go_enter Try.func21, Try.ntmps21
  go_wp2
  go_loop [5] (fun i => ∃ k : Nat, k ≤ n ∧ i = .int .i64 k ∧ Tp.has (zs.take k) z = false)
    (fun i => n - (intOf i).toNat)
  case atStart => exact ⟨0, Nat.zero_le _, rfl, rfl⟩
  case round =>
    obtain ⟨k, hk, rfl, hno⟩ := hrel
    by_cases hlt : k < n
    · obtain ⟨x, hx⟩ : ∃ x, zs[k]? = some x := ⟨_, List.getElem?_eq_getElem (by have := hn.out; omega)⟩
      obtain ⟨b, off, hA, hbk, hc⟩ := ha k x hx
      subst hA
      have hs : zs.take (k + 1) = zs.take k ++ [x] := by rw [List.take_add_one, hx]; rfl
      cases hp : (x == z)
      · have H := Lib.hid (show Tp.has (zs.take (k + 1)) z = false by
          unfold Tp.has at hno ⊢
          rw [hs, List.contains_eq_any_beq, List.any_append, ← List.contains_eq_any_beq, hno]
          have : (z == x) = false := by rw [beq_eq_false_iff_ne] at hp ⊢; exact fun h => hp h.symm
          simp [this])
        clear hx hs hno
        go_wp2
        go_round
        case rel => exact ⟨k + 1, by omega, by go_num, H.out⟩
        case measure => simp [intOf]; omega
      · have H := Lib.hid (show Tp.has zs z = true by
          unfold Tp.has
          rw [List.contains_iff_mem]
          have := List.mem_of_getElem? hx
          rw [beq_iff_eq] at hp
          exact hp ▸ this)
        clear hx hs hno
        go_wp2
        go_ret
        exact ⟨by rw [H.out]; rfl, rfl⟩
    · have e := hn.out
      have H := Lib.hid (show Tp.has zs z = false by rw [List.take_of_length_le (by omega)] at hno; exact hno)
      clear e hno
      go_wp2
      go_ret
      exact ⟨by rw [H.out]; rfl, rfl⟩
end Go.Proofs.Ytfcbpfopibilcaa

