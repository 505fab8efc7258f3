/- The document's Next, Without and With, by their contracts. -/
import Derived.Test.YtfkjgpfeiijnkaaDoorZAll
namespace Go.Proofs.YtfkjgpfeiijnkaaDoor
open Go.RowKit
set_option linter.unusedVariables false

/-- A plain address, or none. -/
def Flat (A : Option Addr) : Prop := ∀ ad, A = some ad → ad.spot = none
/-- What a call leaves that tells a row. -/
def TellF (w0 : World) (zs : List Int) (e : Ending) (w' : World) : Prop :=
  ∃ A n c, e = .returned (.slice A n c) ∧ Row w' A n c zs ∧ Flat A ∧ Below w0.heap.size w0 w'
theorem Row.flat_own {w : World} {base n : Nat} {e : TypeId} {v : Value} {zs : List Int} (h : w.ownsRow base e 1 v n (zs.map (Value.int .i64))) : ∃ A c, v = .slice A n c ∧ Row w A n c zs ∧ Flat A := by
  obtain ⟨A, c, rfl, hr⟩ := Row.of_own h
  refine ⟨A, c, rfl, hr, fun ad e => ?_⟩
  subst e
  rcases h.2 with ⟨h0, _⟩ | ⟨g, cap, cur, e1, _⟩
  · cases h0
  · injection e1 with e1
    injection e1 with e1
    rw [e1]
theorem MadeO.tellF {w0 w' : World} {zs : List Int} {e : Ending} (h : MadeO w0 zs e w') : TellF w0 zs e w' := by
  obtain ⟨v, n, rfl, ho, hb⟩ := h
  obtain ⟨A, c, rfl, hr, hf⟩ := Row.flat_own ho
  exact ⟨A, n, c, rfl, hr, hf, hb⟩
theorem find_here {zs : List Int} {k : Nat} {x n : Int} (hx : zs[k]? = some x) (h0 : ∀ z ∈ zs.take k, z < n) (h : n ≤ x) : zs.find? (fun z => decide (n ≤ z)) = some x := by
  have hk := (List.getElem?_eq_some_iff.1 hx).1
  have e : zs = zs.take k ++ x :: zs.drop (k + 1) := by
    rw [← (List.getElem?_eq_some_iff.1 hx).2, List.getElem_cons_drop, List.take_append_drop]
  rw [e, List.find?_append, List.find?_eq_none.2 (fun z hz => by have := h0 z hz; simp; omega)]
  simp [h]
theorem find_none {zs : List Int} {n : Int} (h0 : ∀ z ∈ zs, z < n) : zs.find? (fun z => decide (n ≤ z)) = none :=
  List.find?_eq_none.2 (fun z hz => by have := h0 z hz; simp; omega)
theorem nextL_in {zs : List Int} {a n : Int} (ha : zs[0]? = some a) (h1 : 0 ≤ n) (h2 : n ≤ 63) : Zp.nextL zs n = (zs.find? fun z => decide (n ≤ z)).getD a := by
  cases zs with
  | nil => cases ha
  | cons b t =>
    injection ha with ha
    subst ha
    show (if n < 0 ∨ 63 < n then b else _) = _
    rw [if_neg (by omega)]
theorem nextL_out {zs : List Int} {a n : Int} (ha : zs[0]? = some a) (h : n < 0 ∨ 63 < n) : Zp.nextL zs n = a := by
  cases zs with
  | nil => cases ha
  | cons b t =>
    injection ha with ha
    subst ha
    show (if n < 0 ∨ 63 < n then b else _) = _
    rw [if_pos h]
theorem take_lt {zs : List Int} {k : Nat} {x n : Int} (hx : zs[k]? = some x) (h0 : ∀ z ∈ zs.take k, z < n) (h : x < n) : ∀ z ∈ zs.take (k + 1), z < n := by
  intro z hz
  rw [List.take_add_one, hx] at hz
  rcases List.mem_append.1 hz with hz | hz
  · exact h0 z hz
  · simp at hz; subst hz; exact h
set_option maxHeartbeats 4000000 in
theorem refNext_any (A : Option Addr) (m c : Nat) (zs : List Int) (n : Int) (w : World) (h : Row w A m c zs) :
    Calls Tryd.prog 21 #[.slice A m c, .int .i64 n] w fun e w' => e = .returned (.int .i64 (Zp.nextL zs n)) ∧ w' = w := by
  have h1 := h.cap
  have h2 := h.most
  have H := Lib.hid h
  by_cases h0 : m = 0
  · subst h0
    have hz : zs = [] := List.length_eq_zero_iff.1 h.len
    subst hz
    clear h
    go_enter Tryd.func21, Tryd.ntmps21
    go_wp2_with fail
    go_ret
    exact ⟨rfl, rfl⟩
  · obtain ⟨b, off, rfl, hb, hcs⟩ := h.cells (by omega)
    have HC := Lib.hid hcs
    obtain ⟨a, ha⟩ : ∃ a, zs[0]? = some a := ⟨_, List.getElem?_eq_getElem (by rw [h.len]; omega)⟩
    have hc0 := hcs 0 a ha
    rw [Nat.add_zero] at hc0
    have HA := Lib.hid ha
    have t0 : ((m : Int) == 0) = false := by rw [beq_eq_false_iff_ne]; omega
    have t1 : (0 : Int) < (m : Int) := by omega
    have t2 : 0 < m := by omega
    clear h hcs ha
    by_cases hn0 : n < 0
    · have HN := Lib.hid (nextL_out HA.out (.inl hn0))
      go_enter Tryd.func21, Tryd.ntmps21
      go_wp2_with fail
      go_ret
      exact ⟨by rw [HN.out]; rfl, rfl⟩
    · by_cases hn1 : 63 < n
      · have HN := Lib.hid (nextL_out HA.out (.inr hn1))
        go_enter Tryd.func21, Tryd.ntmps21
        go_wp2_with fail
        go_ret
        exact ⟨by rw [HN.out]; rfl, rfl⟩
      · have HN := Lib.hid (nextL_in (n := n) HA.out (by omega) (by omega))
        go_enter Tryd.func21, Tryd.ntmps21
        go_wp2_with fail
        go_loop [5] (fun i => ∃ k : Nat, k ≤ m ∧ i = .int .i64 k ∧ Hid (∀ z ∈ zs.take k, z < n)) (fun i => m - (intOf i).toNat)
        case atStart => exact ⟨0, Nat.zero_le _, rfl, Lib.hid (fun z hz => by simp at hz)⟩
        case round =>
          obtain ⟨k, hk, rfl, HK⟩ := hrel
          by_cases hlt : k < m
          · obtain ⟨x, hx⟩ : ∃ x, zs[k]? = some x := ⟨_, List.getElem?_eq_getElem (by rw [H.out.len]; omega)⟩
            have hc := HC.out k x hx
            by_cases hxn : x < n
            · have HK2 := Lib.hid (take_lt hx HK.out hxn)
              clear hx
              go_wp2_with fail
              go_round
              case rel => exact ⟨k + 1, by omega, by go_num, HK2⟩
              case measure => simp [intOf]; omega
            · have HF := Lib.hid (find_here hx HK.out (by omega))
              clear hx
              go_wp2_with fail
              go_ret
              exact ⟨by rw [HN.out, HF.out]; rfl, rfl⟩
          · obtain rfl : k = m := by omega
            have HF := Lib.hid (find_none (zs := zs) (n := n) (fun z hz => HK.out z (by rw [List.take_of_length_le (by rw [H.out.len]; exact Nat.le_refl _)]; exact hz)))
            go_wp2_with fail
            go_ret
            exact ⟨by rw [HN.out, HF.out]; rfl, rfl⟩
theorem outL_hit {zs : List Int} {k : Nat} {n : Int} (hx : zs[k]? = some n) : Zp.outL (zs.take (k + 1)) n = Zp.outL (zs.take k) n := by
  rw [List.take_add_one, hx]; unfold Zp.outL; rw [List.filter_append]; simp
theorem outL_miss {zs : List Int} {k : Nat} {x n : Int} (hx : zs[k]? = some x) (h : x ≠ n) : Zp.outL (zs.take (k + 1)) n = Zp.outL (zs.take k) n ++ [x] := by
  rw [List.take_add_one, hx]; unfold Zp.outL; rw [List.filter_append]; simp [h]
theorem outL_le (zs : List Int) (k : Nat) (n : Int) : (Zp.outL (zs.take k) n).length ≤ k := by
  unfold Zp.outL
  have h1 := List.length_filter_le (fun x => x != n) (zs.take k)
  have h2 := List.length_take_le k zs
  omega
set_option maxHeartbeats 4000000 in
theorem refWithout_any (A : Option Addr) (m c : Nat) (zs : List Int) (n : Int) (w : World) (h : Row w A m c zs) (hm : m ≤ 1000) :
    Calls Tryd.prog 19 #[.slice A m c, .int .i64 n] w (MadeO w (Zp.outL zs n)) := by
  obtain ⟨i0, hi, hz0, hz1, hz2⟩ := info_parts info_int
  have h1 := h.cap
  have h2 := h.most
  have H := Lib.hid h
  clear h
  go_enter Tryd.func19, Tryd.ntmps19
  go_wp2_with fail
  go_loopw [5, 6] (fun v i wr => ∃ (k : Nat) (lw : List Int) (d : Nat), k ≤ m ∧ i = .int .i64 k ∧ d ≤ 1000 ∧ Hid (lw = Zp.outL (zs.take k) n) ∧ wr.ownsRow w.heap.size 3 1 v d (lw.map (Value.int .i64)) ∧ Hid (Below w.heap.size w wr)) (fun _ i _ => m - (intOf i).toNat)
  case atStart => exact ⟨0, [], 0, Nat.zero_le _, rfl, by omega, Lib.hid rfl, World.ownsRow_nil _ _ _ _, Lib.hid (Below.refl _ _)⟩
  case round =>
    obtain ⟨k, lw, d, hk, rfl, hd, HW, hown, HB⟩ := hrel
    by_cases hlt : k < m
    · obtain ⟨x, hx⟩ : ∃ x, zs[k]? = some x := ⟨_, List.getElem?_eq_getElem (by rw [H.out.len]; omega)⟩
      obtain ⟨b, off, rfl, hb, hcs⟩ := (H.out.below HB.out).cells (by omega)
      have hc := hcs k x hx
      have hle := outL_le zs (k + 1) n
      clear hcs
      by_cases hxn : x = n
      · subst hxn
        have HE := Lib.hid (outL_hit hx)
        have t1 : (x != x) = false := by simp
        clear hx
        go_wp2_with fail
        go_roundw
        case rel => exact ⟨k + 1, lw, d, by omega, by go_num, hd, Lib.hid (by rw [HE.out]; exact HW.out), hown, HB⟩
        case measure => simp [intOf]; omega
      · have HE := Lib.hid (outL_miss hx hxn)
        have t1 : (x != n) = true := by simp [hxn]
        have hd2 : d + 1 ≤ 1000 := by
          have e1 := own_len hown
          rw [HE.out, List.length_append, ← HW.out] at hle
          simp at hle; omega
        clear hx hxn hle
        go_wp2_with (at_builtin; refine wpList_append_own _ rfl _ _ 23 rfl w.heap.size 3 i0 (.int .i64 0) 1 8 Tryd.underlying23 hi hz0 hz1 hz2 rfl (by decide) _ _ _ rfl (hown.alloc _) ⟨wr.heap.size, 0, none⟩ 1 1 [.int .i64 x] rfl rfl ?c1 ?c2 ?c3 ?c4 ?c5 ?_)
        case c1 => exact one_cell _ _ _
        case c2 => intro u hu; simp at hu; subst hu; rfl
        case c3 => unfold maxLen; omega
        case c4 => omega
        case c5 => have := HB.out.size; simp; omega
        intro v' w2 hown2 hg _
        have HO := Lib.hid (show w2.ownsRow w.heap.size 3 1 v' (d + 1) ((lw ++ [x]).map (Value.int .i64)) by simpa using hown2)
        have HB2 := Lib.hid ((HB.out.alloc HB.out.size (.cells #[.int .i64 x] 3)).grown hg (by have := HB.out.size; simp; omega) (fun j hj => (hown.lt j hj).1))
        clear hown2 hg hown hc
        go_wp2_with fail
        go_roundw
        case rel => exact ⟨k + 1, lw ++ [x], d + 1, by omega, by go_num, hd2, Lib.hid (by rw [HE.out, HW.out]), HO.out, HB2⟩
        case measure => simp [intOf]; omega
    · obtain rfl : k = m := by omega
      have HE := Lib.hid (show Zp.outL zs n = lw by rw [HW.out, List.take_of_length_le (by rw [H.out.len]; exact Nat.le_refl _)])
      go_wp2_with fail
      go_ret
      exact ⟨_, d, rfl, by rw [HE.out]; exact hown, HB.out⟩
end Go.Proofs.YtfkjgpfeiijnkaaDoor

