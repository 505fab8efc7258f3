/- The document's With, by its contract. -/
import Derived.Test.YtfkjgpfeiijnkaaDoorZRef
namespace Go.Proofs.YtfkjgpfeiijnkaaDoor
open Go.RowKit
set_option linter.unusedVariables false

theorem takeWhile_step {zs : List Int} {k : Nat} {x n : Int} (hx : zs[k]? = some x) (h0 : zs.takeWhile (· < n) = zs.take k ++ (zs.drop k).takeWhile (· < n)) (h : x < n) :
    zs.takeWhile (· < n) = zs.take (k + 1) ++ (zs.drop (k + 1)).takeWhile (· < n) := by
  have hk := (List.getElem?_eq_some_iff.1 hx).1
  rw [h0, List.take_add_one, hx, List.drop_eq_getElem_cons hk, (List.getElem?_eq_some_iff.1 hx).2, List.takeWhile_cons_of_pos (by simpa using h)]
  simp
theorem takeWhile_stop {zs : List Int} {k : Nat} {x n : Int} (hx : zs[k]? = some x) (h0 : zs.takeWhile (· < n) = zs.take k ++ (zs.drop k).takeWhile (· < n)) (h : ¬ x < n) :
    zs.takeWhile (· < n) = zs.take k := by
  have hk := (List.getElem?_eq_some_iff.1 hx).1
  rw [h0, List.drop_eq_getElem_cons hk, (List.getElem?_eq_some_iff.1 hx).2, List.takeWhile_cons_of_neg (by simpa using h), List.append_nil]
theorem withL_at {zs : List Int} {k : Nat} {n : Int} (hk : k ≤ zs.length) (ht : zs.takeWhile (· < n) = zs.take k) (h0 : 0 ≤ n) (h1 : n ≤ 63) (h : n ∉ zs) : Zp.withL zs n = zs.take k ++ [n] ++ zs.drop k := by
  unfold Zp.withL
  rw [if_neg (by rintro (e | e | e); omega; omega; exact h e), ht, List.length_take, Nat.min_eq_left hk]
theorem has_of {zs : List Int} {n : Int} : Tp.has zs n = decide (n ∈ zs) := by
  unfold Tp.has; rw [Bool.eq_iff_iff, List.contains_iff_mem, decide_eq_true_eq]
theorem Row.flat {w : World} {A : Option Addr} {m c : Nat} {zs : List Int} (h : Row w A m c zs) (hf : Flat A) : (A = none ∧ m = 0 ∧ c = 0) ∨ ∃ b off, A = some ⟨b, off, none⟩ := by
  cases A with
  | none => have h0 := h.nil rfl; have h1 := h.cap; exact .inl ⟨rfl, by omega, h0⟩
  | some ad =>
    obtain ⟨b, off, sp⟩ := ad
    have := hf _ rfl
    simp only at this
    subst this
    exact .inr ⟨b, off, rfl⟩
set_option maxHeartbeats 4000000 in
/-- The first member. -/
theorem refWith_nil (n : Int) (w : World) (hn0 : 0 ≤ n) (hn1 : n ≤ 63) :
    Calls Tryd.prog 11 #[.slice none 0 0, .int .i64 n] w (TellF w (Zp.withL [] n)) := by
  obtain ⟨i0, hi, hz0, hz1, hz2⟩ := info_parts info_int
  have HL := Lib.hid (show Zp.withL [] n = [n] from withL_at (zs := []) (k := 0) (Nat.zero_le _) rfl hn0 hn1 (fun h => by cases h))
  have HR := Row.nothing w
  have hb := below_new w (.cells #[.int .i64 n] 3)
  go_enter Tryd.func11, Tryd.ntmps11
  go_wp2_with fail
  refine (in_any none 0 0 [] n _ w.heap.size (Lib.hid rfl) (by omega) HR.row).mono ?_
  rintro e w1 ⟨rfl, rfl⟩
  rw [show Tp.has [] n = false from rfl]
  go_wp2_with fail
  go_loopw [5, 6] (fun v i wr => v = .slice none 0 0 ∧ i = .int .i64 0 ∧ Hid (Below w1.heap.size w1 wr)) (fun _ _ _ => 0)
  case atStart => exact ⟨rfl, rfl, Lib.hid (Below.refl _ _)⟩
  case round =>
    obtain ⟨rfl, rfl, HB⟩ := hrel
    go_wp2_with (at_builtin; refine wpList_append_own _ rfl _ _ 23 rfl w1.heap.size 3 i0 (.int .i64 0) 1 8 Tryd.underlying23 hi hz0 hz1 hz2 rfl (by decide) _ 0 [] rfl (World.ownsRow_nil _ _ _ _) ⟨wr.heap.size, 0, none⟩ 1 1 [.int .i64 n] rfl rfl (one_cell _ _ _) (by intro u hu; simp at hu; subst hu; rfl) (by unfold maxLen; omega) (by omega) (by have := HB.out.size; simp; omega) ?_)
    intro v' w2 hown2 hg _
    have HO := Lib.hid (show w2.ownsRow w1.heap.size 3 1 v' 1 ([n].map (Value.int .i64)) by simpa using hown2)
    have HB2 := Lib.hid ((HB.out.alloc HB.out.size (.cells #[.int .i64 n] 3)).grown hg (by have := HB.out.size; simp; omega) (fun j hj => by cases hj))
    obtain ⟨A2, c2, rfl, hr, hf⟩ := Row.flat_own HO.out
    clear hown2 hg
    go_wp2_with (at_builtin; refine wpList_append_row rfl (.tmp 47) (.tmp 50) rfl w1.heap.size (.slice A2 1 c2) 1 [n] rfl HO.out none 0 0 [] rfl (Row.nothing _) (by omega) (by have := HB2.out.size; omega) ?_)
    intro v3 w3 hown3 hg3
    obtain ⟨A3, c3, rfl, hr3, hf3⟩ := Row.flat_own (zs := [n] ++ []) hown3
    have HM := Lib.hid (show TellF w1 (Zp.withL [] n) (.returned (.slice A3 (1 + 0) c3)) w3 from ⟨A3, _, c3, rfl, by rw [HL.out]; exact hr3, hf3, HB2.out.grown hg3 HB2.out.size (fun j hj => (HO.out.lt j hj).1)⟩)
    clear hown3 hg3 hr3 hf3
    go_wp2_with fail
    go_ret
    exact HM.out
set_option maxHeartbeats 4000000 in
/-- A number that is no member yet, and can be one. -/
theorem refWith_new (b off : Nat) (m c : Nat) (zs : List Int) (n : Int) (w : World) (h : Row w (some ⟨b, off, none⟩) m c zs) (hm : m ≤ 1000) (hn0 : 0 ≤ n) (hn1 : n ≤ 63) (hn : n ∉ zs) :
    Calls Tryd.prog 11 #[.slice (some ⟨b, off, none⟩) m c, .int .i64 n] w (TellF w (Zp.withL zs n)) := by
  obtain ⟨i0, hi, hz0, hz1, hz2⟩ := info_parts info_int
  have h1 := h.cap
  have h2 := h.most
  have H := Lib.hid h
  have HN := Lib.hid hn
  have HH := Lib.hid (show Tp.has zs n = false by rw [has_of, decide_eq_false_iff_not]; exact hn)
  clear h hn
  go_enter Tryd.func11, Tryd.ntmps11
  go_wp2_with fail
  refine (in_any (some ⟨b, off, none⟩) m c zs n _ w.heap.size (Lib.hid H.out.len) (by omega) H.out.row).mono ?_
  rintro e w1 ⟨rfl, rfl⟩
  rw [HH.out]
  go_wp2_with fail
  go_loopw [5, 6] (fun v i wr => ∃ (k : Nat), k ≤ m ∧ i = .int .i64 k ∧ Hid (zs.takeWhile (· < n) = zs.take k ++ (zs.drop k).takeWhile (· < n)) ∧ wr.ownsRow w1.heap.size 3 1 v k ((zs.take k).map (Value.int .i64)) ∧ Hid (Below w1.heap.size w1 wr)) (fun _ i _ => m - (intOf i).toNat)
  case atStart => exact ⟨0, Nat.zero_le _, rfl, Lib.hid (by simp), World.ownsRow_nil _ _ _ _, Lib.hid (Below.refl _ _)⟩
  case round =>
    obtain ⟨k, hk, rfl, HK, hown, HB⟩ := hrel
    by_cases hlt : k < m
    · obtain ⟨x, hx⟩ : ∃ x, zs[k]? = some x := ⟨_, List.getElem?_eq_getElem (by rw [H.out.len]; omega)⟩
      have hc := (H.out.below HB.out).icells k (.int .i64 x) (by rw [List.getElem?_map, hx]; rfl)
      rw [add_lit'] at hc
      by_cases hxn : x < n
      · have HK2 := Lib.hid (takeWhile_step hx HK.out hxn)
        have HE := Lib.hid (show zs.take (k + 1) = zs.take k ++ [x] by rw [List.take_add_one, hx]; rfl)
        clear hx
        go_wp2_with (at_builtin; refine wpList_append_own _ rfl _ _ 23 rfl w1.heap.size 3 i0 (.int .i64 0) 1 8 Tryd.underlying23 hi hz0 hz1 hz2 rfl (by decide) _ _ _ rfl (hown.alloc _) ⟨wr.heap.size, 0, none⟩ 1 1 [.int .i64 x] rfl rfl (one_cell _ _ _) (by intro u hu; simp at hu; subst hu; rfl) (by unfold maxLen; omega) (by omega) (by have := HB.out.size; simp; omega) ?_)
        intro v' w2 hown2 hg _
        have HO := Lib.hid (show w2.ownsRow w1.heap.size 3 1 v' (k + 1) ((zs.take (k + 1)).map (Value.int .i64)) by rw [HE.out]; simpa using hown2)
        have HB2 := Lib.hid ((HB.out.alloc HB.out.size (.cells #[.int .i64 x] 3)).grown hg (by have := HB.out.size; simp; omega) (fun j hj => (hown.lt j hj).1))
        clear hown2 hg hown hc
        go_wp2_with fail
        go_roundw
        case rel => exact ⟨k + 1, by omega, by go_num, HK2, HO.out, HB2⟩
        case measure => simp [intOf]; omega
      · have HT := Lib.hid (takeWhile_stop hx HK.out hxn)
        clear hx
        obtain ⟨Av, cv, rfl⟩ := own_form hown
        have HL := Lib.hid (withL_at (n := n) (by rw [H.out.len]; exact hk) HT.out hn0 hn1 HN.out)
        go_wp2_with (at_builtin; refine wpList_append_own _ rfl _ _ 23 rfl w1.heap.size 3 i0 (.int .i64 0) 1 8 Tryd.underlying23 hi hz0 hz1 hz2 rfl (by decide) _ _ _ rfl (hown.alloc _) ⟨wr.heap.size, 0, none⟩ 1 1 [.int .i64 n] rfl rfl (one_cell _ _ _) (by intro u hu; simp at hu; subst hu; rfl) (by unfold maxLen; omega) (by omega) (by have := HB.out.size; simp; omega) ?_)
        intro v' w2 hown2 hg _
        have HO := Lib.hid (show w2.ownsRow w1.heap.size 3 1 v' (k + 1) ((zs.take k ++ [n]).map (Value.int .i64)) by simpa using hown2)
        have HB2 := Lib.hid ((HB.out.alloc HB.out.size (.cells #[.int .i64 n] 3)).grown hg (by have := HB.out.size; simp; omega) (fun j hj => (hown.lt j hj).1))
        clear hown2 hg hown
        obtain ⟨Av2, cv2, rfl⟩ := own_form HO.out
        have HS := Lib.hid ((H.out.below HB2.out).slice k hk)
        have e0 : (k : Int) ≤ (m : Int) := by omega
        have e1 : (k : Int) ≤ (c : Int) := by omega
        by_cases hck : c = k
        · subst hck
          obtain rfl : c = m := by omega
          have HR := Lib.hid (show Row w2 (some ⟨b, off, none⟩) 0 0 (zs.drop c) by have := HS.out; rwa [if_pos rfl, Nat.sub_self] at this)
          go_wp2_with (at_builtin; refine wpList_append_row rfl (.tmp 47) (.tmp 50) rfl w1.heap.size (.slice Av2 (c + 1) cv2) (c + 1) _ rfl HO.out _ _ _ (zs.drop c) rfl HR.out (by omega) (by have := HB2.out.size; omega) ?_)
          intro v3 w3 hown3 hg3
          have hown4 : w3.ownsRow w1.heap.size 3 1 v3 (c + 1 + 0) ((zs.take c ++ [n] ++ zs.drop c).map (Value.int .i64)) := by simpa using hown3
          clear hown3
          obtain ⟨A3, c3, rfl, hr3, hf3⟩ := Row.flat_own hown4
          have HM := Lib.hid (show TellF w1 (Zp.withL zs n) (.returned (.slice A3 (c + 1 + 0) c3)) w3 from ⟨A3, _, c3, rfl, by rw [HL.out]; exact hr3, hf3, HB2.out.grown hg3 HB2.out.size (fun j hj => (HO.out.lt j hj).1)⟩)
          clear hown4 hg3 hr3 hf3
          go_wp2_with fail
          go_ret
          exact HM.out
        · have HR := Lib.hid (show Row w2 (some ⟨b, off + k, none⟩) (m - k) (c - k) (zs.drop k) by have := HS.out; rwa [if_neg hck] at this)
          go_wp2_with (at_builtin; refine wpList_append_row rfl (.tmp 47) (.tmp 50) rfl w1.heap.size (.slice Av2 (k + 1) cv2) (k + 1) _ rfl HO.out _ _ _ (zs.drop k) rfl HR.out (by omega) (by have := HB2.out.size; omega) ?_)
          intro v3 w3 hown3 hg3
          have hown4 : w3.ownsRow w1.heap.size 3 1 v3 (k + 1 + (m - k)) ((zs.take k ++ [n] ++ zs.drop k).map (Value.int .i64)) := by simpa using hown3
          clear hown3
          obtain ⟨A3, c3, rfl, hr3, hf3⟩ := Row.flat_own hown4
          have HM := Lib.hid (show TellF w1 (Zp.withL zs n) (.returned (.slice A3 (k + 1 + (m - k)) c3)) w3 from ⟨A3, _, c3, rfl, by rw [HL.out]; exact hr3, hf3, HB2.out.grown hg3 HB2.out.size (fun j hj => (HO.out.lt j hj).1)⟩)
          clear hown4 hg3 hr3 hf3
          go_wp2_with fail
          go_ret
          exact HM.out
    · have HT := Lib.hid (show zs.takeWhile (· < n) = zs.take k by have := HK.out; rwa [List.drop_of_length_le (by rw [H.out.len]; omega), List.takeWhile_nil, List.append_nil] at this)
      obtain ⟨Av, cv, rfl⟩ := own_form hown
      have HL := Lib.hid (withL_at (n := n) (by rw [H.out.len]; exact hk) HT.out hn0 hn1 HN.out)
      go_wp2_with (at_builtin; refine wpList_append_own _ rfl _ _ 23 rfl w1.heap.size 3 i0 (.int .i64 0) 1 8 Tryd.underlying23 hi hz0 hz1 hz2 rfl (by decide) _ _ _ rfl (hown.alloc _) ⟨wr.heap.size, 0, none⟩ 1 1 [.int .i64 n] rfl rfl (one_cell _ _ _) (by intro u hu; simp at hu; subst hu; rfl) (by unfold maxLen; omega) (by omega) (by have := HB.out.size; simp; omega) ?_)
      intro v' w2 hown2 hg _
      have HO := Lib.hid (show w2.ownsRow w1.heap.size 3 1 v' (k + 1) ((zs.take k ++ [n]).map (Value.int .i64)) by simpa using hown2)
      have HB2 := Lib.hid ((HB.out.alloc HB.out.size (.cells #[.int .i64 n] 3)).grown hg (by have := HB.out.size; simp; omega) (fun j hj => (hown.lt j hj).1))
      clear hown2 hg hown
      obtain ⟨Av2, cv2, rfl⟩ := own_form HO.out
      have HS := Lib.hid ((H.out.below HB2.out).slice k hk)
      have e0 : (k : Int) ≤ (m : Int) := by omega
      have e1 : (k : Int) ≤ (c : Int) := by omega
      by_cases hck : c = k
      · subst hck
        obtain rfl : c = m := by omega
        have HR := Lib.hid (show Row w2 (some ⟨b, off, none⟩) 0 0 (zs.drop c) by have := HS.out; rwa [if_pos rfl, Nat.sub_self] at this)
        go_wp2_with (at_builtin; refine wpList_append_row rfl (.tmp 47) (.tmp 50) rfl w1.heap.size (.slice Av2 (c + 1) cv2) (c + 1) _ rfl HO.out _ _ _ (zs.drop c) rfl HR.out (by omega) (by have := HB2.out.size; omega) ?_)
        intro v3 w3 hown3 hg3
        have hown4 : w3.ownsRow w1.heap.size 3 1 v3 (c + 1 + 0) ((zs.take c ++ [n] ++ zs.drop c).map (Value.int .i64)) := by simpa using hown3
        clear hown3
        obtain ⟨A3, c3, rfl, hr3, hf3⟩ := Row.flat_own hown4
        have HM := Lib.hid (show TellF w1 (Zp.withL zs n) (.returned (.slice A3 (c + 1 + 0) c3)) w3 from ⟨A3, _, c3, rfl, by rw [HL.out]; exact hr3, hf3, HB2.out.grown hg3 HB2.out.size (fun j hj => (HO.out.lt j hj).1)⟩)
        clear hown4 hg3 hr3 hf3
        go_wp2_with fail
        go_ret
        exact HM.out
      · have HR := Lib.hid (show Row w2 (some ⟨b, off + k, none⟩) (m - k) (c - k) (zs.drop k) by have := HS.out; rwa [if_neg hck] at this)
        go_wp2_with (at_builtin; refine wpList_append_row rfl (.tmp 47) (.tmp 50) rfl w1.heap.size (.slice Av2 (k + 1) cv2) (k + 1) _ rfl HO.out _ _ _ (zs.drop k) rfl HR.out (by omega) (by have := HB2.out.size; omega) ?_)
        intro v3 w3 hown3 hg3
        have hown4 : w3.ownsRow w1.heap.size 3 1 v3 (k + 1 + (m - k)) ((zs.take k ++ [n] ++ zs.drop k).map (Value.int .i64)) := by simpa using hown3
        clear hown3
        obtain ⟨A3, c3, rfl, hr3, hf3⟩ := Row.flat_own hown4
        have HM := Lib.hid (show TellF w1 (Zp.withL zs n) (.returned (.slice A3 (k + 1 + (m - k)) c3)) w3 from ⟨A3, _, c3, rfl, by rw [HL.out]; exact hr3, hf3, HB2.out.grown hg3 HB2.out.size (fun j hj => (HO.out.lt j hj).1)⟩)
        clear hown4 hg3 hr3 hf3
        go_wp2_with fail
        go_ret
        exact HM.out
theorem row_below_refl {w : World} {A : Option Addr} {m c : Nat} {zs : List Int} (h : Row w A m c zs) (hf : Flat A) : TellF w zs (.returned (.slice A m c)) w := ⟨A, m, c, rfl, h, hf, Below.refl _ _⟩
set_option maxHeartbeats 4000000 in
theorem refWith_any (A : Option Addr) (m c : Nat) (zs : List Int) (n : Int) (w : World) (h : Row w A m c zs) (hf : Flat A) (hm : m ≤ 1000) :
    Calls Tryd.prog 11 #[.slice A m c, .int .i64 n] w (TellF w (Zp.withL zs n)) := by
  have h1 := h.cap
  have h2 := h.most
  have H := Lib.hid h
  have HF := Lib.hid hf
  by_cases hn : n < 0 ∨ 63 < n ∨ n ∈ zs
  · have HL := Lib.hid (show Zp.withL zs n = zs from if_pos hn)
    by_cases hn0 : n < 0
    · clear hn h hf
      go_enter Tryd.func11, Tryd.ntmps11
      go_wp2_with fail
      go_ret
      rw [HL.out]; exact row_below_refl H.out HF.out
    · by_cases hn1 : 63 < n
      · clear hn h hf
        go_enter Tryd.func11, Tryd.ntmps11
        go_wp2_with fail
        go_ret
        rw [HL.out]; exact row_below_refl H.out HF.out
      · have HH := Lib.hid (show Tp.has zs n = true by rw [has_of, decide_eq_true_eq]; rcases hn with e | e | e; omega; omega; exact e)
        clear hn h hf
        go_enter Tryd.func11, Tryd.ntmps11
        go_wp2_with fail
        refine (in_any A m c zs n _ w.heap.size (Lib.hid H.out.len) (by omega) H.out.row).mono ?_
        rintro e w1 ⟨rfl, rfl⟩
        rw [HH.out]
        go_wp2_with fail
        go_ret
        rw [HL.out]; exact row_below_refl H.out HF.out
  · have hn0 : 0 ≤ n := by omega
    have hn1 : n ≤ 63 := by omega
    have hn2 : n ∉ zs := fun e => hn (.inr (.inr e))
    rcases h.flat hf with ⟨rfl, rfl, rfl⟩ | ⟨b, off, rfl⟩
    · have hz : zs = [] := List.length_eq_zero_iff.1 h.len
      subst hz
      exact refWith_nil n w hn0 hn1
    · exact refWith_new b off m c zs n w h hm hn0 hn1 hn2
end Go.Proofs.YtfkjgpfeiijnkaaDoor

