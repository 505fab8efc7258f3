/- The document's Parse, by its contract. -/
import Derived.Test.YtejhlenckdkonaaDoorCRd
import Derived.Test.YtejhlenckdkonaaDoorVx
namespace Go.Proofs.YtejhlenckdkonaaDoor
open Go.RowKit
set_option linter.unusedVariables false

theorem info_ins : (Tryd.prog.info? 42).map (fun i => (i.zero, i.size, i.bytes)) = some (some (.agg #[.int .i64 0, .int .i64 0]), 2, 16) := by kernel_rfl
theorem str_mid (S : List UInt8) (f k : Nat) : (str S).extract f k = str ((S.take k).drop f) := by
  apply ByteArray.ext
  apply Array.ext'
  rw [Lib.extract_data, List.drop_take]
  simp [str]
/-- What a call leaves that tells a program, a place and an error. -/
def PTold (w : World) (r : List (Int × Int) × Nat × Int) (e : Ending) (w' : World) : Prop :=
  ∃ A m c, e = .returned (.tuple #[.slice A m c, .int .i64 r.2.1, .int .i64 r.2.2]) ∧ r.1.length = m ∧ m ≤ c ∧ c ≤ 9223372036854775807 ∧ (A = none → c = 0) ∧ VRow w' w'.heap.size A r.1 ∧ Below w.heap.size w w'
theorem PTold.none {w w' : World} {i : Nat} {x : Int} (hb : Below w.heap.size w w') (r : List (Int × Int) × Nat × Int) (hr : r = ([], i, x)) : PTold w r (.returned (.tuple #[.slice Option.none 0 0, .int .i64 i, .int .i64 x])) w' := by
  subst hr
  exact ⟨_, _, _, rfl, rfl, Nat.le_refl _, by omega, fun _ => rfl, fun i x h => by simp at h, hb⟩
theorem own_vform {w : World} {base n : Nat} {e : TypeId} {v : Value} {vs : List (Int × Int)} (h : w.ownsRow base e 2 v n (vcells vs)) : ∃ A c, v = .slice A n c ∧ n ≤ c ∧ c ≤ 9223372036854775807 ∧ (A = none → c = 0) ∧ VRow w w.heap.size A vs := by
  have h2 := h.2
  rcases h2 with ⟨rfl, h0⟩ | ⟨g, cap, cur, rfl, _, _, hnc, hcm, _⟩
  · subst h0
    exact ⟨none, 0, rfl, Nat.le_refl _, by omega, fun _ => rfl, VRow.of_own h⟩
  · exact ⟨some ⟨g, 0, none⟩, cap, rfl, hnc, by unfold maxLen at hcm; omega, (fun e => by cases e), VRow.of_own h⟩
theorem cur_more {S : List UInt8} {k f : Nat} {c : UInt8} (hc : S[k]? = some c) (hf : f ≤ k) : (S.take (k + 1)).drop f = (S.take k).drop f ++ [c] := by
  have hk := (List.getElem?_eq_some_iff.1 hc).1
  rw [List.take_add_one, hc]
  exact List.drop_append_of_le_length (by rw [List.length_take]; omega)
set_option maxHeartbeats 4000000 in
set_option maxRecDepth 100000 in
theorem refParse_any (S : List UInt8) (w : World) (hS : S.length ≤ 100000) :
    Calls Tryd.prog 13 #[.string (str S)] w (PTold w (Cp.parse S)) := by
  obtain ⟨i0, hi, hz0, hz1, hz2⟩ := info_parts info_ins
  obtain ⟨n, hn⟩ : ∃ n, (str S).size = n := ⟨_, rfl⟩
  have hnl : S.length = n := by rw [← hn, str_size]
  have HN := Lib.hid hnl
  have hn2 : n ≤ 100000 := by omega
  clear hnl
  go_enter Tryd.func13, Tryd.ntmps13
  go_wp2_with fail
  go_loopw [5, 6, 7] (fun v g i wr => ∃ (k f d : Nat) (out : List (Int × Int)), k ≤ n ∧ f ≤ k ∧ d ≤ k ∧ i = .int .i64 k ∧ g = .int .i64 f ∧ wr.ownsRow w.heap.size 42 2 v d (vcells out) ∧ Hid (Cp.parse S = Cp.pf (S.drop k) ((S.take k).drop f) out) ∧ Hid (Below w.heap.size w wr)) (fun _ _ i _ => n - (intOf i).toNat)
  case atStart => exact ⟨0, 0, 0, [], Nat.zero_le _, Nat.le_refl _, Nat.le_refl _, rfl, rfl, World.ownsRow_nil _ _ _ _, Lib.hid (by simp [Cp.parse]), Lib.hid (Below.refl _ _)⟩
  case round =>
    obtain ⟨k, f, d, out, hk, hf, hd, rfl, rfl, hown, HP, HB⟩ := hrel
    have hlen := own_vlen hown
    by_cases hlt : k < n
    · obtain ⟨c, hc⟩ : ∃ c, S[k]? = some c := ⟨_, List.getElem?_eq_getElem (by rw [HN.out]; exact hlt)⟩
      have hidx := fun W => idx_str S k c hc W
      have hkS : k < S.length := by rw [HN.out]; exact hlt
      have hdk : S.drop k = c :: S.drop (k + 1) := by rw [List.drop_eq_getElem_cons hkS, (List.getElem?_eq_some_iff.1 hc).2]
      by_cases h10 : c = 10
      · subst h10
        have HM := Lib.hid (show Cp.parse S = match Cp.rd ((S.take k).drop f) with | some x => Cp.pf (S.drop (k + 1)) [] (out ++ [x]) | none => ([], out.length, 2) by rw [HP.out, hdk, Cp.pf, if_pos rfl]; cases Cp.rd ((S.take k).drop f) <;> rfl)
        have hmid := str_mid S f k
        have g1 : (f : Int) ≤ (k : Int) := by omega
        have g2 : (k : Int) ≤ (n : Int) := by omega
        have hcl : ((S.take k).drop f).length ≤ 1000000 := by rw [List.length_drop, List.length_take]; omega
        clear hdk hc
        obtain ⟨Av, cv, rfl, _⟩ := own_vform hown
        go_wp2_with fail
        refine (refRead_any ((S.take k).drop f) wr hcl).mono ?_
        rintro e w1 ⟨rfl, hb1⟩
        have HB1 := Lib.hid (HB.out.trans (hb1.mono HB.out.size))
        have hown1 := own_below hown hb1
        clear hb1 hown
        cases hr : Cp.rd ((S.take k).drop f) with
        | none =>
          have HM2 := Lib.hid (show Cp.parse S = ([], d, 2) by rw [HM.out, hr, ← hlen])
          clear hr hlen
          have hba := Lib.hid (HB1.out.alloc HB1.out.size (.cells #[.int .i64 0, .int .i64 0] 42))
          go_wp2_with fail
          refine bodyPost_ret (v := .tuple #[.slice none 0 0, .int .i64 (d : Nat), .int .i64 2]) (by simp [results, Tryd.results13, go_sem]) rfl ?_
          exact PTold.none hba.out _ HM2.out
        | some x =>
          have HM2 := Lib.hid (show Cp.parse S = Cp.pf (S.drop (k + 1)) ((S.take (k + 1)).drop (k + 1)) (out ++ [x]) by
            rw [HM.out, hr, show (S.take (k + 1)).drop (k + 1) = [] from List.drop_of_length_le (by rw [List.length_take]; omega)])
          clear hr
          obtain ⟨x1, x2⟩ := x
          have hba := Lib.hid (HB1.out.alloc HB1.out.size (.cells #[.int .i64 x1, .int .i64 x2] 42))
          have hown2 := hown1.alloc (.cells #[.int .i64 x1, .int .i64 x2] 42)
          go_wp2_with (at_builtin; refine wpList_append_own _ rfl _ _ 24 rfl w.heap.size 42 i0 (.agg #[.int .i64 0, .int .i64 0]) 2 16 Tryd.underlying24 hi hz0 hz1 hz2 rfl (by decide) _ _ _ rfl (hown2.alloc _) ⟨w1.heap.size + 1, 0, none⟩ 1 1 (vcells [(x1, x2)]) rfl rfl ?c1 ?c2 ?c3 ?c4 ?c5 ?_)
          case c1 => have := two_cells (w1.alloc (.cells #[.int .i64 x1, .int .i64 x2] 42)) x1 x2 42; simpa using this
          case c2 => exact vcells_one' _
          case c3 => unfold maxLen; omega
          case c4 => omega
          case c5 => have := HB1.out.size; simp; omega
          intro v' w2 hownA hg _
          have HO := Lib.hid (show w2.ownsRow w.heap.size 42 2 v' (d + 1) (vcells (out ++ [(x1, x2)])) by rw [vcells_append]; exact hownA)
          have HB2 := Lib.hid ((hba.out.alloc hba.out.size (.cells #[.int .i64 x1, .int .i64 x2] 42)).grown hg (by have := hba.out.size; simp at this; simp; omega) (fun j hj => (hown2.lt j hj).1))
          clear hownA hg hown1 hown2
          go_wp2_with fail
          go_roundw
          case rel => exact ⟨k + 1, k + 1, d + 1, out ++ [(x1, x2)], by omega, by omega, by omega, by go_num, by go_num, HO.out, HM2, HB2⟩
          case measure => simp [intOf]; omega
      · have HM := Lib.hid (show Cp.parse S = Cp.pf (S.drop (k + 1)) ((S.take (k + 1)).drop f) out by rw [HP.out, hdk, Cp.pf, if_neg h10, cur_more hc hf])
        have g1 : ((c.toNat : Int) == 10) = false := by
          rw [beq_eq_false_iff_ne]; intro e; apply h10
          apply UInt8.toNat_inj.1
          have : c.toNat = 10 := by omega
          rw [this]; rfl
        clear hdk hc h10
        go_wp2_with fail
        go_roundw
        case rel => exact ⟨k + 1, f, d, out, by omega, by omega, by omega, by go_num, rfl, hown, HM, HB⟩
        case measure => simp [intOf]; omega
    · obtain rfl : k = n := by omega
      have HPE := Lib.hid (show Cp.parse S = if (S.take k).drop f = [] then (out, 0, 0) else ([], out.length, 2) by rw [HP.out, List.drop_of_length_le (by rw [HN.out]; exact Nat.le_refl _)]; rfl)
      have hcl : ((S.take k).drop f).length = k - f := by rw [List.length_drop, List.length_take, HN.out, Nat.min_self]
      obtain ⟨Av, cv, rfl, hcap, hmost, hnil, hvr⟩ := own_vform hown
      by_cases hfk : f < k
      · have HE := Lib.hid (show Cp.parse S = ([], d, 2) by rw [HPE.out, if_neg (fun e => by rw [e] at hcl; simp at hcl; omega), hlen])
        have g1 : (f : Int) < (k : Int) := by omega
        clear hown hvr hcl hlen hnil
        go_wp2_with fail
        refine bodyPost_ret (v := .tuple #[.slice none 0 0, .int .i64 (d : Nat), .int .i64 2]) (by simp [results, Tryd.results13, go_sem]) rfl ?_
        exact PTold.none HB.out _ HE.out
      · have HE := Lib.hid (show Cp.parse S = (out, 0, 0) by rw [HPE.out, if_pos (List.length_eq_zero_iff.1 (by rw [hcl]; omega))])
        have g1 : ¬ (f : Int) < (k : Int) := by omega
        have HV := Lib.hid hvr
        have HNI := Lib.hid hnil
        have HLE := Lib.hid hlen
        clear hown hvr hcl hlen hnil
        go_wp2_with fail
        refine bodyPost_ret (v := .tuple #[.slice Av d cv, .int .i64 0, .int .i64 0]) (by simp [results, Tryd.results13, go_sem]) rfl ?_
        rw [HE.out]
        exact ⟨Av, d, cv, rfl, HLE.out, hcap, hmost, HNI.out, HV.out, HB.out⟩
end Go.Proofs.YtejhlenckdkonaaDoor

