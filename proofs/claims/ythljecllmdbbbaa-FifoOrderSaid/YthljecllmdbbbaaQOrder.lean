/- FifoOrder: who is pushed first is popped first, of each queue by itself: the call answers true and changes nothing that was there; for every input. -/
import Derived.Test.YthljecllmdbbbaaQCel
namespace Go.Proofs.Ythljecllmdbbbaa.fifoOrder
open Go.ChangeShapes Go.WideShapes Go.ChangeAt Go.RowKit
set_option linter.unusedVariables false

theorem own_apart {w : World} {b1 b2 n1 n2 : Nat} {e1 e2 : TypeId} {v1 v2 : Value} {x y : Int} {l1 l2 : List Int} (h1 : w.ownsRow b1 e1 1 v1 n1 ((x :: l1).map (Value.int .i64))) (h2 : w.ownsRow b2 e2 1 v2 n2 ((y :: l2).map (Value.int .i64))) (hne : x ≠ y) : v1.ownBlock = none ∨ v1.ownBlock ≠ v2.ownBlock := by
  have p1 := own_len h1
  have p2 := own_len h2
  have k1 := h1
  have k2 := h2
  rcases h1.2 with ⟨rfl, _⟩ | ⟨g1, c1, cur1, rfl, _⟩
  · exact .inl rfl
  · rcases h2.2 with ⟨rfl, _⟩ | ⟨g2, c2, cur2, rfl, _⟩
    · exact .inr (by simp [Value.ownBlock])
    · refine .inr fun h => ?_
      have e : g1 = g2 := by simpa [Value.ownBlock] using h
      subst e
      have a1 := k1.cells (g := g1) rfl 0 (.int .i64 x) (by simp)
      have a2 := k2.cells (g := g1) rfl 0 (.int .i64 y) (by simp)
      rw [a1] at a2
      injection a2 with a2
      injection a2 with _ a2
      exact hne a2
/-- Block c holds three rows of the call's own: what is wanted of each queue. -/
structure Want (W : World) (c : Nat) (q : List (List Int)) (v : Nat → Value) : Prop where
  cell : ∀ j, j < 3 → W.cell? ⟨c, j, none⟩ = some (v j)
  frz : ∀ j, W.frozen? ⟨c, j, none⟩ = false
  own : ∀ j, j < 3 → W.ownsRow (c + 1) 3 1 (v j) (q.getD j []).length ((q.getD j []).map (Value.int .i64))
  nil : ∀ j, j < 3 → q.getD j [] = [] → v j = .slice none 0 0
theorem Want.lt {W : World} {c : Nat} {q : List (List Int)} {v : Nat → Value} (h : Want W c q v) : c < W.heap.size := World.block_lt_of_cell? W ⟨c, 0, none⟩ (h.cell 0 (by omega))
theorem Want.step {W W' : World} {c : Nat} {q : List (List Int)} {v : Nat → Value} (h : Want W c q v) (hb : Below W.heap.size W W') : Want W' c q v :=
  ⟨fun j hj => keepcell hb (h.cell j hj), fun j => (hb.frozen (p := ⟨c, j, none⟩) h.lt).trans (h.frz j), fun j hj => own_below (h.own j hj) hb, h.nil⟩
theorem Want.turned {W W' : World} {b c : Nat} {q : List (List Int)} {v : Nat → Value} (h : Want W c q v) (hg : W.grownBy W' (some b)) (hb : b < c) : Want W' c q v :=
  ⟨fun j hj => (hg.cell_far ⟨c, j, none⟩ h.lt (fun e => by injection e with e; simp only at e; omega)).trans (h.cell j hj), fun j => (hg.frozen_far ⟨c, j, none⟩ h.lt (fun e => by injection e with e; simp only at e; omega)).trans (h.frz j),
   fun j hj => (h.own j hj).kept hg (by
    cases he : (v j).ownBlock with
    | none => exact .inl rfl
    | some g => refine .inr fun e => ?_; injection e with e; have := ((h.own j hj).lt g he).1; omega), h.nil⟩
/-- One more is wanted of one queue. -/
theorem Want.more {W w2 : World} {c k : Nat} {q : List (List Int)} {v : Nat → Value} {v' : Value} {g : Int} (h : Want W c q v) (hk : k < 3) (hq : k < q.length) (hok : Qp.Ok 64 q) (hg : W.grownBy w2 (v k).ownBlock)
    (ho : w2.ownsRow (c + 1) 3 1 v' ((q.getD k []).length + 1) ((q.getD k []).map (Value.int .i64) ++ [.int .i64 g])) :
    Want (w2.setCell ⟨c, k, none⟩ v') c (q.set k (q.getD k [] ++ [g])) (fun j => if j = k then v' else v j) := by
  have far : ∀ x : Nat, (some c : Option Nat) ≠ (v k).ownBlock := fun x e => by
    have := ((h.own k hk).lt c e.symm).1; omega
  have hc : ∀ j, w2.cell? ⟨c, j, none⟩ = W.cell? ⟨c, j, none⟩ := fun j => hg.cell_far ⟨c, j, none⟩ h.lt (far 0)
  refine ⟨fun j hj => ?_, fun j => ?_, fun j hj => ?_, fun j hj hn => ?_⟩
  · by_cases e : j = k
    · subst e
      simp only [if_pos]
      exact World.cell?_setCell_same' _ _ _ (by rw [hc, h.cell j hj]; rfl)
    · simp only [if_neg e]
      rw [World.cell?_setCell_other _ _ _ _ (fun e' => by injection e' with _ e'; exact e e'.symm), hc]
      exact h.cell j hj
  · rw [World.frozen?_setCell, hg.frozen_far ⟨c, j, none⟩ h.lt (far 0)]
    exact h.frz j
  · rw [Qp.getD_set hq]
    by_cases e : j = k
    · subst e
      simp only [if_pos]
      rw [List.length_append, List.map_append]
      exact ownsRow_setCell_below ho (by simp) v'
    · simp only [if_neg e]
      refine ownsRow_setCell_below ((h.own j hj).kept hg ?_) (by simp) v'
      have hoj := h.own j hj
      have hok' := h.own k hk
      cases hqj : q.getD j [] with
      | nil => rw [h.nil j hj hqj]; exact .inl rfl
      | cons x t =>
        cases hqk : q.getD k [] with
        | nil => rw [h.nil k hk hqk]; cases (v j).ownBlock <;> simp [Value.ownBlock]
        | cons y s =>
          rw [hqj] at hoj
          rw [hqk] at hok'
          refine own_apart hoj hok' fun exy => ?_
          subst exy
          have hjl : j < q.length := by
            by_cases hj' : j < q.length
            · exact hj'
            · rw [List.getD_eq_getElem?_getD, List.getElem?_eq_none (by omega)] at hqj; cases hqj
          exact e (hok.one j k _ _ x (Qp.getD_at hjl) (Qp.getD_at hq) (by rw [hqj]; simp) (by rw [hqk]; simp))
  · rw [Qp.getD_set hq] at hn
    by_cases e : j = k
    · rw [if_pos e] at hn; simp at hn
    · rw [if_neg e] at hn; simp only [if_neg e]; exact h.nil j hj hn
theorem pop_head {m : Int} {q : List (List Int)} (h : Qp.Ok m q) {k : Nat} {x : Int} {t : List Int} (hk : q[k]? = some (x :: t)) : Qp.pop q k = q.set k t ∧ Qp.first q k = x ∧ Qp.some? q k = true ∧ Qp.of (Qp.pop q k) x = -1 := by
  have ha : Qp.all q k = x :: t := Qp.all_at hk
  have hp : Qp.pop q k = Qp.drop q x := by unfold Qp.pop Qp.first; rw [ha]; rfl
  refine ⟨?_, by unfold Qp.first; rw [ha]; rfl, by unfold Qp.some?; rw [ha]; rfl, by rw [hp]; exact of_gone h x⟩
  rw [hp]
  apply List.ext_getElem?
  intro i
  have hlt := (List.getElem?_eq_some_iff.1 hk).1
  rw [Qp.drop_at, List.getElem?_set]
  by_cases e : k = i
  · subst e
    rw [if_pos rfl, if_pos hlt, hk]
    have := Qp.but_mid (a := []) (h.nodup _ _ hk)
    simpa using this
  · rw [if_neg e]
    cases hi : q[i]? with
    | none => rfl
    | some l =>
      have : x ∉ l := fun hx => e (h.one _ _ _ _ _ hk hi (by simp) hx)
      simp [Qp.but_none this]
theorem pop_none {q : List (List Int)} {k : Nat} (hk : q[k]? = some []) : Qp.pop q k = q ∧ Qp.first q k = 0 ∧ Qp.some? q k = false ∧ Qp.all q k = [] := by
  have ha : Qp.all q k = [] := Qp.all_at hk
  refine ⟨by unfold Qp.pop; rw [ha]; rfl, by unfold Qp.first; rw [ha]; rfl, by unfold Qp.some?; rw [ha]; rfl, ha⟩
theorem want_new (w : World) (T : TypeId) : Want (w.alloc (.cells #[.slice none 0 0, .slice none 0 0, .slice none 0 0] T)) w.heap.size [[], [], []] (fun _ => .slice none 0 0) := by
  have hg : ∀ j, ([[], [], []] : List (List Int)).getD j [] = [] := by intro j; match j with | 0 => rfl | 1 => rfl | 2 => rfl | n + 3 => rfl
  refine ⟨fun j hj => ?_, fun j => by rw [World.frozen?_alloc_at _ _ _ _ rfl], fun j hj => ?_, fun _ _ _ => rfl⟩
  · rw [World.cell?_alloc_at _ _ _ _ rfl]
    match j, hj with
    | 0, _ => rfl
    | 1, _ => rfl
    | 2, _ => rfl
  · rw [hg]; exact World.ownsRow_nil _ _ _ _
/-- What is wanted lies elsewhere than the arena. -/
theorem hfar (W : World) (c : Nat) (q : List (List Int)) (v : Nat → Value) (k b : Nat) {b9 o9 n cp : Nat} (h : Want W c q v) (hk : k < 3) (hv : v k = .slice (some ⟨b9, o9, none⟩) n cp) (hb : b < c) : b9 ≠ b := by
  have ho := h.own k hk
  rw [hv] at ho
  have := (ho.lt b9 rfl).1
  omega
set_option maxHeartbeats 4000000 in
set_option maxRecDepth 100000 in
theorem walk (A : Option Addr) (n c : Nat) (zs : List Int) (w : World) (hn : Hid (zs.length = n)) (hl : n ≤ 9223372036854775807) (hr : BRow w A zs) :
    Calls Try.prog 4 #[.slice A n c] w fun e w' => e = .returned (.bool true) ∧ Below w.heap.size w w' := by
  have HR := Lib.hid hr
  obtain ⟨i0, hi, hz0, hz1, hz2⟩ := info_parts info_int
  clear hr
  go_enter Try.func4, Try.ntmps4
  go_wp2_with fail
  refine (shown_any _).mono ?_
  rintro e w1 ⟨rfl, hb1⟩
  have B1 := Lib.hid hb1
  clear hb1
  go_wp2_with fail
  refine (new_yes 64 3 w1 (by omega) (by omega) (by omega) (by omega)).mono ?_
  rintro e w2 ⟨rfl, hA, hb⟩
  obtain ⟨b, hbb⟩ : ∃ b, b = w1.heap.size := ⟨_, rfl⟩
  rw [← hbb] at hA ⊢
  have hwb : w.heap.size ≤ b := by rw [hbb]; exact B1.out.size
  have A2 := Lib.hid (show Ar w2 b 64 [[], [], []] from hA)
  have B2 := Lib.hid (B1.out.trans (hb.mono B1.out.size))
  have hb2 : b < w2.heap.size := hA.lt
  clear hA hb hbb B1
  have hbn := below_new w2 (.cells #[.slice none 0 0, .slice none 0 0, .slice none 0 0] 52)
  have W2 := Lib.hid (want_new w2 52)
  have A3 := Lib.hid (A2.out.step hbn)
  have B3 := Lib.hid (B2.out.trans (hbn.mono B2.out.size))
  clear hbn
  go_wp2_with fail
  go_loopw [7] (fun i wr => ∃ (k : Nat) (q : List (List Int)) (v : Nat → Value), k ≤ n ∧ k ≤ 64 ∧ i = .int .i64 k ∧ q.length = 3 ∧ Hid (∀ (j : Nat) l g, q[j]? = some l → g ∈ l → g ≤ k) ∧ Hid (Ar wr b 64 q) ∧ Hid (Want wr w2.heap.size q v) ∧ Hid (Below w.heap.size w wr)) (fun i _ => 64 - (intOf i).toNat)
  case atStart => exact ⟨0, _, _, Nat.zero_le _, Nat.zero_le _, rfl, rfl, Lib.hid (by
    intro j l g hj hg
    match j, hj with
    | 0, hj => simp at hj; subst hj; cases hg
    | 1, hj => simp at hj; subst hj; cases hg
    | 2, hj => simp at hj; subst hj; cases hg
    | n + 3, hj => simp at hj), A3, W2, B3⟩
  case round =>
    obtain ⟨k, q, v, hk, hk2, rfl, hq3, HM, HA, HW, HB⟩ := hrel
    by_cases hlt : k < n
    · by_cases h64 : k < 64
      · obtain ⟨z, hz⟩ : ∃ z, zs[k]? = some z := ⟨_, List.getElem?_eq_getElem (by have := hn.out; omega)⟩
        obtain ⟨b', off, hAA, hlt', hc, z0, z1⟩ := HR.out k z hz
        subst hAA
        have hcw : wr.cell? ⟨b', off + k, none⟩ = some (.int .u8 z) := (HB.out.cell (p := ⟨b', off + k, none⟩) hlt').trans hc
        have m1 : z.tmod 3 = z % 3 := Int.tmod_eq_emod_of_nonneg z0
        obtain ⟨r, hr⟩ : ∃ r : Nat, (r : Int) = z % 3 := ⟨(z % 3).toNat, by omega⟩
        have hr3 : r < 3 := by omega
        have m2 : z % 3 = (r : Int) := hr.symm
        have hqr := Qp.getD_at (q := q) (k := r) (by omega)
        have ho : Qp.of q ((k : Int) + 1) < 0 := by
          rw [Qp.of_none]
          intro i l hi hg
          have := HM.out i l _ hi hg
          omega
        have HP := Lib.hid (show Qp.push q ((64 : Nat) : Int) r ((k : Int) + 1) = _ from push_last (k := r) hqr (by omega) (by omega) ho)
        have hrl : r < q.length := by omega
        clear hz hc hr ho hqr
        go_wp2_with fail
        refine (push_any b 64 q r ((k : Int) + 1) wr HA.out).mono ?_
        rintro e w3 ⟨rfl, hA, hg⟩
        rw [HP.out] at hA ⊢
        have HA3 := Lib.hid hA
        have HB3 := Lib.hid (below_turned HB.out hg HB.out.size hwb)
        have HW3 := Lib.hid (HW.out.turned hg hb2)
        have cv := HW3.out.cell r hr3
        have cz := HW3.out.frz r
        have hln : (q.getD r []).length ≤ 64 := by
          have h1 := Qp.all_length (m := 64) HA.out.ok r
          rwa [Qp.all_at (q := q) (k := r) (Qp.getD_at hrl)] at h1
        have ho := HW3.out.own r hr3
        obtain ⟨lr, hlr⟩ : ∃ lr, lr = q.getD r [] := ⟨_, rfl⟩
        rw [← hlr] at ho hln
        have HLR := Lib.hid hlr
        clear hlr
        have hsz := HW3.out.lt
        clear hA hg hcw
        go_wp2_with (at_builtin; refine wpList_append_own _ rfl _ _ 44 rfl (w2.heap.size + 1) 3 i0 (.int .i64 0) 1 8 Try.underlying44 hi hz0 hz1 hz2 rfl (by decide) _ _ _ rfl (ho.alloc _) ⟨w3.heap.size, 0, none⟩ 1 1 [.int .i64 ((k : Int) + 1)] rfl rfl ?c1 ?c2 ?c3 ?c4 ?c5 ?_)
        case c1 => exact one_cell _ _ _
        case c2 => intro u hu; simp at hu; subst hu; rfl
        case c3 => unfold maxLen; omega
        case c4 => omega
        case c5 => simp; omega
        intro v' w4 hown2 hg _
        obtain ⟨A', cp', rfl⟩ := own_form hown2
        have hbn := below_new w3 (.cells #[.int .i64 ((k : Int) + 1)] 3)
        have hne : (some b : Option Nat) ≠ (v r).ownBlock := fun e => by have := (ho.lt b e.symm).1; omega
        have W4 := Lib.hid ((HW3.out.step hbn).more (v' := .slice A' (lr.length + 1) cp') (g := (k : Int) + 1) hr3 hrl HA.out.ok hg (by rw [← HLR.out]; exact hown2))
        have A4 := Lib.hid (((HA3.out.step hbn).grown hg hne).keep (W' := w4.setCell ⟨w2.heap.size, r, none⟩ (.slice A' (lr.length + 1) cp')) (Below.heap_setCell _ _ _ _ (by simp only; omega)))
        have B4 := Lib.hid (((HB3.out.trans (hbn.mono HB3.out.size)).grown hg (by have := HB3.out.size; simp; omega) (fun j hj => by have := (ho.lt j hj).1; omega)).setCell (p := ⟨w2.heap.size, r, none⟩) (by simp only; omega) (.slice A' (lr.length + 1) cp'))
        have hfc : (some w2.heap.size : Option Nat) ≠ (v r).ownBlock := fun e => by have := (ho.lt _ e.symm).1; omega
        have hsz' : w2.heap.size < (w3.alloc (.cells #[.int .i64 ((k : Int) + 1)] 3)).heap.size := by simp; omega
        have e1 : w4.cell? ⟨w2.heap.size, r, none⟩ = some (v r) := (hg.cell_far ⟨w2.heap.size, r, none⟩ hsz' hfc).trans (keepcell hbn cv)
        have e2 : w4.frozen? ⟨w2.heap.size, r, none⟩ = false := (hg.frozen_far ⟨w2.heap.size, r, none⟩ hsz' hfc).trans (keepfree hbn cv cz)
        have HM4 := Lib.hid (show ∀ (j : Nat) l g, (q.set r (q.getD r [] ++ [(k : Int) + 1]))[j]? = some l → g ∈ l → g ≤ ((k + 1 : Nat) : Int) from by
          intro j l g hj hg
          rcases Qp.set_at hj with ⟨rfl, rfl, _⟩ | ⟨_, hj'⟩
          · simp only [List.mem_append, List.mem_singleton] at hg
            rcases hg with hg | rfl
            · have := HM.out j _ g (Qp.getD_at hrl) hg; omega
            · omega
          · have := HM.out j _ g hj' hg; omega)
        clear hown2 hg hbn hne ho hfc hsz' cv cz HP
        go_wp2_with fail
        go_roundw
        case rel => exact ⟨k + 1, _, _, by omega, by omega, by go_num, by rw [List.length_set]; exact hq3, HM4, A4, W4, B4⟩
        case measure => simp [intOf]; omega
      · obtain rfl : k = 64 := by omega
        obtain ⟨wo, rfl⟩ : ∃ wo : World, wo = wr := ⟨_, rfl⟩
        go_wp2_with fail
        go_loopw [9] (fun i wr => ∃ (kk : Nat) (q' : List (List Int)), kk ≤ 3 ∧ i = .int .i64 kk ∧ q'.length = 3 ∧ Hid (∀ j : Nat, kk ≤ j → q'.getD j [] = q.getD j []) ∧ Hid (Ar wr b 64 q') ∧ Hid (Want wr w2.heap.size q v) ∧ Hid (Below w.heap.size w wr)) (fun i _ => 3 - (intOf i).toNat)
        case atStart => exact ⟨0, q, Nat.zero_le _, rfl, hq3, Lib.hid (fun _ _ => rfl), HA, HW, HB⟩
        case round =>
          obtain ⟨kk, q', hkk, rfl, hq', HQ', HA', HW', HB'⟩ := hrel
          by_cases hk3 : kk < 3
          · obtain ⟨lk, hlk⟩ : ∃ lk, lk = q.getD kk [] := ⟨_, rfl⟩
            obtain ⟨N, hN⟩ : ∃ N, N = lk.length := ⟨_, rfl⟩
            have HLK := Lib.hid hlk
            have HN := Lib.hid hN
            have hN64 : N ≤ 64 := by
              have h1 := Qp.all_length (m := 64) HA'.out.ok kk
              rw [Qp.all_at (q := q') (k := kk) (Qp.getD_at (by omega)), HQ'.out kk (Nat.le_refl _), ← hlk, ← hN] at h1
              exact h1
            have own := HW'.out.own kk hk3
            rw [← hlk, ← hN] at own
            obtain ⟨A, cp, hv, _⟩ := Row.of_own own
            have HV := Lib.hid hv
            have HQK := Lib.hid (show q'.getD kk [] = lk.drop 0 by rw [HQ'.out kk (Nat.le_refl _), hlk]; rfl)
            have w0 := HW'.out.cell kk hk3
            rw [HV.out] at w0
            clear hv own hlk hN
            have i3 : (kk : Int) < 3 := by omega
            have d3 : decide ((kk : Int) < 3) = true := by simpa using i3
            obtain ⟨wp, rfl⟩ : ∃ wp : World, wp = wr := ⟨_, rfl⟩
            go_wp2_with fail
            go_loopw [10] (fun i wr => ∃ (j : Nat) (q'' : List (List Int)), j ≤ N ∧ i = .int .i64 j ∧ q''.length = 3 ∧ Hid (q''.getD kk [] = lk.drop j) ∧ Hid (∀ j : Nat, kk + 1 ≤ j → q''.getD j [] = q.getD j []) ∧ Hid (Ar wr b 64 q'') ∧ Hid (Want wr w2.heap.size q v) ∧ Hid (Below w.heap.size w wr)) (fun i _ => N - (intOf i).toNat)
            case atStart => exact ⟨0, q', Nat.zero_le _, rfl, hq', HQK, Lib.hid (fun j hj => HQ'.out j (by omega)), HA', HW', HB'⟩
            case round =>
              obtain ⟨j, q'', hj, rfl, hq'', HD, HQ'', HA'', HW'', HB''⟩ := hrel
              clear w0
              have w0 := HW''.out.cell kk hk3
              rw [HV.out] at w0
              have own := HW''.out.own kk hk3
              rw [← HLK.out, ← HN.out] at own
              obtain ⟨A9, cp9, hv9, R9⟩ := Row.of_own own
              rw [HV.out] at hv9
              injection hv9 with ea eb ec
              subst ea ec
              have hqat := Qp.getD_at (q := q'') (k := kk) (by omega)
              rw [HD.out] at hqat
              clear eb own
              by_cases hjl : j < N
              · obtain ⟨x, hx⟩ : ∃ x, lk[j]? = some x := ⟨_, List.getElem?_eq_getElem (by rw [← HN.out]; exact hjl)⟩
                obtain ⟨b9, o9, rfl, hb9, hc9⟩ := R9.cells (by omega)
                have c9 := hc9 j x hx
                have hdr : lk.drop j = x :: lk.drop (j + 1) := by rw [List.drop_eq_getElem?_toList_append, hx]; rfl
                rw [hdr] at hqat
                obtain ⟨p1, p2, p3, p4⟩ := pop_head HA''.out.ok hqat
                have P2 := Lib.hid p2
                have P3 := Lib.hid p3
                have P4 := Lib.hid p4
                obtain ⟨q3, hq3e⟩ : ∃ q3, q3 = Qp.pop q'' kk := ⟨_, rfl⟩
                rw [← hq3e] at p1 P4
                have PE := Lib.hid hq3e
                have hq3l : q3.length = 3 := by rw [p1, List.length_set]; exact hq''
                have HD3 := Lib.hid (show q3.getD kk [] = lk.drop (j + 1) by rw [p1, Qp.getD_set (by omega), if_pos rfl])
                have HQ3 := Lib.hid (show ∀ j : Nat, kk + 1 ≤ j → q3.getD j [] = q.getD j [] from fun i hi => by rw [p1, Qp.getD_set (by omega), if_neg (by omega)]; exact HQ''.out i hi)
                have x1 : (x != x) = false := by simp
                clear p1 p2 p3 p4 R9 hc9 hx hqat HW' HQ' HA' HB' HQK hdr hq3e
                go_wp2_with fail
                refine (pop_any b 64 q'' kk wr HA''.out).mono ?_
                rintro e w5 ⟨rfl, hA, hg⟩
                rw [P2.out, P3.out]
                rw [← PE.out] at hA
                have A5 := Lib.hid hA
                have B5 := Lib.hid (below_turned HB''.out hg HB''.out.size hwb)
                have W5 := Lib.hid (HW''.out.turned hg hb2)
                have w5c : w5.cell? ⟨b9, o9 + j, none⟩ = some (.int .i64 x) := (hg.cell_far ⟨b9, o9 + j, none⟩ hb9 (fun e => by injection e with e; simp only at e; exact absurd e (hfar _ _ _ _ _ _ HW''.out hk3 HV.out hb2))).trans c9
                have w5d := W5.out.cell kk hk3
                rw [HV.out] at w5d
                clear hA hg c9 w0
                go_wp2_with fail
                refine (of_any b 64 q3 x w5 A5.out).mono ?_
                rintro e w6 ⟨rfl, rfl⟩
                rw [P4.out]
                go_wp2_with fail
                go_roundw
                case rel => exact ⟨j + 1, q3, by omega, by go_num, hq3l, HD3, HQ3, A5, W5, B5⟩
                case measure => simp [intOf]; omega
              · obtain rfl : j = N := by omega
                rw [List.drop_of_length_le (by rw [← HN.out]; exact Nat.le_refl _)] at hqat
                obtain ⟨p1, p2, p3, p4⟩ := pop_none hqat
                have P1 := Lib.hid p1
                have P2 := Lib.hid p2
                have P3 := Lib.hid p3
                have P4 := Lib.hid p4
                clear p1 p2 p3 p4 R9 hqat HW' HQ' HA' HB' HQK
                go_wp2_with fail
                refine (pop_any b 64 q'' kk wr HA''.out).mono ?_
                rintro e w5 ⟨rfl, hA, hg⟩
                rw [P2.out, P3.out]
                rw [P1.out] at hA
                have A5 := Lib.hid hA
                have B5 := Lib.hid (below_turned HB''.out hg HB''.out.size hwb)
                have W5 := Lib.hid (HW''.out.turned hg hb2)
                clear hA hg w0
                go_wp2_with fail
                refine (len_any b 64 q'' kk w5 A5.out).mono ?_
                rintro e w6 ⟨rfl, hb6⟩
                rw [P4.out]
                have A6 := Lib.hid (A5.out.step hb6)
                have B6 := Lib.hid (B5.out.trans (hb6.mono B5.out.size))
                have W6 := Lib.hid (W5.out.step hb6)
                clear hb6
                go_wp2_with fail
                go_roundw
                case rel => exact ⟨kk + 1, q'', by omega, by go_num, hq'', HQ'', A6, W6, B6⟩
                case measure => simp [intOf]; omega
          · obtain rfl : kk = 3 := by omega
            go_wp2_with fail
            go_ret
            exact ⟨rfl, HB'.out⟩
    · obtain rfl : k = n := by omega
      obtain ⟨wo, rfl⟩ : ∃ wo : World, wo = wr := ⟨_, rfl⟩
      go_wp2_with fail
      go_loopw [9] (fun i wr => ∃ (kk : Nat) (q' : List (List Int)), kk ≤ 3 ∧ i = .int .i64 kk ∧ q'.length = 3 ∧ Hid (∀ j : Nat, kk ≤ j → q'.getD j [] = q.getD j []) ∧ Hid (Ar wr b 64 q') ∧ Hid (Want wr w2.heap.size q v) ∧ Hid (Below w.heap.size w wr)) (fun i _ => 3 - (intOf i).toNat)
      case atStart => exact ⟨0, q, Nat.zero_le _, rfl, hq3, Lib.hid (fun _ _ => rfl), HA, HW, HB⟩
      case round =>
        obtain ⟨kk, q', hkk, rfl, hq', HQ', HA', HW', HB'⟩ := hrel
        by_cases hk3 : kk < 3
        · obtain ⟨lk, hlk⟩ : ∃ lk, lk = q.getD kk [] := ⟨_, rfl⟩
          obtain ⟨N, hN⟩ : ∃ N, N = lk.length := ⟨_, rfl⟩
          have HLK := Lib.hid hlk
          have HN := Lib.hid hN
          have hN64 : N ≤ 64 := by
            have h1 := Qp.all_length (m := 64) HA'.out.ok kk
            rw [Qp.all_at (q := q') (k := kk) (Qp.getD_at (by omega)), HQ'.out kk (Nat.le_refl _), ← hlk, ← hN] at h1
            exact h1
          have own := HW'.out.own kk hk3
          rw [← hlk, ← hN] at own
          obtain ⟨A, cp, hv, _⟩ := Row.of_own own
          have HV := Lib.hid hv
          have HQK := Lib.hid (show q'.getD kk [] = lk.drop 0 by rw [HQ'.out kk (Nat.le_refl _), hlk]; rfl)
          have w0 := HW'.out.cell kk hk3
          rw [HV.out] at w0
          clear hv own hlk hN
          have i3 : (kk : Int) < 3 := by omega
          have d3 : decide ((kk : Int) < 3) = true := by simpa using i3
          obtain ⟨wp, rfl⟩ : ∃ wp : World, wp = wr := ⟨_, rfl⟩
          go_wp2_with fail
          go_loopw [10] (fun i wr => ∃ (j : Nat) (q'' : List (List Int)), j ≤ N ∧ i = .int .i64 j ∧ q''.length = 3 ∧ Hid (q''.getD kk [] = lk.drop j) ∧ Hid (∀ j : Nat, kk + 1 ≤ j → q''.getD j [] = q.getD j []) ∧ Hid (Ar wr b 64 q'') ∧ Hid (Want wr w2.heap.size q v) ∧ Hid (Below w.heap.size w wr)) (fun i _ => N - (intOf i).toNat)
          case atStart => exact ⟨0, q', Nat.zero_le _, rfl, hq', HQK, Lib.hid (fun j hj => HQ'.out j (by omega)), HA', HW', HB'⟩
          case round =>
            obtain ⟨j, q'', hj, rfl, hq'', HD, HQ'', HA'', HW'', HB''⟩ := hrel
            clear w0
            have w0 := HW''.out.cell kk hk3
            rw [HV.out] at w0
            have own := HW''.out.own kk hk3
            rw [← HLK.out, ← HN.out] at own
            obtain ⟨A9, cp9, hv9, R9⟩ := Row.of_own own
            rw [HV.out] at hv9
            injection hv9 with ea eb ec
            subst ea ec
            have hqat := Qp.getD_at (q := q'') (k := kk) (by omega)
            rw [HD.out] at hqat
            clear eb own
            by_cases hjl : j < N
            · obtain ⟨x, hx⟩ : ∃ x, lk[j]? = some x := ⟨_, List.getElem?_eq_getElem (by rw [← HN.out]; exact hjl)⟩
              obtain ⟨b9, o9, rfl, hb9, hc9⟩ := R9.cells (by omega)
              have c9 := hc9 j x hx
              have hdr : lk.drop j = x :: lk.drop (j + 1) := by rw [List.drop_eq_getElem?_toList_append, hx]; rfl
              rw [hdr] at hqat
              obtain ⟨p1, p2, p3, p4⟩ := pop_head HA''.out.ok hqat
              have P2 := Lib.hid p2
              have P3 := Lib.hid p3
              have P4 := Lib.hid p4
              obtain ⟨q3, hq3e⟩ : ∃ q3, q3 = Qp.pop q'' kk := ⟨_, rfl⟩
              rw [← hq3e] at p1 P4
              have PE := Lib.hid hq3e
              have hq3l : q3.length = 3 := by rw [p1, List.length_set]; exact hq''
              have HD3 := Lib.hid (show q3.getD kk [] = lk.drop (j + 1) by rw [p1, Qp.getD_set (by omega), if_pos rfl])
              have HQ3 := Lib.hid (show ∀ j : Nat, kk + 1 ≤ j → q3.getD j [] = q.getD j [] from fun i hi => by rw [p1, Qp.getD_set (by omega), if_neg (by omega)]; exact HQ''.out i hi)
              have x1 : (x != x) = false := by simp
              clear p1 p2 p3 p4 R9 hc9 hx hqat HW' HQ' HA' HB' HQK hdr hq3e
              go_wp2_with fail
              refine (pop_any b 64 q'' kk wr HA''.out).mono ?_
              rintro e w5 ⟨rfl, hA, hg⟩
              rw [P2.out, P3.out]
              rw [← PE.out] at hA
              have A5 := Lib.hid hA
              have B5 := Lib.hid (below_turned HB''.out hg HB''.out.size hwb)
              have W5 := Lib.hid (HW''.out.turned hg hb2)
              have w5c : w5.cell? ⟨b9, o9 + j, none⟩ = some (.int .i64 x) := (hg.cell_far ⟨b9, o9 + j, none⟩ hb9 (fun e => by injection e with e; simp only at e; exact absurd e (hfar _ _ _ _ _ _ HW''.out hk3 HV.out hb2))).trans c9
              have w5d := W5.out.cell kk hk3
              rw [HV.out] at w5d
              clear hA hg c9 w0
              go_wp2_with fail
              refine (of_any b 64 q3 x w5 A5.out).mono ?_
              rintro e w6 ⟨rfl, rfl⟩
              rw [P4.out]
              go_wp2_with fail
              go_roundw
              case rel => exact ⟨j + 1, q3, by omega, by go_num, hq3l, HD3, HQ3, A5, W5, B5⟩
              case measure => simp [intOf]; omega
            · obtain rfl : j = N := by omega
              rw [List.drop_of_length_le (by rw [← HN.out]; exact Nat.le_refl _)] at hqat
              obtain ⟨p1, p2, p3, p4⟩ := pop_none hqat
              have P1 := Lib.hid p1
              have P2 := Lib.hid p2
              have P3 := Lib.hid p3
              have P4 := Lib.hid p4
              clear p1 p2 p3 p4 R9 hqat HW' HQ' HA' HB' HQK
              go_wp2_with fail
              refine (pop_any b 64 q'' kk wr HA''.out).mono ?_
              rintro e w5 ⟨rfl, hA, hg⟩
              rw [P2.out, P3.out]
              rw [P1.out] at hA
              have A5 := Lib.hid hA
              have B5 := Lib.hid (below_turned HB''.out hg HB''.out.size hwb)
              have W5 := Lib.hid (HW''.out.turned hg hb2)
              clear hA hg w0
              go_wp2_with fail
              refine (len_any b 64 q'' kk w5 A5.out).mono ?_
              rintro e w6 ⟨rfl, hb6⟩
              rw [P4.out]
              have A6 := Lib.hid (A5.out.step hb6)
              have B6 := Lib.hid (B5.out.trans (hb6.mono B5.out.size))
              have W6 := Lib.hid (W5.out.step hb6)
              clear hb6
              go_wp2_with fail
              go_roundw
              case rel => exact ⟨kk + 1, q'', by omega, by go_num, hq'', HQ'', A6, W6, B6⟩
              case measure => simp [intOf]; omega
        · obtain rfl : kk = 3 := by omega
          go_wp2_with fail
          go_ret
          exact ⟨rfl, HB'.out⟩
set_option maxRecDepth 100000 in
theorem lifted (os : Os) (started : os.Started) (H : Type) (enc : TypeId × Value → H) :
    ReturnsInHanded {} Try.checked os 4 .any (Rows.fifoOrderSpec.pre6 enc Try.prog Try.f4 Rows.fifoOrderRow.domain false) (Rows.fifoOrderSpec.post enc Try.prog Try.f4 false true false false) := by
  refine returnsInHanded_of_change (C := Try.checked) own started (by kernel_rfl) Try.func4
    (ChangeSpec.witness6 (enc := enc) (C := Try.checked) false ⟨#[], #[.slice none 0 0], []⟩ 8 (by kernel_rfl) (by kernel_rfl) (by kernel_rfl) (by kernel_rfl)) ?_
  intro W base args ds gs before hval0 hW hcnd _
  have hval : ∀ (j : Nat) t v, Try.f4.params[j]? = some t → args[j]? = some v → Value.okWide Try.prog W .any base t v := hval0
  have hW' := hW
  obtain ⟨p, q, hA0, hV, rfl, hfz, hnd⟩ := hW
  have hA : DataW.TrodAll enc Try.prog W 0 (fun _ => true) true Try.f4.params.toList args.toList ds p := hA0
  rw [Try.params4] at hA hval
  obtain ⟨v0, vs0, d0, ds0, p0, q0, hargs, rfl, rfl, h0, r0⟩ := trodAll_cons hA
  obtain ⟨rfl, rfl, rfl⟩ := trodAll_nil r0
  obtain rfl : args = #[v0] := by cases args; simp_all
  obtain ⟨rfl, rfl⟩ := trodVars_none hV
  have k0 := h0
  have lt0 : ∀ x ∈ p0, x.block < W.heap.size := by obtain ⟨m, hm⟩ := k0; exact DataW.trod_lt m _ _ _ hm
  obtain ⟨a0, len0, cap0, rfl⟩ := okWide_slice Try.underlying51 (hval 0 51 v0 rfl rfl)
  obtain ⟨aa0, ll0, cc0, z0, ev0, hn0, hr0⟩ : ∃ A n c zs, Value.slice a0 len0 cap0 = .slice A n c ∧ (zs.length = n ∧ n ≤ 9223372036854775807) ∧ BRow W A zs := by
    obtain ⟨fuel, hf⟩ := h0
    exact open_bytes (by simpa [Value.cells] using hf)
  injection ev0 with ea0 eb0 ec0
  subst ea0 eb0 ec0
  clear hA0 hval0
  refine (walk a0 len0 cap0 z0 W (Lib.hid hn0.1) hn0.2 hr0).mono fun e W' ⟨he, bel⟩ => ?_
  subst he
  exact ⟨_, rfl, _, _, _, [], _, [], hW', trodAll_mk1 (shut_bool Try.underlying4 _), (trodAll_cons_mk (Below.trod laidOut (by kernel_rfl) (of_decide_eq_true (by kernel_rfl)) k0 bel lt0) trodAll_mk0), rfl, bel.frame _, fun h => by cases h⟩
theorem over : Rows.fifoOrderRow.holds Try.pinned (OpenSpec.ofChange Rows.fifoOrderSpec) :=
  OpenClaim.holds_of_wide 4 Try.f4 rfl rfl rfl rfl rfl rfl rfl ⟨rfl, rfl, rfl, rfl, rfl⟩ rfl rfl rfl rfl rfl (by kernel_rfl) Try.func4 (by kernel_rfl)
    (of_decide_eq_true (by kernel_rfl)) (by unfold Func.isWrapper; first | (rw [if_pos (by decide +kernel)]; kernel_rfl) | (rw [if_neg (by decide +kernel)]; exact ⟨rfl, rfl⟩))
    (fun os started H enc _ => lifted os started H enc)
theorem proved : Rows.FifoOrderSaid := over
end Go.Proofs.Ythljecllmdbbbaa.fifoOrder

