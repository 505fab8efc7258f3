/- Drop and Pop, by their contracts. -/
import Derived.Test.YthljecllmdbbbaaQAll
import Derived.RegionTactic
import Derived.BigRegion
namespace Go.Proofs.Ythljecllmdbbbaa
open Go.RowKit
set_option linter.unusedVariables false

theorem grown_drewN {a c : World} {r : Option Nat} (h : a.grownBy c r) (n : Nat) : a.grownBy (c.drewN n) r := ⟨h.os, h.tape, h.output, h.size, h.block⟩
theorem grown_drew {a c : World} {r : Option Nat} (h : a.grownBy c r) : a.grownBy c.drew r := ⟨h.os, h.tape, h.output, h.size, h.block⟩
theorem Raw.drew {W : World} {b : Nat} {m n : Int} {N I : Int → Int} {F L : Nat → Int} (h : Raw W b m n N I F L) : Raw W.drew b m n N I F L := h.keep rfl
set_option maxRecDepth 100000 in
set_option maxHeartbeats 1600000 in
theorem drop_any (b m : Nat) (q : List (List Int)) (g : Int) (w : World) (h : Ar w b m q) :
    Calls Try.prog 16 #[.pointer (some ⟨b, 0, none⟩), .int .i64 g] w (Turned b m (Qp.drop q g) w (.bool (Qp.stands q g))) := by
  have C1 := Lib.hid (of_any b m q g w h)
  have H := Lib.hid h
  clear h
  by_cases ho : Qp.of q g < 0
  · have HS := Lib.hid (show Qp.stands q g = false by unfold Qp.stands; simp; omega)
    have HD := Lib.hid (Qp.drop_none ho)
    go_enter Try.func16, Try.ntmps16
    go_wp2_with fail
    refine C1.out.mono ?_
    rintro e w' ⟨rfl, rfl⟩
    go_wp2_with fail
    go_ret
    rw [HD.out, HS.out]
    exact ⟨rfl, H.out, grown_refl _ _⟩
  · have HS := Lib.hid (show Qp.stands q g = true by unfold Qp.stands; simp; omega)
    obtain ⟨k, l, hk, hq, hg⟩ := Qp.of_at (q := q) (g := g) (by omega)
    obtain ⟨a, c, rfl⟩ := List.append_of_mem hg
    have n64 := H.out.n64
    have m64 := H.out.m64
    have hk64 : k < q.length := (List.getElem?_eq_some_iff.1 hq).1
    obtain ⟨N, I, F, L, hr, hlay⟩ := H.out.raw
    have hm := fun x hx => hlay.ok.mem _ _ x hq hx
    have hn := hlay.ok.nodup _ _ hq
    have hli := hlay.link _ _ hq
    have hgm := hm g (by simp)
    obtain ⟨g, rfl⟩ : ∃ i : Nat, g = i := ⟨g.toNat, by omega⟩
    have C2 := Lib.hid (ahead_any b m q.length N I F L k a c g w hr (by omega) (by rw [hlay.fst, List.getD_eq_getElem?_getD, hq]; rfl) hli hn (fun x hx => by have := hm x hx; omega))
    have HL := Lib.hid (Qp.lay_drop hlay hq)
    have LI := Lib.hid (Qp.last_is hlay hq)
    have hN : N g = hd c := (Qp.links_after hli).1
    have HR := Lib.hid hr
    have HMA := Lib.hid (show a ≠ [] → 1 ≤ la a ∧ la a ≤ 64 from fun e => by have := hm (la a) (List.mem_append_left _ (Qp.last_mem e)); omega)
    rw [hk] at C1
    have hho : ¬ ((k : Int) < 0) := by omega
    clear ho hg hm hn hli hlay hk hq
    go_enter Try.func16, Try.ntmps16
    go_wp2_with fail
    refine C1.out.mono ?_
    rintro e w' ⟨rfl, rfl⟩
    go_wp2_with fail
    refine C2.out.mono ?_
    rintro e w1 ⟨rfl, HW⟩
    have R1 : Raw w1 b m q.length N I F L := by obtain ⟨n, rfl⟩ := HW; exact hr.keep rfl
    have G1 : w.grownBy w1 (some b) := by obtain ⟨n, rfl⟩ := HW; exact grown_drewN (grown_refl _ _) n
    have cn := R1.n g (by omega)
    rw [hN] at cn
    have RR1 := Lib.hid R1
    have GG1 := Lib.hid G1
    clear HW R1 G1 hr hN
    by_cases ha : a = []
    · subst ha
      rw [show la [] = 0 from rfl]
      rw [if_pos rfl, if_pos rfl] at HL
      have LZ := Lib.hid (show la [] = 0 from rfl)
      rw [show (([] : List Int).getLastD 0) = 0 from rfl] at HL
      go_wp2_with fail
      refine (link_first b m q.length N I F L k (hd c) w1 RR1.out (by omega)).mono ?_
      rintro e w2 ⟨rfl, hw2⟩
      have R2 := RR1.out.setF k (by omega) (hd c)
      have G2 := GG1.out.trans (grown_setCell w1 b (132 + k) (.int .i64 (hd c)))
      rw [hw2] at R2 G2
      clear cn
      have d1 := R2.l k (by omega)
      have z1 := R2.z (196 + k)
      have RR2 := Lib.hid R2
      have GG2 := Lib.hid G2
      clear hw2 R2 G2
      by_cases hc : c = []
      · rw [if_pos hc] at HL
        rw [LI.out.2 hc] at d1
        go_wp2_with fail
        have R3 := RR2.out.setL k (by omega) 0
        have G3 := GG2.out.trans (grown_setCell w2 b (196 + k) (.int .i64 0))
        generalize w2.setCell ⟨b, 196 + k, none⟩ (.int .i64 0) = w3 at R3 G3 ⊢
        have d1 := R3.n g (by omega)
        have d2 := R3.i g (by omega)
        have z1 := R3.z (2 + g)
        have z2 := R3.z (67 + g)
        have RR3 := Lib.hid R3
        have GG3 := Lib.hid G3
        clear R3 G3
        go_wp2_with fail
        go_region
        all_goals go_wp2_with fail
        go_ret
        rw [HS.out]
        exact ⟨rfl, ⟨H.out.m1, m64, by rw [Qp.drop_length]; exact H.out.n1, by rw [Qp.drop_length]; exact n64, _, _, _, _, by rw [Qp.drop_length]; exact ((RR3.out.setN g (by omega) 0).setI g (by omega) 0).drew, HL.out⟩, grown_drew ((GG3.out.trans (grown_setCell w3 b (2 + g) (.int .i64 0))).trans (grown_setCell _ b (67 + g) (.int .i64 0)))⟩
      · rw [if_neg hc] at HL
        have hne : (L k == (g : Int)) = false := by rw [beq_eq_false_iff_ne]; exact fun e => hc (LI.out.1 e)
        go_wp2_with fail
        have R3 := RR2.out
        have G3 := GG2.out
        obtain ⟨w3, rfl⟩ : ∃ w3 : World, w3 = w2 := ⟨_, rfl⟩
        clear d1 z1
        have d1 := R3.n g (by omega)
        have d2 := R3.i g (by omega)
        have z1 := R3.z (2 + g)
        have z2 := R3.z (67 + g)
        have RR3 := Lib.hid R3
        have GG3 := Lib.hid G3
        clear R3 G3
        go_wp2_with fail
        go_region
        all_goals go_wp2_with fail
        go_ret
        rw [HS.out]
        exact ⟨rfl, ⟨H.out.m1, m64, by rw [Qp.drop_length]; exact H.out.n1, by rw [Qp.drop_length]; exact n64, _, _, _, _, by rw [Qp.drop_length]; exact ((RR3.out.setN g (by omega) 0).setI g (by omega) 0).drew, HL.out⟩, grown_drew ((GG3.out.trans (grown_setCell w3 b (2 + g) (.int .i64 0))).trans (grown_setCell _ b (67 + g) (.int .i64 0)))⟩
    · have h1 := HMA.out ha
      rw [if_neg ha, if_neg ha] at HL
      go_wp2_with fail
      refine (link_next b m q.length N I F L k (la a) (hd c) w1 RR1.out h1.1 h1.2).mono ?_
      rintro e w2 ⟨rfl, hw2⟩
      obtain ⟨j, hj⟩ : ∃ j : Nat, la a = j := ⟨(la a).toNat, by omega⟩
      have ej : (la a).toNat = j := by omega
      have R2 := RR1.out.setN j (by omega) (hd c)
      have G2 := GG1.out.trans (grown_setCell w1 b (2 + j) (.int .i64 (hd c)))
      rw [ej] at hw2
      rw [hw2] at R2 G2
      rw [← hj] at R2
      clear ej hj cn
      have d1 := R2.l k (by omega)
      have z1 := R2.z (196 + k)
      have RR2 := Lib.hid R2
      have GG2 := Lib.hid G2
      clear hw2 R2 G2
      by_cases hc : c = []
      · rw [if_pos hc] at HL
        rw [LI.out.2 hc] at d1
        go_wp2_with fail
        have R3 := RR2.out.setL k (by omega) (la a)
        have G3 := GG2.out.trans (grown_setCell w2 b (196 + k) (.int .i64 (la a)))
        generalize w2.setCell ⟨b, 196 + k, none⟩ (.int .i64 (la a)) = w3 at R3 G3 ⊢
        have d1 := R3.n g (by omega)
        have d2 := R3.i g (by omega)
        have z1 := R3.z (2 + g)
        have z2 := R3.z (67 + g)
        have RR3 := Lib.hid R3
        have GG3 := Lib.hid G3
        clear R3 G3
        go_wp2_with fail
        go_region
        all_goals go_wp2_with fail
        go_ret
        rw [HS.out]
        exact ⟨rfl, ⟨H.out.m1, m64, by rw [Qp.drop_length]; exact H.out.n1, by rw [Qp.drop_length]; exact n64, _, _, _, _, by rw [Qp.drop_length]; exact ((RR3.out.setN g (by omega) 0).setI g (by omega) 0).drew, HL.out⟩, grown_drew ((GG3.out.trans (grown_setCell w3 b (2 + g) (.int .i64 0))).trans (grown_setCell _ b (67 + g) (.int .i64 0)))⟩
      · rw [if_neg hc] at HL
        have hne : (L k == (g : Int)) = false := by rw [beq_eq_false_iff_ne]; exact fun e => hc (LI.out.1 e)
        go_wp2_with fail
        have R3 := RR2.out
        have G3 := GG2.out
        obtain ⟨w3, rfl⟩ : ∃ w3 : World, w3 = w2 := ⟨_, rfl⟩
        clear d1 z1
        have d1 := R3.n g (by omega)
        have d2 := R3.i g (by omega)
        have z1 := R3.z (2 + g)
        have z2 := R3.z (67 + g)
        have RR3 := Lib.hid R3
        have GG3 := Lib.hid G3
        clear R3 G3
        go_wp2_with fail
        go_region
        all_goals go_wp2_with fail
        go_ret
        rw [HS.out]
        exact ⟨rfl, ⟨H.out.m1, m64, by rw [Qp.drop_length]; exact H.out.n1, by rw [Qp.drop_length]; exact n64, _, _, _, _, by rw [Qp.drop_length]; exact ((RR3.out.setN g (by omega) 0).setI g (by omega) 0).drew, HL.out⟩, grown_drew ((GG3.out.trans (grown_setCell w3 b (2 + g) (.int .i64 0))).trans (grown_setCell _ b (67 + g) (.int .i64 0)))⟩
theorem pop_is {m : Int} {q : List (List Int)} (h : Qp.Ok m q) (k : Int) : Qp.drop q (Qp.first q k) = Qp.pop q k ∧ Qp.stands q (Qp.first q k) = Qp.some? q k := by
  unfold Qp.pop Qp.some? Qp.first
  cases he : Qp.all q k with
  | nil =>
    have h0 : Qp.of q 0 < 0 := by
      rw [Qp.of_none]
      intro i l hi hl
      have := h.mem _ _ _ hi hl
      omega
    refine ⟨by simp [Qp.drop_none h0], ?_⟩
    unfold Qp.stands
    simp
    omega
  | cons x t =>
    have hx := Qp.all_mem h (k := k) (g := x) (by rw [he]; simp)
    refine ⟨by simp, ?_⟩
    unfold Qp.stands
    simp
    have : Qp.hasL k q.length = true := by
      cases hh : Qp.hasL k q.length with
      | true => rfl
      | false => rw [Qp.all_none hh] at he; cases he
    have := (Qp.hasL_iff.1 this).1
    omega
theorem pop_any (b m : Nat) (q : List (List Int)) (k : Int) (w : World) (h : Ar w b m q) :
    Calls Try.prog 14 #[.pointer (some ⟨b, 0, none⟩), .int .i64 k] w (Turned b m (Qp.pop q k) w (.tuple #[.int .i64 (Qp.first q k), .bool (Qp.some? q k)])) := by
  have C1 := Lib.hid (hasList_ar b m q k w h)
  have C2 := Lib.hid (drop_any b m q (Qp.first q k) w h)
  have H := Lib.hid h
  have hp := pop_is h.ok k
  rw [hp.1, hp.2] at C2
  clear h hp
  cases hk : Qp.hasL k q.length with
  | false =>
    rw [hk] at C1
    have HA := Qp.all_none hk
    have HP := Lib.hid (show Qp.pop q k = q ∧ Qp.first q k = 0 ∧ Qp.some? q k = false by unfold Qp.pop Qp.first Qp.some?; rw [HA]; exact ⟨rfl, rfl, rfl⟩)
    clear hk HA C2
    go_enter Try.func14, Try.ntmps14
    go_wp2_with fail
    refine C1.out.mono ?_
    rintro e w' ⟨rfl, rfl⟩
    go_wp2_with fail
    go_ret2
    rw [HP.out.1, HP.out.2.1, HP.out.2.2]
    exact ⟨rfl, H.out, grown_refl _ _⟩
  | true =>
    obtain ⟨k0, k1⟩ := Qp.hasL_iff.1 hk
    obtain ⟨k, rfl⟩ : ∃ i : Nat, k = i := ⟨k.toNat, by omega⟩
    have hq := Qp.getD_at (q := q) (k := k) (by omega)
    have n64 := H.out.n64
    obtain ⟨N, I, F, L, hr, hlay⟩ := H.out.raw
    have cf := hr.f k (by omega)
    rw [show F k = Qp.first q k by rw [hlay.fst]; unfold Qp.first; rw [Qp.all_at hq]] at cf
    rw [hk] at C1
    clear hk hq hr hlay
    go_enter Try.func14, Try.ntmps14
    go_wp2_with fail
    refine C1.out.mono ?_
    rintro e w' ⟨rfl, rfl⟩
    go_wp2_with fail
    refine C2.out.mono ?_
    rintro e w' ⟨rfl, hA, hg⟩
    have HA := Lib.hid hA
    have HG := Lib.hid hg
    clear hA hg
    go_wp2_with fail
    go_ret2
    exact ⟨rfl, HA.out, HG.out⟩
theorem push_nil (k g : Int) (w : World) : Calls Try.prog 12 #[.pointer none, .int .i64 k, .int .i64 g] w fun e w' => e = .returned (.int .i64 1) ∧ w = w' := by
  go_enter Try.func12, Try.ntmps12
  go_wp2_with fail
  refine (hasList_nil k w).mono ?_
  rintro e w' ⟨rfl, rfl⟩
  go_wp2_with fail
  go_ret
  exact ⟨rfl, rfl⟩
theorem drop_nil (g : Int) (w : World) : Calls Try.prog 16 #[.pointer none, .int .i64 g] w fun e w' => e = .returned (.bool false) ∧ w = w' := by
  go_enter Try.func16, Try.ntmps16
  go_wp2_with fail
  refine (of_nil g w).mono ?_
  rintro e w' ⟨rfl, rfl⟩
  go_wp2_with fail
  go_ret
  exact ⟨rfl, rfl⟩
theorem pop_nil (k : Int) (w : World) : Calls Try.prog 14 #[.pointer none, .int .i64 k] w fun e w' => e = .returned (.tuple #[.int .i64 0, .bool false]) ∧ w = w' := by
  go_enter Try.func14, Try.ntmps14
  go_wp2_with fail
  refine (hasList_nil k w).mono ?_
  rintro e w' ⟨rfl, rfl⟩
  go_wp2_with fail
  go_ret2
  exact ⟨rfl, rfl⟩
end Go.Proofs.Ythljecllmdbbbaa

