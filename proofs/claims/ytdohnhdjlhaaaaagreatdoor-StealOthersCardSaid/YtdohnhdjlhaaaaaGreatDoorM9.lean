/- Contracts and plain mathematics, put together by program (wip/merge.py) out of: DRef DSorts DNearWalk Dist JRefWhere ZRef ZRefWith ZLaid. -/
import Derived.Test.YtdohnhdjlhaaaaaGreatDoorRefUp
import Derived.Test.YtdohnhdjlhaaaaaGreatDoorM0
import Derived.Test.YtdohnhdjlhaaaaaGreatDoorRefCheck
import Derived.Test.YtdohnhdjlhaaaaaGreatDoorM3
import Derived.Test.YtdohnhdjlhaaaaaGreatDoorDAhead
import Derived.Shelf.SlSortCmp.NoneTotal
import Derived.Test.YtdohnhdjlhaaaaaGreatDoorM4
import Derived.Test.YtdohnhdjlhaaaaaGreatDoorM5
import Derived.Test.YtdohnhdjlhaaaaaGreatDoorM1
import Derived.Test.YtdohnhdjlhaaaaaGreatDoorZAll
import Derived.Test.YtdohnhdjlhaaaaaGreatDoorCards
import Derived.Test.YtdohnhdjlhaaaaaGreatDoorTie
import Derived.ChangeSlices
import Derived.Lib.SmallJoins
import Derived.Lib.LaidTab
import Derived.LaidMore
import Derived.SevenTiedAt
import Derived.Stop.Joined
import Derived.MakeChecks
/- The document's own answers of layer 2 (Procs, Far, Node, Near), by contracts. -/
namespace Go.Proofs.YtdohnhdjlhaaaaaGreatDoor
open Go.RowKit
set_option linter.unusedVariables false


theorem refProcs_any (A : Option Addr) (n c : Nat) (vs : List (Int × Int)) (w : World)
    (hn : Hid (vs.length = n)) (hl : n ≤ 9223372036854775807) (hf : Hid (Fit vs)) (hv : VRow w w.heap.size A vs) :
    Calls Tryz.prog 73 #[.slice A n c] w fun e w' => e = .returned (.int .i64 (Dp.procsN vs)) ∧ Below w.heap.size w w' := by
  go_enter Tryz.func73, Tryz.ntmps73
  go_wp2_with fail
  refine (refCheck_any A n c vs _ hn hl hf hv).mono ?_
  rintro e w1 ⟨he, hb1⟩
  cases hm : Tp.may vs
  · rw [hm] at he
    have he' : e = .returned (.int .i64 2) := he
    subst he'
    have H : Hid (Dp.procsN vs = 0) := Lib.hid (by unfold Dp.procsN; rw [hm]; rfl)
    clear hm he
    go_wp2_with fail
    go_ret
    exact ⟨by rw [H.out]; rfl, hb1⟩
  · rw [hm] at he
    have he' : e = .returned (.int .i64 0) := he
    subst he'
    have H : Hid (Dp.procsN vs = (Tp.those (levelP 3) vs).length) := Lib.hid (by unfold Dp.procsN; rw [hm]; rfl)
    have h64 : n ≤ 64 := by have := ((Tp.tree_iff vs).1 hm).few; have := hn.out; omega
    clear hm he
    have hv1 := (hv.below hb1).more hb1.size
    go_wp2_with fail
    refine (refOf_any A n c vs 3 _ hn hl (by omega) hv1).mono ?_
    rintro e w2 ⟨A2, c2, rfl, _, hb2⟩
    go_wp2_with fail
    go_ret
    exact ⟨by rw [H.out]; rfl, hb1.trans (hb2.mono hb1.size)⟩

set_option maxHeartbeats 2000000 in
theorem refFar_any (A : Option Addr) (n c : Nat) (vs : List (Int × Int)) (a b : Int) (w : World)
    (hn : Hid (vs.length = n)) (hl : n ≤ 9223372036854775807) (hf : Hid (Fit vs)) (hv : VRow w w.heap.size A vs) :
    Calls Tryz.prog 36 #[.slice A n c, .int .i64 a, .int .i64 b] w fun e w' => e = .returned (.int .i64 (Dp.far vs a b)) ∧ Below w.heap.size w w' := by
  go_enter Tryz.func36, Tryz.ntmps36
  go_wp2_with fail
  refine (refProcs_any A n c vs _ hn hl hf hv).mono ?_
  rintro e w1 ⟨rfl, hb1⟩
  generalize hpn : Dp.procsN vs = m
  have HPN := Lib.hid hpn
  clear hpn
  by_cases h1 : a < 0
  · have H : Hid (Dp.far vs a b = -1) := Lib.hid (Dp.far_out (.inl h1))
    go_wp2_with fail
    go_ret
    exact ⟨by rw [H.out]; rfl, hb1⟩
  by_cases h2 : (m : Int) ≤ a
  · have H : Hid (Dp.far vs a b = -1) := Lib.hid (Dp.far_out (.inr (.inl (by rw [HPN.out]; exact h2))))
    go_wp2_with fail
    go_ret
    exact ⟨by rw [H.out]; rfl, hb1⟩
  by_cases h3 : b < 0
  · have H : Hid (Dp.far vs a b = -1) := Lib.hid (Dp.far_out (.inr (.inr (.inl h3))))
    go_wp2_with fail
    go_ret
    exact ⟨by rw [H.out]; rfl, hb1⟩
  by_cases h4 : (m : Int) ≤ b
  · have H : Hid (Dp.far vs a b = -1) := Lib.hid (Dp.far_out (.inr (.inr (.inr (by rw [HPN.out]; exact h4)))))
    go_wp2_with fail
    go_ret
    exact ⟨by rw [H.out]; rfl, hb1⟩
  have T : Tp.Tree vs := Dp.tree_of_in (a := a) (by omega) (by rw [HPN.out]; omega)
  obtain ⟨pa, pam⟩ := Dp.proc_mem T (a := a) (by omega) (by rw [HPN.out]; omega)
  obtain ⟨pb, pbm⟩ := Dp.proc_mem T (a := b) (by omega) (by rw [HPN.out]; omega)
  have HF : Hid (Dp.far vs a b = Dp.farV vs (Dp.proc vs a) (Dp.proc vs b)) := Lib.hid (Dp.far_in (by rw [HPN.out]; omega))
  have h64 : n ≤ 64 := by have := T.few; have := hn.out; omega
  have hmn : (Tp.those (levelP 3) vs).length = m := by rw [← HPN.out, Dp.procsN_tree T]; rfl
  have HMN := Lib.hid hmn
  have a0 := Dp.above0 T pam
  have b0 := Dp.above0 T pbm
  generalize Dp.proc vs a = x at pa pam HF a0
  generalize Dp.proc vs b = y at pb pbm HF b0
  have A0 := Lib.hid a0
  have B0 := Lib.hid b0
  have PA := Lib.hid pa
  have PB := Lib.hid pb
  obtain ⟨i, rfl⟩ := Int.eq_ofNat_of_zero_le (show 0 ≤ a by omega)
  obtain ⟨j, rfl⟩ := Int.eq_ofNat_of_zero_le (show 0 ≤ b by omega)
  have him : i < m := by omega
  have hjm : j < m := by omega
  clear a0 b0 pa pb hmn h1 h2 h3 h4
  have hv1 := (hv.below hb1).more hb1.size
  go_wp2_with fail
  refine (refOf_any A n c vs 3 _ hn hl (by omega) hv1).mono ?_
  rintro e w2 ⟨A2, c2, rfl, hI2, hb2⟩
  have hbe2 := hb1.trans (hb2.mono hb1.size)
  rw [HMN.out]
  obtain ⟨pb1, po1, hA2, _, hca⟩ := hI2 i x PA.out
  obtain ⟨pb2, po2, hA3, _, hcb⟩ := hI2 j y PB.out
  subst hA2
  injection hA3 with hA3
  injection hA3 with e1 e2
  subst e1 e2
  have d1 : decide ((i : Int) < 0) = false := by simp
  have d2 : decide ((j : Int) < 0) = false := by simp
  have hvw := hv.below hbe2
  clear hb1 hb2 hI2 hv1
  go_wp2_with fail
  clear hca hcb
  go_loop [9, 10, 11] (fun v u f => ∃ d : Nat, d ≤ 3 ∧ f = .int .i64 d ∧ v = .int .i64 (Dp.above vs d x) ∧ u = .int .i64 (Dp.above vs d y) ∧ Hid (∀ e : Nat, e < d → Dp.above vs e x ≠ Dp.above vs e y)) (fun _ _ f => 3 - (intOf f).toNat)
  case atStart => exact ⟨0, by omega, rfl, by rw [show Dp.above vs ((0 : Nat) : Int) x = x from A0.out], by rw [show Dp.above vs ((0 : Nat) : Int) y = y from B0.out], Lib.hid (fun e he => absurd he (by omega))⟩
  case round =>
    obtain ⟨d, hd, rfl, rfl, rfl, hne⟩ := hrel
    by_cases heq : Dp.above vs d x = Dp.above vs d y
    · have H : Hid (Dp.farV vs x y = d) := Lib.hid (Dp.farV_is hd (fun _ => heq) hne.out)
      rw [heq]
      generalize Dp.above vs d y = v
      have q1 : (v != v) = false := by simp
      go_wp2_with fail
      go_ret
      exact ⟨by rw [HF.out, H.out]; rfl, hbe2⟩
    · have hd2 : d ≤ 2 := by
        rcases Nat.lt_or_ge d 3 with h | h
        · omega
        · have : d = 3 := by omega
          subst this
          exact absurd (Dp.above_up T pam pbm).2.2 heq
      obtain ⟨k, u, ek, hk, eu⟩ := Dp.above_step T pam hd2
      obtain ⟨k', u', ek', hk', eu'⟩ := Dp.above_step T pbm hd2
      obtain ⟨b1, o1, hA, _, hc1, _⟩ := hvw k u hk
      obtain ⟨b2, o2, hA', _, hc2, _⟩ := hvw k' u' hk'
      subst hA
      injection hA' with hA'
      injection hA' with e1 e2
      subst e1 e2
      have hkl : k < n := by have := (List.getElem?_eq_some_iff.1 hk).1; have := hn.out; omega
      have hkl' : k' < n := by have := (List.getElem?_eq_some_iff.1 hk').1; have := hn.out; omega
      have HNE : Hid (∀ e : Nat, e < d + 1 → Dp.above vs e x ≠ Dp.above vs e y) := Lib.hid (fun e he => by
        by_cases e1 : e = d
        · subst e1; exact heq
        · exact hne.out e (by omega))
      rw [ek, ek'] at heq ⊢
      have q1 : ((k : Int) != (k' : Int)) = true := by rw [bne_iff_ne]; exact heq
      have q2 : ((k : Int) == (k' : Int)) = false := by rw [beq_eq_false_iff_ne]; exact heq
      have EU := Lib.hid eu
      have EU' := Lib.hid eu'
      clear ek ek' hk hk' eu eu' heq hne
      go_wp2_with fail
      go_round
      case rel => exact ⟨d + 1, by omega, by go_num, by rw [← EU.out], by rw [← EU'.out], HNE⟩
      case measure => simp [intOf]; omega

set_option maxHeartbeats 2000000 in
theorem refNode_any (A : Option Addr) (n c : Nat) (vs : List (Int × Int)) (p : Int) (w : World)
    (hn : Hid (vs.length = n)) (hl : n ≤ 9223372036854775807) (hf : Hid (Fit vs)) (hv : VRow w w.heap.size A vs) :
    Calls Tryz.prog 32 #[.slice A n c, .int .i64 p] w fun e w' => e = .returned (.int .i64 (Dp.node vs p)) ∧ Below w.heap.size w w' := by
  by_cases h1 : p < 0
  · have H : Hid (Dp.node vs p = -1) := Lib.hid (Dp.node_out (.inl h1))
    go_enter Tryz.func32, Tryz.ntmps32
    go_wp2_with fail
    go_ret
    exact ⟨by rw [H.out]; rfl, Below.refl _ _⟩
  go_enter Tryz.func32, Tryz.ntmps32
  go_wp2_with fail
  refine (refProcs_any A n c vs _ hn hl hf hv).mono ?_
  rintro e w1 ⟨rfl, hb1⟩
  generalize hpn : Dp.procsN vs = m
  have HPN := Lib.hid hpn
  clear hpn
  by_cases h2 : (m : Int) ≤ p
  · have H : Hid (Dp.node vs p = -1) := Lib.hid (Dp.node_out (.inr (by rw [HPN.out]; exact h2)))
    go_wp2_with fail
    go_ret
    exact ⟨by rw [H.out]; rfl, hb1⟩
  have T : Tp.Tree vs := Dp.tree_of_in (a := p) (by omega) (by rw [HPN.out]; omega)
  obtain ⟨pa, pam⟩ := Dp.proc_mem T (a := p) (by omega) (by rw [HPN.out]; omega)
  have HF : Hid (Dp.node vs p = Dp.place (Tp.those (levelP 1) vs) (Tp.up vs 1 n (Dp.proc vs p))) := Lib.hid (by
    rw [← hn.out]; exact Dp.node_in (by rw [HPN.out]; omega))
  have h64 : n ≤ 64 := by have := T.few; have := hn.out; omega
  have hmn : (Tp.those (levelP 3) vs).length = m := by rw [← HPN.out, Dp.procsN_tree T]; rfl
  have HMN := Lib.hid hmn
  generalize Dp.proc vs p = x at pa pam HF
  have PA := Lib.hid pa
  obtain ⟨i, rfl⟩ := Int.eq_ofNat_of_zero_le (show 0 ≤ p by omega)
  have him : i < m := by omega
  have d1 : decide ((i : Int) < 0) = false := by simp
  clear pa hmn h1 h2
  have hv1 := (hv.below hb1).more hb1.size
  go_wp2_with fail
  refine (refOf_any A n c vs 3 _ hn hl (by omega) hv1).mono ?_
  rintro e w2 ⟨A2, c2, rfl, hI2, hb2⟩
  have hbe2 := hb1.trans (hb2.mono hb1.size)
  rw [HMN.out]
  obtain ⟨pb1, po1, hA2, _, hca⟩ := hI2 i x PA.out
  subst hA2
  have hv2 := (hv.below hbe2).more hbe2.size
  clear hb1 hb2 hI2 hv1
  go_wp2_with fail
  refine (refUp_any A n c vs x 1 _ hn hl hv2).mono ?_
  rintro e w3 ⟨rfl, rfl⟩
  generalize Tp.up vs 1 n x = v at HF ⊢
  clear hca
  go_wp2_with fail
  refine (refOf_any A n c vs 1 _ hn hl (by omega) hv2).mono ?_
  rintro e w4 ⟨A4, c4, rfl, hI4, hb4⟩
  have hbe4 := hbe2.trans (hb4.mono hbe2.size)
  have hle := Tp.those_le (levelP 1) vs n
  rw [show vs.take n = vs from List.take_of_length_le (by have := hn.out; omega)] at hle
  generalize hnl : (Tp.those (levelP 1) vs).length = nn at hle ⊢
  have HNL := Lib.hid hnl
  clear hnl hb4
  go_wp2_with fail
  go_loop [7] (fun i => ∃ k : Nat, k ≤ nn ∧ i = .int .i64 k ∧ Hid (v ∉ (Tp.those (levelP 1) vs).take k)) (fun i => nn - (intOf i).toNat)
  case atStart => exact ⟨0, by omega, rfl, Lib.hid (by simp)⟩
  case round =>
    obtain ⟨k, hk, rfl, hno⟩ := hrel
    by_cases hkn : k < nn
    · obtain ⟨z, hz⟩ : ∃ z, (Tp.those (levelP 1) vs)[k]? = some z := ⟨_, List.getElem?_eq_getElem (by have := HNL.out; omega)⟩
      obtain ⟨pb, po, hA, _, hcz⟩ := hI4 k z hz
      subst hA
      cases hq : (z == v)
      · have H : Hid (v ∉ (Tp.those (levelP 1) vs).take (k + 1)) := Lib.hid (by
          rw [List.take_add_one, hz]
          simp only [Option.toList_some, List.mem_append, List.mem_singleton, not_or]
          rw [beq_eq_false_iff_ne] at hq
          exact ⟨hno.out, fun h => hq h.symm⟩)
        clear hz
        go_wp2_with fail
        go_round
        case rel => exact ⟨k + 1, by omega, by go_num, H⟩
        case measure => simp [intOf]; omega
      · have H : Hid (Dp.place (Tp.those (levelP 1) vs) v = k) := Lib.hid (by
          rw [beq_iff_eq] at hq
          subst hq
          exact Dp.place_hit hz hno.out)
        clear hz
        go_wp2_with fail
        go_ret
        exact ⟨by rw [HF.out, H.out]; rfl, hbe4⟩
    · have H : Hid (Dp.place (Tp.those (levelP 1) vs) v = -1) := Lib.hid (Dp.place_out (by
        have := hno.out
        rw [List.take_of_length_le (by have := HNL.out; omega)] at this
        exact this))
      go_wp2_with fail
      go_ret
      exact ⟨by rw [HF.out, H.out]; rfl, hbe4⟩

set_option maxHeartbeats 2000000 in
set_option maxRecDepth 100000 in
theorem refNear_any (A : Option Addr) (n c : Nat) (vs : List (Int × Int)) (p : Int) (w : World)
    (hn : Hid (vs.length = n)) (hl : n ≤ 9223372036854775807) (hf : Hid (Fit vs)) (hv : VRow w w.heap.size A vs) :
    Calls Tryz.prog 39 #[.slice A n c, .int .i64 p] w (Made w (Dp.near vs p)) := by
  go_enter Tryz.func39, Tryz.ntmps39
  go_wp2_with fail
  refine (refProcs_any A n c vs _ hn hl hf hv).mono ?_
  rintro e w1 ⟨rfl, hb1⟩
  generalize hpn : Dp.procsN vs = m
  have HPN := Lib.hid hpn
  clear hpn
  have nothing : Dp.near vs p = [] → Made w (Dp.near vs p) (.returned (.slice none 0 0)) w1 := fun h => by
    rw [h]; exact ⟨none, 0, rfl, fun i z hi => by simp at hi, hb1⟩
  by_cases h1 : p < 0
  · have H := Lib.hid (nothing (Dp.near_out (.inl h1)))
    clear nothing
    go_wp2_with fail
    go_ret
    exact H.out
  by_cases h2 : (m : Int) ≤ p
  · have H := Lib.hid (nothing (Dp.near_out (.inr (by rw [HPN.out]; exact h2))))
    clear nothing
    go_wp2_with fail
    go_ret
    exact H.out
  clear nothing
  have T : Tp.Tree vs := Dp.tree_of_in (a := p) (by omega) (by rw [HPN.out]; omega)
  have HF : Hid (Dp.near vs p = Dp.nearTo vs p 3) := Lib.hid (Dp.near_in (by rw [HPN.out]; omega))
  have h64 : n ≤ 64 := by have := T.few; have := hn.out; omega
  have hm64 : m ≤ 64 := by
    have := those_len (levelP 3) vs
    have e : (Tp.those (levelP 3) vs).length = m := by rw [← HPN.out, Dp.procsN_tree T]; rfl
    have := hn.out
    omega
  obtain ⟨i, rfl⟩ := Int.eq_ofNat_of_zero_le (show 0 ≤ p by omega)
  have him : i < m := by omega
  have d1 : decide ((i : Int) < 0) = false := by simp
  have d2 : decide (m ≤ i) = false := by simp; omega
  clear h1 h2
  obtain ⟨i0, hi, hz0, hz1, hz2⟩ := info_parts info_int
  have hnone : w1.ownsRow w1.heap.size 3 1 (.slice none 0 0) 0 [] := World.ownsRow_nil _ _ _ _
  go_wp2_with fail
  go_loopw [6, 7] (fun u f wr => ∃ d : Nat, d ≤ 3 ∧ f = .int .i64 ((d : Int) + 1) ∧ wr.ownsRow w1.heap.size 3 1 u (Dp.nearTo vs i d).length ((Dp.nearTo vs i d).map (Value.int .i64)) ∧ Below w1.heap.size w1 wr) (fun _ f _ => 4 - (intOf f).toNat)
  case atStart => exact ⟨0, by omega, rfl, World.ownsRow_nil _ _ _ _, Below.refl _ _⟩
  case round =>
    obtain ⟨d, hd, rfl, hown, hbe⟩ := hrel
    by_cases hd3 : d < 3
    · have hle := Dp.nearTo_le vs i d
      rw [HPN.out] at hle
      have hle' : (Dp.nearTo vs i d).length ≤ 192 := Nat.le_trans hle (by have := Nat.mul_le_mul (show d ≤ 3 by omega) hm64; omega)
      have e3 : decide ((d : Int) + 1 ≤ 3) = true := decide_eq_true (by omega)
      obtain ⟨wo, rfl⟩ : ∃ wo : World, wo = wr := ⟨_, rfl⟩
      clear hle
      go_wp2_with fail
      go_loopw [6, 8] (fun u k wr => ∃ t : Nat, t + 1 ≤ m ∧ k = .int .i64 ((t : Int) + 1) ∧ wr.ownsRow w1.heap.size 3 1 u (Dp.nearTo vs i d ++ Dp.ringF vs i ((d + 1 : Nat) : Int) m t).length ((Dp.nearTo vs i d ++ Dp.ringF vs i ((d + 1 : Nat) : Int) m t).map (Value.int .i64)) ∧ Below w1.heap.size w1 wr) (fun _ k _ => m - (intOf k).toNat)
      case atStart => exact ⟨0, by omega, rfl, by simpa [Dp.ringF] using hown, hbe⟩
      case round =>
        obtain ⟨t, ht, rfl, hown2, hbi⟩ := hrel
        by_cases htm : t + 1 < m
        · have hri := Dp.ringF_le vs i ((d + 1 : Nat) : Int) m t
          have hll : (Dp.nearTo vs i d ++ Dp.ringF vs i ((d + 1 : Nat) : Int) m t).length ≤ 256 := by rw [List.length_append]; omega
          obtain ⟨q, hq⟩ : ∃ q : Int, q = ((i : Int) + ((t + 1 : Nat) : Int)) % (m : Int) := ⟨_, rfl⟩
          have q1 : ((i : Int) + ((t : Int) + 1)) % (m : Int) = q := by rw [hq]; rfl
          have q0 : 0 ≤ q := by rw [hq]; exact Int.emod_nonneg _ (by omega)
          have HR : Hid (Dp.ringF vs i ((d + 1 : Nat) : Int) m (t + 1) = Dp.ringF vs i ((d + 1 : Nat) : Int) m t ++ if Dp.far vs i q = ((d + 1 : Nat) : Int) then [q] else []) := Lib.hid (by rw [hq]; rfl)
          have hvi := ((hv.below hb1).more hb1.size).below hbi
          have hvi' := hvi.more hbi.size
          have t1 : decide ((t : Int) + 1 < (m : Int)) = true := decide_eq_true (by omega)
          have t2 : ¬ m = 0 := by omega
          clear hq
          generalize hL : Dp.nearTo vs i d ++ Dp.ringF vs i ((d + 1 : Nat) : Int) m t = L at hown2 hll
          have HL := Lib.hid hL
          clear hL hri
          go_wp2_with fail
          refine (refFar_any A n c vs i q _ hn hl hf hvi').mono ?_
          rintro e w4 ⟨rfl, hb4⟩
          have hbe4 := hbi.trans (hb4.mono hbi.size)
          have hown4 := own_below hown2 hb4
          generalize hfar : Dp.far vs i q = f at HR ⊢
          clear hfar hvi hvi' hown2
          cases hfd : (f == (d : Int) + 1)
          · have H : Hid (Dp.nearTo vs i d ++ Dp.ringF vs i ((d + 1 : Nat) : Int) m (t + 1) = L) := Lib.hid (by
              rw [HR.out, if_neg (by rw [beq_eq_false_iff_ne] at hfd; omega), List.append_nil, HL.out])
            go_wp2_with fail
            go_roundw
            case rel => exact ⟨t + 1, by omega, by go_num, by rw [H.out]; exact hown4, hbe4⟩
            case measure => simp [intOf]; omega
          · have H : Hid (Dp.nearTo vs i d ++ Dp.ringF vs i ((d + 1 : Nat) : Int) m (t + 1) = L ++ [q]) := Lib.hid (by
              rw [HR.out, if_pos (by rw [beq_iff_eq] at hfd; omega), ← List.append_assoc, HL.out])
            go_wp2_with (at_builtin; refine wpList_append_own _ rfl _ _ 42 rfl w1.heap.size 3 i0 (.int .i64 0) 1 8 Tryz.underlying42 hi hz0 hz1 hz2 rfl (by decide) _ _ _ rfl (hown4.alloc _) ⟨w4.heap.size, 0, none⟩ 1 1 [.int .i64 q] rfl rfl ?c1 ?c2 ?c3 ?c4 ?c5 ?_)
            case c1 => exact one_cell _ _ _
            case c2 => intro u hu; simp at hu; subst hu; rfl
            case c3 => unfold maxLen; omega
            case c4 => omega
            case c5 => have := hbe4.size; simp; omega
            intro v' w5 hown5 hg _
            go_wp2_with fail
            go_roundw
            case rel =>
              refine ⟨t + 1, by omega, by go_num, ?_, (hbe4.alloc hbe4.size _).grown hg (by have := hbe4.size; simp; omega) (fun j hj => (hown4.lt j hj).1)⟩
              rw [H.out]; simpa using hown5
            case measure => simp [intOf]; omega
        · have H : Hid (Dp.nearTo vs i d ++ Dp.ringF vs i ((d + 1 : Nat) : Int) m t = Dp.nearTo vs i (d + 1)) := Lib.hid (by
            rw [Dp.nearTo, Dp.ring, HPN.out, show t = m - 1 by omega])
          rw [H.out] at hown2
          have t1 : decide ((t : Int) + 1 < (m : Int)) = false := decide_eq_false (by omega)
          go_wp2_with fail
          go_roundw
          case rel => exact ⟨d + 1, by omega, by go_num, hown2, hbi⟩
          case measure => simp [intOf]; omega
    · have e3 : decide ((d : Int) + 1 ≤ 3) = false := decide_eq_false (by omega)
      rw [show d = 3 by omega] at hown
      go_wp2_with fail
      go_ret
      rw [HF.out]
      exact made_of hb1 hown hbe
end Go.Proofs.YtdohnhdjlhaaaaaGreatDoor


/- slices.SortFunc at dist.Near's own closure: all others come to stand as the document says; nothing else turns. -/
namespace Go.Proofs.YtdohnhdjlhaaaaaGreatDoor
open Go.RowKit Go.Sort Go.Shelf Go.Lib
set_option linter.unusedVariables false

theorem cell_sortWorld {α : Type} [Inhabited α] (enc : α → Value) (w : World) (blk off m : Nat) (dk : Array α) (os : Array Obj) (a : Addr) (h : a.block ≠ blk) (hl : a.block < w.heap.size) : (sortWorld enc w blk off m dk os).cell? a = w.cell? a := by
  unfold sortWorld
  rw [cell?_grow _ _ _ (by rw [size_putRow]; exact hl), cell?_putRow_other enc _ blk off dk a (Or.inl h)]
  rfl
theorem heap_sortWorld {α : Type} [Inhabited α] (enc : α → Value) (w : World) (blk off m : Nat) (dk : Array α) (os : Array Obj) (k : Nat) (h : k ≠ blk) (hl : k < w.heap.size) : (sortWorld enc w blk off m dk os).heap[k]? = w.heap[k]? := by
  unfold sortWorld
  rw [heap_grow_old _ _ (by rw [size_putRow]; exact hl)]
  show ((Sort.ahead w m).heap.modify blk _)[k]? = _
  rw [Array.getElem?_modify, if_neg (by omega)]
  rfl
theorem below_sortWorld {α : Type} [Inhabited α] (enc : α → Value) (w : World) (blk off m : Nat) (dk : Array α) (os : Array Obj) (base : Nat) (h : base ≤ blk) (hl : blk < w.heap.size) : Below base w (sortWorld enc w blk off m dk os) :=
  ⟨rfl, rfl, rfl, by unfold sortWorld; rw [size_grow, size_putRow]; exact Nat.le_add_right _ _, fun k hk => heap_sortWorld enc w blk off m dk os k (by omega) (by omega)⟩
theorem Caps.keep {w w' : World} {B n c m c1 : Nat} {A A1 : Option Addr} {vs : List (Int × Int)} {p : Int} {bT bP bp bN bF bS blk : Nat} (K : Caps w B A A1 n c m c1 vs p bT bP bp bN bF bS)
    (hB : B ≤ blk) (hs : blk < w.heap.size) (hne : bT ≠ blk ∧ bP ≠ blk ∧ bp ≠ blk ∧ bN ≠ blk ∧ bF ≠ blk ∧ bS ≠ blk) (hlt : bT < w.heap.size ∧ bP < w.heap.size ∧ bp < w.heap.size ∧ bN < w.heap.size ∧ bF < w.heap.size ∧ bS < w.heap.size)
    (hc : ∀ a : Addr, a.block ≠ blk → a.block < w.heap.size → w'.cell? a = w.cell? a) : Caps w' B A A1 n c m c1 vs p bT bP bp bN bF bS where
  tv := K.tv.keep fun a ha => hc a (by omega) (by omega)
  ps := K.ps.keep fun a ha => hc a (by omega) (by omega)
  cT := (hc ⟨bT, 0, none⟩ hne.1 hlt.1).trans K.cT
  cP := (hc ⟨bP, 0, none⟩ hne.2.1 hlt.2.1).trans K.cP
  cp := (hc ⟨bp, 0, none⟩ hne.2.2.1 hlt.2.2.1).trans K.cp
  cN := (hc ⟨bN, 0, none⟩ hne.2.2.2.1 hlt.2.2.2.1).trans K.cN
  cF := (hc ⟨bF, 0, none⟩ hne.2.2.2.2.1 hlt.2.2.2.2.1).trans K.cF
  cS := (hc ⟨bS, 0, none⟩ hne.2.2.2.2.2 hlt.2.2.2.2.2).trans K.cS

theorem sort_near (A A1 : Option Addr) (n c m c1 L : Nat) (vs : List (Int × Int)) (p : Int) (bT bP bp bN bF bS : Nat) (w : World) (B base : Nat) (u : Value)
    (hn : Hid (vs.length = n)) (hl : n ≤ 9223372036854775807) (hm : Hid (Dp.procsN vs = m)) (hml : m ≤ 64) (K : Caps w B A A1 n c m c1 vs p bT bP bp bN bF bS) (p0 : 0 ≤ p) (p1 : p < m)
    (hB : B ≤ base) (hown : w.ownsRow base 3 1 u L ((Dp.othersTo p m).map (Value.int .i64)))
    (hne : ∀ blk, u.ownBlock = some blk → bT ≠ blk ∧ bP ≠ blk ∧ bp ≠ blk ∧ bN ≠ blk ∧ bF ≠ blk ∧ bS ≠ blk) (hlt : bT < w.heap.size ∧ bP < w.heap.size ∧ bp < w.heap.size ∧ bN < w.heap.size ∧ bF < w.heap.size ∧ bS < w.heap.size) :
    Calls Tryz.prog 77 #[u, .func (.func 78) #[] #[.pointer (some ⟨bF, 0, none⟩), .pointer (some ⟨bS, 0, none⟩)]] w fun e w' =>
      e = .returned (.tuple #[]) ∧ ∃ A' c', u = .slice A' (Dp.near vs p).length c' ∧ IRow w' w'.heap.size A' (Dp.near vs p) ∧ Below base w w' ∧ (Dp.near vs p).length ≤ c' ∧ c' ≤ 9223372036854775807 := by
  obtain ⟨m', rfl⟩ : ∃ m', m = m' + 1 := ⟨m - 1, by omega⟩
  have h1' : p < Dp.procsN vs := by rw [hm.out]; exact p1
  have hlen := (Dp.others_perm p0 h1').length_eq
  rw [hm.out] at hlen
  have hL := own_len hown
  have hle := Dp.othersTo_le p (m' + 1)
  rcases hown.2 with ⟨rfl, h0⟩ | ⟨blk, cap, cur, rfl, hbb, hh, hnc, hcm, _⟩
  · have hN : Dp.near vs p = [] := List.length_eq_zero_iff.1 (by omega)
    rw [hN]
    refine (AnyF.slices_SortFunc_none (P := Tryz.prog) (ρ := sortLaid_ren) { sortLaid with } none 0 _ w).mono ?_
    rintro e w' ⟨rfl, rfl⟩
    exact ⟨rfl, none, 0, rfl, fun i z hi => by simp at hi, Below.refl _ _, by simp, by omega⟩
  · have hblk : blk < w.heap.size := (Array.getElem?_eq_some_iff.1 hh).1
    obtain ⟨d, hd⟩ : ∃ d : Array (Fin (m' + 1)), d = ((Dp.othersTo p (m' + 1)).map Dp.toF).toArray := ⟨_, rfl⟩
    have hds : d.size = L := by rw [hd]; simp [hL]
    have hback := Dp.map_back (m := m') (l := Dp.othersTo p (m' + 1)) (fun z hz => by have := (Dp.mem_othersTo _).1 hz; omega)
    have hat : ∀ (l : List (Fin (m' + 1))) (zs : List Int), l.map Dp.val = zs → ∀ (j : Nat) (z : Int), zs[j]? = some z → Dp.val (l.toArray[j]!) = z := by
      intro l zs e j z hz
      rw [← e, List.getElem?_map] at hz
      cases h : l[j]? with
      | none => rw [h] at hz; cases hz
      | some y =>
        rw [h] at hz
        injection hz with hz
        rw [← hz]
        have : l.toArray[j]! = y := by
          have hj := (List.getElem?_eq_some_iff.1 h).1
          rw [getElem!_pos _ _ (by simpa using hj)]
          have := (List.getElem?_eq_some_iff.1 h).2
          simpa using this
        rw [this]
    have hne := hne blk rfl
    have hH : Holds (fun x : Fin (m' + 1) => Value.int .i64 (Dp.val x)) w blk 0 d := by
      intro j hj
      refine ⟨?_, ?_⟩
      · obtain ⟨z, hz⟩ : ∃ z, (Dp.othersTo p (m' + 1))[j]? = some z := ⟨_, List.getElem?_eq_getElem (by omega)⟩
        have e := hat _ _ hback j z hz
        rw [← hd] at e
        rw [Nat.zero_add, hown.cellAt j (by omega), List.getElem?_map, hz]
        show some (Value.int .i64 z) = some (Value.int .i64 (Dp.val d[j]!))
        rw [e]
      · rw [Nat.zero_add]; exact hown.frozenAt j
    have eg : ∀ args w, (callFunc 78 args).run Tryz.prog w = .ok (.enter 78 args) w := fun _ _ => by kernel_rfl
    have hcmp : CmpLays1 Tryz.prog 78 #[.pointer (some ⟨bF, 0, none⟩), .pointer (some ⟨bS, 0, none⟩)] (fun x : Fin (m' + 1) => Value.int .i64 (Dp.val x)) (Dp.cfF vs p) blk 0 d.size w := by
      intro mm os dk hdk x y
      have hx := Dp.val_range x
      have hy := Dp.val_range y
      exact ahead_any A A1 n c (m' + 1) c1 vs p (Dp.val x) (Dp.val y) bT bP bp bN bF bS _ B hn hl hm hml
        (Lib.hid (K.keep (blk := blk) (by omega) hblk hne hlt fun a h1 h2 => cell_sortWorld _ w blk 0 mm dk os a h1 h2)) p0 p1 hx.1 hx.2 hy.1 hy.2
    have hcon := Any.slices_SortFunc_total (P := Tryz.prog) sortLaid (fun x : Fin (m' + 1) => Value.int .i64 (Dp.val x)) (fun _ => rfl) (Dp.cfF vs p) (Dp.cf_order vs p) 78 #[.pointer (some ⟨bF, 0, none⟩), .pointer (some ⟨bS, 0, none⟩)] blk 0 cap d w eg hcmp hH hblk (by omega) (Dp.cf_total p0 p1)
    rw [hds] at hcon
    refine hcon.mono ?_
    rintro e w' ⟨rfl, nq, os, rfl⟩
    have hsn := Dp.sorted_near (m := m') hm.out p0 p1
    have hdl : d.toList = (Dp.othersTo p (m' + 1)).map Dp.toF := by rw [hd]
    rw [hdl]
    have hlN : (Dp.near vs p).length = L := by omega
    refine ⟨rfl, some ⟨blk, 0, none⟩, cap, by rw [hlN], ?_, below_sortWorld _ w blk 0 nq _ os base hbb hblk, by omega, by unfold maxLen at hcm; omega⟩
    have hR := holds_sortWorld (fun x : Fin (m' + 1) => Value.int .i64 (Dp.val x)) w blk 0 nq d ((((Dp.othersTo p (m' + 1)).map Dp.toF).mergeSort fun x y => !(ltOf (Dp.cfF vs p) y x)).toArray) os hblk hH (by simp [hds, hL])
    intro j z hz
    have hj : j < L := by have := (List.getElem?_eq_some_iff.1 hz).1; omega
    refine ⟨blk, 0, rfl, lt_sortWorld _ w blk 0 nq _ os hblk, ?_⟩
    rw [(hR j (by simp [hL]; omega)).1]
    show some (Value.int .i64 _) = _
    rw [hat _ _ hsn j z hz]
end Go.Proofs.YtdohnhdjlhaaaaaGreatDoor


/- dist.Near, by its contract: who is near, in new memory. -/
namespace Go.Proofs.YtdohnhdjlhaaaaaGreatDoor
open Go.RowKit Go.Sort
set_option linter.unusedVariables false

set_option maxHeartbeats 4000000 in
set_option maxRecDepth 100000 in
theorem near_cap (A : Option Addr) (n c : Nat) (vs : List (Int × Int)) (p : Int) (w : World)
    (hn : Hid (vs.length = n)) (hl : n ≤ 9223372036854775807) (hf : Hid (Fit vs)) (hv : VRow w w.heap.size A vs) :
    Calls Tryz.prog 38 #[.slice A n c, .int .i64 p] w (MadeC w (Dp.near vs p)) := by
  obtain ⟨i0, hi, hz0, hz1, hz2⟩ := info_parts info_int
  go_enter Tryz.func38, Tryz.ntmps38
  go_wp2_with fail
  have hb0 : Below w.heap.size w ((w.alloc (Obj.cells #[Value.slice A n c] 22)).alloc (Obj.cells #[Value.int IntKind.i64 p] 3)) := ((Below.refl _ _).alloc (Nat.le_refl _) _).alloc (by simp) _
  have cT0 : ((w.alloc (Obj.cells #[Value.slice A n c] 22)).alloc (Obj.cells #[Value.int IntKind.i64 p] 3)).cell? ⟨w.heap.size, 0, none⟩ = some (.slice A n c) := by simp
  have cp0 : ((w.alloc (Obj.cells #[Value.slice A n c] 22)).alloc (Obj.cells #[Value.int IntKind.i64 p] 3)).cell? ⟨w.heap.size + 1, 0, none⟩ = some (.int .i64 p) := by simp
  have hs0 : ((w.alloc (Obj.cells #[Value.slice A n c] 22)).alloc (Obj.cells #[Value.int IntKind.i64 p] 3)).heap.size = w.heap.size + 2 := by simp
  generalize hw0 : (w.alloc (Obj.cells #[Value.slice A n c] 22)).alloc (Obj.cells #[Value.int IntKind.i64 p] 3) = w0 at hb0 cT0 cp0 hs0 ⊢
  clear hw0
  refine (procsOf_any A n c vs w0 hn hl hf ((hv.below hb0).more hb0.size)).mono ?_
  rintro e w1 ⟨A1, c1, rfl, hI1, hb1⟩
  rw [procsIf_length]
  have h64 := procsN_few vs
  have hm := procsN_fits vs n hn hl
  have cT1 := (hb1.cell (p := ⟨w.heap.size, 0, none⟩) (by simp; omega)).trans cT0
  have cp1 := (hb1.cell (p := ⟨w.heap.size + 1, 0, none⟩) (by simp; omega)).trans cp0
  have hbw1 : Below w.heap.size w w1 := hb0.trans (hb1.mono hb0.size)
  have hs1 : w.heap.size + 2 ≤ w1.heap.size := by have := hb1.size; omega
  generalize hpn : Dp.procsN vs = m at h64 hm ⊢
  have HPN := Lib.hid hpn
  clear hpn hb0 hb1 cT0 cp0 hs0
  have cT2 : (w1.alloc (Obj.cells #[Value.slice A1 m c1] 42)).cell? ⟨w.heap.size, 0, none⟩ = some (.slice A n c) := by rw [World.cell?_alloc_lt _ _ _ (by simp; omega)]; exact cT1
  have cp2 : (w1.alloc (Obj.cells #[Value.slice A1 m c1] 42)).cell? ⟨w.heap.size + 1, 0, none⟩ = some (.int .i64 p) := by rw [World.cell?_alloc_lt _ _ _ (by simp; omega)]; exact cp1
  have hb2 : Below w.heap.size w (w1.alloc (Obj.cells #[Value.slice A1 m c1] 42)) := hbw1.alloc hbw1.size _
  have hI2 : IRow (w1.alloc (Obj.cells #[Value.slice A1 m c1] 42)) w1.heap.size A1 (procsIf vs) := hI1.below ((Below.refl _ _).alloc (Nat.le_refl _) _)
  have cP2 : (w1.alloc (Obj.cells #[Value.slice A1 m c1] 42)).cell? ⟨w1.heap.size, 0, none⟩ = some (.slice A1 m c1) := by rw [World.cell?_alloc_new]; rfl
  have hs2 : (w1.alloc (Obj.cells #[Value.slice A1 m c1] 42)).heap.size = w1.heap.size + 1 := by simp
  go_wp2_with fail
  generalize hw2 : w1.alloc (Obj.cells #[Value.slice A1 m c1] 42) = w2 at cT2 cp2 hb2 hI2 cP2 hs2 ⊢
  generalize hsz1 : w1.heap.size = s1 at hs1 hI2 cP2 hs2 ⊢
  clear hw2 cT1 cp1 hI1 hbw1 hsz1
  refine (among_any A1 m c1 p _ hm).mono ?_
  rintro e w2' ⟨rfl, rfl⟩
  cases ha : isP p m
  · have M := Lib.hid (show MadeC w (Dp.near vs p) (.returned (.slice none 0 0)) w2' from by
      rw [Dp.near_out (by rw [HPN.out]; exact isP_not.1 ha)]
      exact ⟨none, 0, rfl, fun i z hi => by simp at hi, hb2, Nat.le_refl _, by omega⟩)
    clear ha
    go_wp2_with fail
    go_ret
    exact M.out
  have HA := Lib.hid (isP_iff.1 ha)
  clear ha
  have cT3 : (w2'.alloc (Obj.cells #[Value.int .i64 m] 3)).cell? ⟨w.heap.size, 0, none⟩ = some (.slice A n c) := by rw [World.cell?_alloc_lt _ _ _ (by simp; omega)]; exact cT2
  have cp3 : (w2'.alloc (Obj.cells #[Value.int .i64 m] 3)).cell? ⟨w.heap.size + 1, 0, none⟩ = some (.int .i64 p) := by rw [World.cell?_alloc_lt _ _ _ (by simp; omega)]; exact cp2
  have cP3 : (w2'.alloc (Obj.cells #[Value.int .i64 m] 3)).cell? ⟨s1, 0, none⟩ = some (.slice A1 m c1) := by rw [World.cell?_alloc_lt _ _ _ (by simp; omega)]; exact cP2
  have cN3 : (w2'.alloc (Obj.cells #[Value.int .i64 m] 3)).cell? ⟨s1 + 1, 0, none⟩ = some (.int .i64 m) := by rw [World.cell?_alloc_at _ _ _ _ hs2.symm]; rfl
  have hb3 : Below w.heap.size w (w2'.alloc (Obj.cells #[Value.int .i64 m] 3)) := hb2.alloc hb2.size _
  have hI3 : IRow (w2'.alloc (Obj.cells #[Value.int .i64 m] 3)) (s1 + 2) A1 (procsIf vs) := (hI2.more (by omega)).below ((Below.refl (s1 + 1) _).alloc (by omega) _) |>.more (by omega)
  have hs3 : (w2'.alloc (Obj.cells #[Value.int .i64 m] 3)).heap.size = s1 + 2 := by simp [hs2]
  go_wp2_with fail
  generalize hw3 : w2'.alloc (Obj.cells #[Value.int .i64 m] 3) = w3 at cT3 cp3 cP3 cN3 hb3 hI3 hs3 ⊢
  clear hw3 cT2 cp2 cP2 hb2 hI2 hs2
  go_loopw [7, 20] (fun u i wr => ∃ k : Nat, k ≤ m ∧ i = .int .i64 k ∧ wr.ownsRow w3.heap.size 3 1 u (Dp.othersTo p k).length ((Dp.othersTo p k).map (Value.int .i64)) ∧ Below w3.heap.size w3 wr) (fun _ i _ => m - (intOf i).toNat)
  case atStart => exact ⟨0, by omega, rfl, World.ownsRow_nil _ _ _ _, Below.refl _ _⟩
  case round =>
    obtain ⟨k, hk, rfl, hown, hbe⟩ := hrel
    by_cases hkm : k < m
    · have cpr : wr.cell? ⟨w.heap.size + 1, 0, none⟩ = some (.int .i64 p) := (hbe.cell (p := ⟨w.heap.size + 1, 0, none⟩) (by simp; omega)).trans cp3
      have hle := Dp.othersTo_le p k
      by_cases hkp : (k : Int) = p
      · have H : Hid (Dp.othersTo p (k + 1) = Dp.othersTo p k) := Lib.hid (by rw [Dp.othersTo, if_pos hkp, List.append_nil])
        have q1 : ((k : Int) != p) = false := by simp [hkp]
        clear hkp hle
        go_wp2_with fail
        go_roundw
        case rel => exact ⟨k + 1, by omega, by go_num, by rw [H.out]; exact hown, hbe⟩
        case measure => simp [intOf]; omega
      · have H : Hid (Dp.othersTo p (k + 1) = Dp.othersTo p k ++ [(k : Int)]) := Lib.hid (by rw [Dp.othersTo, if_neg hkp])
        have q1 : ((k : Int) != p) = true := by simp [hkp]
        clear hkp
        go_wp2_with (at_builtin; refine wpList_append_own _ rfl _ _ 42 rfl w3.heap.size 3 i0 (.int .i64 0) 1 8 Tryz.underlying42 hi hz0 hz1 hz2 rfl (by decide) _ _ _ rfl (hown.alloc _) ⟨wr.heap.size, 0, none⟩ 1 1 [.int .i64 (k : Int)] rfl rfl ?c1 ?c2 ?c3 ?c4 ?c5 ?_)
        case c1 => exact one_cell _ _ _
        case c2 => intro u hu; simp at hu; subst hu; rfl
        case c3 => unfold maxLen; omega
        case c4 => omega
        case c5 => have := hbe.size; simp; omega
        intro v' w5 hown5 hg _
        go_wp2_with fail
        go_roundw
        case rel =>
          refine ⟨k + 1, by omega, by go_num, ?_, (hbe.alloc hbe.size _).grown hg (by have := hbe.size; simp; omega) (fun j hj => (hown.lt j hj).1)⟩
          rw [H.out, List.length_append, List.map_append, hs3]; exact hown5
        case measure => simp [intOf]; omega
    · have hkn : k = m := by omega
      subst hkn
      have hmf := hmf
      have hst := fun (a : Addr) (fn : Fn) (cb : Array Value) (W : World) => run_store Tryz.prog W a (.func fn #[] cb) .plain rfl
      obtain ⟨oF, hoF⟩ : ∃ oF, oF = Obj.cells #[Value.func (.func 75) #[] #[.pointer (some ⟨w.heap.size, 0, none⟩), .pointer (some ⟨s1, 0, none⟩), .pointer (some ⟨w.heap.size + 1, 0, none⟩)]] 93 := ⟨_, rfl⟩
      obtain ⟨oS, hoS⟩ : ∃ oS, oS = Obj.cells #[Value.func (.func 76) #[] #[.pointer (some ⟨w.heap.size + 1, 0, none⟩), .pointer (some ⟨s1 + 1, 0, none⟩)]] 93 := ⟨_, rfl⟩
      have hb4 : Below w3.heap.size w3 ((wr.alloc oF).alloc oS) := (hbe.alloc hbe.size _).alloc (by have := hbe.size; simp; omega) _
      have hbs := hbe.size
      have hsz4 : ((wr.alloc oF).alloc oS).heap.size = wr.heap.size + 2 := by simp
      have hK : Caps ((wr.alloc oF).alloc oS) w3.heap.size A A1 n c k c1 vs p w.heap.size s1 (w.heap.size + 1) (s1 + 1) wr.heap.size (wr.heap.size + 1) :=
        { tv := (hv.below (hb3.trans (hb4.mono hb3.size))).more hb3.size
          ps := (hI3.more (by omega)).below hb4
          cT := (hb4.cell (p := ⟨w.heap.size, 0, none⟩) (by simp; omega)).trans cT3
          cP := (hb4.cell (p := ⟨s1, 0, none⟩) (by simp; omega)).trans cP3
          cp := (hb4.cell (p := ⟨w.heap.size + 1, 0, none⟩) (by simp; omega)).trans cp3
          cN := (hb4.cell (p := ⟨s1 + 1, 0, none⟩) (by simp; omega)).trans cN3
          cF := by rw [hoF, World.cell?_alloc2_first]; rfl
          cS := by rw [hoS, World.cell?_alloc2_new]; rfl }
      have hsort := sort_near A A1 n c k c1 _ vs p w.heap.size s1 (w.heap.size + 1) (s1 + 1) wr.heap.size (wr.heap.size + 1) ((wr.alloc oF).alloc oS) w3.heap.size w3.heap.size u7 hn hl HPN h64 hK HA.out.1 HA.out.2 (Nat.le_refl _) ((hown.alloc _).alloc _)
        (fun blk hb => by have := hown.lt blk hb; omega) (by rw [hsz4]; omega)
      rw [hoF, hoS] at hsort hb4
      have HS := Lib.hid hsort
      have HB4 := Lib.hid hb4
      clear hsort hK hoF hoS hsz4 hb4 hown cT3 cp3 cP3 cN3
      go_wp2_with fail
      refine HS.out.mono ?_
      rintro e w6 ⟨rfl, A', c', rfl, hI6, hb6, hc1, hc2⟩
      have M := Lib.hid (show MadeC w (Dp.near vs p) (.returned (.slice A' (Dp.near vs p).length c')) w6 from
        ⟨A', c', rfl, hI6, hb3.trans ((HB4.out.trans hb6).mono hb3.size), hc1, hc2⟩)
      clear hst hmf
      go_wp2_with fail
      go_ret
      exact M.out
end Go.Proofs.YtdohnhdjlhaaaaaGreatDoor


/- dist's four calls, by contracts: they answer as the document says, and turn nothing that was there. -/
namespace Go.Proofs.YtdohnhdjlhaaaaaGreatDoor
open Go.RowKit
theorem near_any (A : Option Addr) (n c : Nat) (vs : List (Int × Int)) (p : Int) (w : World)
    (hn : Hid (vs.length = n)) (hl : n ≤ 9223372036854775807) (hf : Hid (Fit vs)) (hv : VRow w w.heap.size A vs) :
    Calls Tryz.prog 38 #[.slice A n c, .int .i64 p] w (Made w (Dp.near vs p)) := (near_cap A n c vs p w hn hl hf hv).mono fun _ _ h => h.made
end Go.Proofs.YtdohnhdjlhaaaaaGreatDoor


/- The document's Where, On, by their contracts: the first ring, or else the first row, in which one stands; whether a processor is plugged. -/
namespace Go.Proofs.YtdohnhdjlhaaaaaGreatDoor
open Go.RowKit
set_option linter.unusedVariables false

theorem has_false {zs : List Int} {g : Int} (h : ¬ Tp.has zs g = true) : Tp.has zs g = false := by cases e : Tp.has zs g; rfl; exact absurd e h
/-- Is a processor plugged? -/
theorem jrefOn_any (d : Ad) (r : Jp.Rn) (p : Int) (w : World) (hon : r.on < 18446744073709551616) :
    Calls Tryz.prog 41 #[jv d r, .int .i64 p] w fun e w' => e = .returned (.bool (Jp.onP r p)) ∧ Below w.heap.size w w' := by
  obtain ⟨V, hV, hX, hB⟩ := B5.start w (.slice d.T d.nt d.ct) (.int .i64 r.size) (.slice d.R d.nr d.cr) (.slice d.S d.ns d.cs) (.int .u64 (r.on : Nat)) 27
  have E := Lib.hid hV
  have d4 := hX.c4
  have B0 := Lib.hid hB
  have HC := Lib.hid (zrefAll_any r.on V hon)
  clear hV hX hB
  unfold jv
  go_enter Tryz.func41, Tryz.ntmps41
  go_wp2_with fail
  rw [← E.out]
  refine HC.out.mono ?_
  rintro e w2 ⟨v, n, rfl, ho, hb2⟩
  obtain ⟨A2, c2, rfl, hr2, _⟩ := Row.of_own' ho
  have HN := Lib.hid (in_any A2 n c2 (Zp.mem r.on) p w2 w2.heap.size (Lib.hid hr2.len) (by have := hr2.cap; have := hr2.most; omega) hr2.row)
  have B2 := Lib.hid (B0.out.trans (hb2.mono B0.out.size))
  clear hr2 hb2 HC ho
  go_wp2_with fail
  refine HN.out.mono ?_
  rintro e w3 ⟨rfl, rfl⟩
  go_wp2_with fail
  go_ret
  exact ⟨rfl, B2.out⟩
end Go.Proofs.YtdohnhdjlhaaaaaGreatDoor


/- The document's Next, Without and With, by their contracts. -/
namespace Go.Proofs.YtdohnhdjlhaaaaaGreatDoor
open Go.RowKit
set_option linter.unusedVariables false

/-- A plain address, or none. -/
def Flat (A : Option Addr) : Prop := ∀ ad, A = some ad → ad.spot = none
/-- What a call leaves that tells a row. -/
def TellF (w0 : World) (zs : List Int) (e : Ending) (w' : World) : Prop :=
  ∃ A n c, e = .returned (.slice A n c) ∧ Row w' A n c zs ∧ Flat A ∧ Below w0.heap.size w0 w'
theorem Row.flat_own {w : World} {base n : Nat} {e : TypeId} {v : Value} {zs : List Int} (h : w.ownsRow base e 1 v n (zs.map (Value.int .i64))) : ∃ A c, v = .slice A n c ∧ Row w A n c zs ∧ Flat A := by
  obtain ⟨A, c, rfl, hr⟩ := Row.of_own h
  refine ⟨A, c, rfl, hr, fun ad e => ?_⟩
  subst e
  rcases h.2 with ⟨h0, _⟩ | ⟨g, cap, cur, e1, _⟩
  · cases h0
  · injection e1 with e1
    injection e1 with e1
    rw [e1]
theorem MadeO.tellF {w0 w' : World} {zs : List Int} {e : Ending} (h : MadeO w0 zs e w') : TellF w0 zs e w' := by
  obtain ⟨v, n, rfl, ho, hb⟩ := h
  obtain ⟨A, c, rfl, hr, hf⟩ := Row.flat_own ho
  exact ⟨A, n, c, rfl, hr, hf, hb⟩
theorem find_here {zs : List Int} {k : Nat} {x n : Int} (hx : zs[k]? = some x) (h0 : ∀ z ∈ zs.take k, z < n) (h : n ≤ x) : zs.find? (fun z => decide (n ≤ z)) = some x := by
  have hk := (List.getElem?_eq_some_iff.1 hx).1
  have e : zs = zs.take k ++ x :: zs.drop (k + 1) := by
    rw [← (List.getElem?_eq_some_iff.1 hx).2, List.getElem_cons_drop, List.take_append_drop]
  rw [e, List.find?_append, List.find?_eq_none.2 (fun z hz => by have := h0 z hz; simp; omega)]
  simp [h]
theorem find_none {zs : List Int} {n : Int} (h0 : ∀ z ∈ zs, z < n) : zs.find? (fun z => decide (n ≤ z)) = none :=
  List.find?_eq_none.2 (fun z hz => by have := h0 z hz; simp; omega)
theorem nextL_in {zs : List Int} {a n : Int} (ha : zs[0]? = some a) (h1 : 0 ≤ n) (h2 : n ≤ 63) : Zp.nextL zs n = (zs.find? fun z => decide (n ≤ z)).getD a := by
  cases zs with
  | nil => cases ha
  | cons b t =>
    injection ha with ha
    subst ha
    show (if n < 0 ∨ 63 < n then b else _) = _
    rw [if_neg (by omega)]
theorem nextL_out {zs : List Int} {a n : Int} (ha : zs[0]? = some a) (h : n < 0 ∨ 63 < n) : Zp.nextL zs n = a := by
  cases zs with
  | nil => cases ha
  | cons b t =>
    injection ha with ha
    subst ha
    show (if n < 0 ∨ 63 < n then b else _) = _
    rw [if_pos h]
theorem take_lt {zs : List Int} {k : Nat} {x n : Int} (hx : zs[k]? = some x) (h0 : ∀ z ∈ zs.take k, z < n) (h : x < n) : ∀ z ∈ zs.take (k + 1), z < n := by
  intro z hz
  rw [List.take_add_one, hx] at hz
  rcases List.mem_append.1 hz with hz | hz
  · exact h0 z hz
  · simp at hz; subst hz; exact h
theorem outL_hit {zs : List Int} {k : Nat} {n : Int} (hx : zs[k]? = some n) : Zp.outL (zs.take (k + 1)) n = Zp.outL (zs.take k) n := by
  rw [List.take_add_one, hx]; unfold Zp.outL; rw [List.filter_append]; simp
theorem outL_miss {zs : List Int} {k : Nat} {x n : Int} (hx : zs[k]? = some x) (h : x ≠ n) : Zp.outL (zs.take (k + 1)) n = Zp.outL (zs.take k) n ++ [x] := by
  rw [List.take_add_one, hx]; unfold Zp.outL; rw [List.filter_append]; simp [h]
theorem outL_le (zs : List Int) (k : Nat) (n : Int) : (Zp.outL (zs.take k) n).length ≤ k := by
  unfold Zp.outL
  have h1 := List.length_filter_le (fun x => x != n) (zs.take k)
  have h2 := List.length_take_le k zs
  omega
end Go.Proofs.YtdohnhdjlhaaaaaGreatDoor


/- The document's With, by its contract. -/
namespace Go.Proofs.YtdohnhdjlhaaaaaGreatDoor
open Go.RowKit
set_option linter.unusedVariables false

theorem takeWhile_step {zs : List Int} {k : Nat} {x n : Int} (hx : zs[k]? = some x) (h0 : zs.takeWhile (· < n) = zs.take k ++ (zs.drop k).takeWhile (· < n)) (h : x < n) :
    zs.takeWhile (· < n) = zs.take (k + 1) ++ (zs.drop (k + 1)).takeWhile (· < n) := by
  have hk := (List.getElem?_eq_some_iff.1 hx).1
  rw [h0, List.take_add_one, hx, List.drop_eq_getElem_cons hk, (List.getElem?_eq_some_iff.1 hx).2, List.takeWhile_cons_of_pos (by simpa using h)]
  simp
theorem takeWhile_stop {zs : List Int} {k : Nat} {x n : Int} (hx : zs[k]? = some x) (h0 : zs.takeWhile (· < n) = zs.take k ++ (zs.drop k).takeWhile (· < n)) (h : ¬ x < n) :
    zs.takeWhile (· < n) = zs.take k := by
  have hk := (List.getElem?_eq_some_iff.1 hx).1
  rw [h0, List.drop_eq_getElem_cons hk, (List.getElem?_eq_some_iff.1 hx).2, List.takeWhile_cons_of_neg (by simpa using h), List.append_nil]
theorem withL_at {zs : List Int} {k : Nat} {n : Int} (hk : k ≤ zs.length) (ht : zs.takeWhile (· < n) = zs.take k) (h0 : 0 ≤ n) (h1 : n ≤ 63) (h : n ∉ zs) : Zp.withL zs n = zs.take k ++ [n] ++ zs.drop k := by
  unfold Zp.withL
  rw [if_neg (by rintro (e | e | e); omega; omega; exact h e), ht, List.length_take, Nat.min_eq_left hk]
theorem has_of {zs : List Int} {n : Int} : Tp.has zs n = decide (n ∈ zs) := by
  unfold Tp.has; rw [Bool.eq_iff_iff, List.contains_iff_mem, decide_eq_true_eq]
theorem Row.flat {w : World} {A : Option Addr} {m c : Nat} {zs : List Int} (h : Row w A m c zs) (hf : Flat A) : (A = none ∧ m = 0 ∧ c = 0) ∨ ∃ b off, A = some ⟨b, off, none⟩ := by
  cases A with
  | none => have h0 := h.nil rfl; have h1 := h.cap; exact .inl ⟨rfl, by omega, h0⟩
  | some ad =>
    obtain ⟨b, off, sp⟩ := ad
    have := hf _ rfl
    simp only at this
    subst this
    exact .inr ⟨b, off, rfl⟩
theorem row_below_refl {w : World} {A : Option Addr} {m c : Nat} {zs : List Int} (h : Row w A m c zs) (hf : Flat A) : TellF w zs (.returned (.slice A m c)) w := ⟨A, m, c, rfl, h, hf, Below.refl _ _⟩
end Go.Proofs.YtdohnhdjlhaaaaaGreatDoor


/- The library's table of the listed variable; a slice of numbers that came in; a start that meets the condition. -/
namespace Go.Proofs.YtdohnhdjlhaaaaaGreatDoor
open Go.ChangeShapes Go.WideShapes Go.ChangeAt Go.RowKit
set_option linter.unusedVariables false

/-- The one listed variable. -/
def laidList : List (String × DataW Unit) := [("math/bits.deBruijn64tab", Rows.laid_math_bits_deBruijn64tab)]
theorem gTab : Tryz.prog.globalNamed "math/bits.deBruijn64tab" = some 0 := by kernel_rfl
theorem tTab : (Tryz.prog.globals[0]?).map (·.type) = some 138 := by kernel_rfl
theorem tab_of_laid {W : World} (h : laidMetH Tryz.prog laidList W) : Tab W := by
  rw [MakeChecks.laidMetH_plain _ _ _ (by kernel_rfl)] at h
  have h' : laidMet Tryz.prog [("math/bits.deBruijn64tab", Lib.tabData .u8 (Lib.deBruijn64tab.map fun k : Nat => (k : Int)))] W := h
  have ht := Lib.tabIs_of_head gTab tTab Tryz.underlying138 Tryz.underlying5 (by kernel_rfl) (by kernel_rfl) h'
  intro j hj
  have := ht.cell gTab j (by simpa [Lib.deBruijn64tab] using hj)
  rw [this]
  congr 2
  simp only [List.getD_eq_getElem?_getD, List.getElem?_map]
  cases Lib.deBruijn64tab[j]? <;> rfl
theorem door_met (os : Os) (args : Array Value) : laidMetH Tryz.prog laidList ((World.doorLaid Tryz.prog 14 os).forCall (fun _ _ => 0) ⟨#[], args, []⟩).memory :=
  laidMetH_of_parts3 (fuel := 8) (laidMet_of_run' 8 (by kernel_rfl) (by kernel_rfl)) (by kernel_rfl) (by kernel_rfl)
theorem of_wf64 {a : Int} (h : (Lit.int .u64 a).wf = true) : ∃ x : Nat, a = x ∧ x < 18446744073709551616 := by
  have : 0 ≤ a ∧ a ≤ 18446744073709551615 := by simpa [Lit.wf, IntKind.min, IntKind.max, IntKind.signed, IntKind.bits] using h
  exact ⟨a.toNat, by omega, by omega⟩
/-- A slice of numbers that came in. -/
theorem open_list {H : Type} {enc : TypeId × Value → H} {W : World} {base : Nat} {spare : Nat → Bool} {held : Bool} {v : Value} {x : DataW H × List MemPlace} {fuel : Nat}
    (h : DataW.trod enc Tryz.prog W base spare held fuel 42 [v] = some x) : ∃ A n c zs, v = .slice A n c ∧ Row W A n c zs := by
  rcases open_ints Tryz.underlying42 Tryz.underlying3 (by kernel_rfl) h with ⟨hcs, _⟩ | ⟨a, len, cap, zs, hcs, _, hl, hm, hz, _, hcell, hw⟩
  · simp at hcs
    subst hcs
    exact ⟨none, 0, 0, [], rfl, Row.nothing W⟩
  · simp only [List.cons.injEq, and_true] at hcs
    subst hcs
    have hzl : len ≤ zs.length := by rw [hz]; split <;> omega
    refine ⟨some a, len, cap, zs.take len, rfl, ⟨by rw [List.length_take]; omega, hl, by unfold maxLen at hm; omega, (fun e => by cases e), fun i z hi => ?_⟩⟩
    have hil : i < len := by have := (List.getElem?_eq_some_iff.1 hi).1; rw [List.length_take] at this; omega
    rw [List.getElem?_take, if_pos hil] at hi
    have hc := hcell i (by omega)
    rw [show zs.getD i 0 = z by rw [List.getD, hi]; rfl] at hc
    obtain ⟨ab, ao, sp⟩ := a
    have hs : sp = none := by
      have := World.cell?_spot (hcell 0 (by omega))
      simpa [Addr.add] using this
    subst hs
    rw [add_lit'] at hc
    exact ⟨ab, ao, rfl, World.block_lt_of_cell? _ _ hc, hc⟩
end Go.Proofs.YtdohnhdjlhaaaaaGreatDoor

