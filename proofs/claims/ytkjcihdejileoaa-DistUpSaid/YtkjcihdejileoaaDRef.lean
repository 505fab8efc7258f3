/- The document's own answers of layer 2 (Procs, Far, Node, Near), by contracts. -/
import Derived.Test.YtkjcihdejileoaaRefUp
import Derived.Test.YtkjcihdejileoaaInts
import Derived.Test.YtkjcihdejileoaaIn
import Derived.Test.YtkjcihdejileoaaRefCheck
import Derived.Test.YtkjcihdejileoaaDPlain
namespace Go.Proofs.Ytkjcihdejileoaa
open Go.RowKit
set_option linter.unusedVariables false

theorem those_len (p : Int × Int → Bool) (vs : List (Int × Int)) : (Tp.those p vs).length ≤ vs.length := Tp.thoseF_le p vs 0

theorem refProcs_any (A : Option Addr) (n c : Nat) (vs : List (Int × Int)) (w : World)
    (hn : Hid (vs.length = n)) (hl : n ≤ 9223372036854775807) (hf : Hid (Fit vs)) (hv : VRow w w.heap.size A vs) :
    Calls Try.prog 19 #[.slice A n c] w fun e w' => e = .returned (.int .i64 (Dp.procsN vs)) ∧ Below w.heap.size w w' := by
  go_enter Try.func19, Try.ntmps19
  go_wp2_with fail
  refine (refCheck_any A n c vs _ hn hl hf hv).mono ?_
  rintro e w1 ⟨he, hb1⟩
  cases hm : Tp.may vs
  · rw [hm] at he
    have he' : e = .returned (.int .i64 2) := he
    subst he'
    have H : Hid (Dp.procsN vs = 0) := Lib.hid (by unfold Dp.procsN; rw [hm]; rfl)
    clear hm he
    go_wp2_with fail
    go_ret
    exact ⟨by rw [H.out]; rfl, hb1⟩
  · rw [hm] at he
    have he' : e = .returned (.int .i64 0) := he
    subst he'
    have H : Hid (Dp.procsN vs = (Tp.those (levelP 3) vs).length) := Lib.hid (by unfold Dp.procsN; rw [hm]; rfl)
    have h64 : n ≤ 64 := by have := ((Tp.tree_iff vs).1 hm).few; have := hn.out; omega
    clear hm he
    have hv1 := (hv.below hb1).more hb1.size
    go_wp2_with fail
    refine (refOf_any A n c vs 3 _ hn hl (by omega) hv1).mono ?_
    rintro e w2 ⟨A2, c2, rfl, _, hb2⟩
    go_wp2_with fail
    go_ret
    exact ⟨by rw [H.out]; rfl, hb1.trans (hb2.mono hb1.size)⟩

set_option maxHeartbeats 2000000 in
theorem refFar_any (A : Option Addr) (n c : Nat) (vs : List (Int × Int)) (a b : Int) (w : World)
    (hn : Hid (vs.length = n)) (hl : n ≤ 9223372036854775807) (hf : Hid (Fit vs)) (hv : VRow w w.heap.size A vs) :
    Calls Try.prog 12 #[.slice A n c, .int .i64 a, .int .i64 b] w fun e w' => e = .returned (.int .i64 (Dp.far vs a b)) ∧ Below w.heap.size w w' := by
  go_enter Try.func12, Try.ntmps12
  go_wp2_with fail
  refine (refProcs_any A n c vs _ hn hl hf hv).mono ?_
  rintro e w1 ⟨rfl, hb1⟩
  generalize hpn : Dp.procsN vs = m
  have HPN := Lib.hid hpn
  clear hpn
  by_cases h1 : a < 0
  · have H : Hid (Dp.far vs a b = -1) := Lib.hid (Dp.far_out (.inl h1))
    go_wp2_with fail
    go_ret
    exact ⟨by rw [H.out]; rfl, hb1⟩
  by_cases h2 : (m : Int) ≤ a
  · have H : Hid (Dp.far vs a b = -1) := Lib.hid (Dp.far_out (.inr (.inl (by rw [HPN.out]; exact h2))))
    go_wp2_with fail
    go_ret
    exact ⟨by rw [H.out]; rfl, hb1⟩
  by_cases h3 : b < 0
  · have H : Hid (Dp.far vs a b = -1) := Lib.hid (Dp.far_out (.inr (.inr (.inl h3))))
    go_wp2_with fail
    go_ret
    exact ⟨by rw [H.out]; rfl, hb1⟩
  by_cases h4 : (m : Int) ≤ b
  · have H : Hid (Dp.far vs a b = -1) := Lib.hid (Dp.far_out (.inr (.inr (.inr (by rw [HPN.out]; exact h4)))))
    go_wp2_with fail
    go_ret
    exact ⟨by rw [H.out]; rfl, hb1⟩
  have T : Tp.Tree vs := Dp.tree_of_in (a := a) (by omega) (by rw [HPN.out]; omega)
  obtain ⟨pa, pam⟩ := Dp.proc_mem T (a := a) (by omega) (by rw [HPN.out]; omega)
  obtain ⟨pb, pbm⟩ := Dp.proc_mem T (a := b) (by omega) (by rw [HPN.out]; omega)
  have HF : Hid (Dp.far vs a b = Dp.farV vs (Dp.proc vs a) (Dp.proc vs b)) := Lib.hid (Dp.far_in (by rw [HPN.out]; omega))
  have h64 : n ≤ 64 := by have := T.few; have := hn.out; omega
  have hmn : (Tp.those (levelP 3) vs).length = m := by rw [← HPN.out, Dp.procsN_tree T]; rfl
  have HMN := Lib.hid hmn
  have a0 := Dp.above0 T pam
  have b0 := Dp.above0 T pbm
  generalize Dp.proc vs a = x at pa pam HF a0
  generalize Dp.proc vs b = y at pb pbm HF b0
  have A0 := Lib.hid a0
  have B0 := Lib.hid b0
  have PA := Lib.hid pa
  have PB := Lib.hid pb
  obtain ⟨i, rfl⟩ := Int.eq_ofNat_of_zero_le (show 0 ≤ a by omega)
  obtain ⟨j, rfl⟩ := Int.eq_ofNat_of_zero_le (show 0 ≤ b by omega)
  have him : i < m := by omega
  have hjm : j < m := by omega
  clear a0 b0 pa pb hmn h1 h2 h3 h4
  have hv1 := (hv.below hb1).more hb1.size
  go_wp2_with fail
  refine (refOf_any A n c vs 3 _ hn hl (by omega) hv1).mono ?_
  rintro e w2 ⟨A2, c2, rfl, hI2, hb2⟩
  have hbe2 := hb1.trans (hb2.mono hb1.size)
  rw [HMN.out]
  obtain ⟨pb1, po1, hA2, _, hca⟩ := hI2 i x PA.out
  obtain ⟨pb2, po2, hA3, _, hcb⟩ := hI2 j y PB.out
  subst hA2
  injection hA3 with hA3
  injection hA3 with e1 e2
  subst e1 e2
  have d1 : decide ((i : Int) < 0) = false := by simp
  have d2 : decide ((j : Int) < 0) = false := by simp
  have hvw := hv.below hbe2
  clear hb1 hb2 hI2 hv1
  go_wp2_with fail
  clear hca hcb
  go_loop [9, 10, 11] (fun v u f => ∃ d : Nat, d ≤ 3 ∧ f = .int .i64 d ∧ v = .int .i64 (Dp.above vs d x) ∧ u = .int .i64 (Dp.above vs d y) ∧ Hid (∀ e : Nat, e < d → Dp.above vs e x ≠ Dp.above vs e y)) (fun _ _ f => 3 - (intOf f).toNat)
  case atStart => exact ⟨0, by omega, rfl, by rw [show Dp.above vs ((0 : Nat) : Int) x = x from A0.out], by rw [show Dp.above vs ((0 : Nat) : Int) y = y from B0.out], Lib.hid (fun e he => absurd he (by omega))⟩
  case round =>
    obtain ⟨d, hd, rfl, rfl, rfl, hne⟩ := hrel
    by_cases heq : Dp.above vs d x = Dp.above vs d y
    · have H : Hid (Dp.farV vs x y = d) := Lib.hid (Dp.farV_is hd (fun _ => heq) hne.out)
      rw [heq]
      generalize Dp.above vs d y = v
      have q1 : (v != v) = false := by simp
      go_wp2_with fail
      go_ret
      exact ⟨by rw [HF.out, H.out]; rfl, hbe2⟩
    · have hd2 : d ≤ 2 := by
        rcases Nat.lt_or_ge d 3 with h | h
        · omega
        · have : d = 3 := by omega
          subst this
          exact absurd (Dp.above_up T pam pbm).2.2 heq
      obtain ⟨k, u, ek, hk, eu⟩ := Dp.above_step T pam hd2
      obtain ⟨k', u', ek', hk', eu'⟩ := Dp.above_step T pbm hd2
      obtain ⟨b1, o1, hA, _, hc1, _⟩ := hvw k u hk
      obtain ⟨b2, o2, hA', _, hc2, _⟩ := hvw k' u' hk'
      subst hA
      injection hA' with hA'
      injection hA' with e1 e2
      subst e1 e2
      have hkl : k < n := by have := (List.getElem?_eq_some_iff.1 hk).1; have := hn.out; omega
      have hkl' : k' < n := by have := (List.getElem?_eq_some_iff.1 hk').1; have := hn.out; omega
      have HNE : Hid (∀ e : Nat, e < d + 1 → Dp.above vs e x ≠ Dp.above vs e y) := Lib.hid (fun e he => by
        by_cases e1 : e = d
        · subst e1; exact heq
        · exact hne.out e (by omega))
      rw [ek, ek'] at heq ⊢
      have q1 : ((k : Int) != (k' : Int)) = true := by rw [bne_iff_ne]; exact heq
      have q2 : ((k : Int) == (k' : Int)) = false := by rw [beq_eq_false_iff_ne]; exact heq
      have EU := Lib.hid eu
      have EU' := Lib.hid eu'
      clear ek ek' hk hk' eu eu' heq hne
      go_wp2_with fail
      go_round
      case rel => exact ⟨d + 1, by omega, by go_num, by rw [← EU.out], by rw [← EU'.out], HNE⟩
      case measure => simp [intOf]; omega

set_option maxHeartbeats 2000000 in
theorem refNode_any (A : Option Addr) (n c : Nat) (vs : List (Int × Int)) (p : Int) (w : World)
    (hn : Hid (vs.length = n)) (hl : n ≤ 9223372036854775807) (hf : Hid (Fit vs)) (hv : VRow w w.heap.size A vs) :
    Calls Try.prog 14 #[.slice A n c, .int .i64 p] w fun e w' => e = .returned (.int .i64 (Dp.node vs p)) ∧ Below w.heap.size w w' := by
  by_cases h1 : p < 0
  · have H : Hid (Dp.node vs p = -1) := Lib.hid (Dp.node_out (.inl h1))
    go_enter Try.func14, Try.ntmps14
    go_wp2_with fail
    go_ret
    exact ⟨by rw [H.out]; rfl, Below.refl _ _⟩
  go_enter Try.func14, Try.ntmps14
  go_wp2_with fail
  refine (refProcs_any A n c vs _ hn hl hf hv).mono ?_
  rintro e w1 ⟨rfl, hb1⟩
  generalize hpn : Dp.procsN vs = m
  have HPN := Lib.hid hpn
  clear hpn
  by_cases h2 : (m : Int) ≤ p
  · have H : Hid (Dp.node vs p = -1) := Lib.hid (Dp.node_out (.inr (by rw [HPN.out]; exact h2)))
    go_wp2_with fail
    go_ret
    exact ⟨by rw [H.out]; rfl, hb1⟩
  have T : Tp.Tree vs := Dp.tree_of_in (a := p) (by omega) (by rw [HPN.out]; omega)
  obtain ⟨pa, pam⟩ := Dp.proc_mem T (a := p) (by omega) (by rw [HPN.out]; omega)
  have HF : Hid (Dp.node vs p = Dp.place (Tp.those (levelP 1) vs) (Tp.up vs 1 n (Dp.proc vs p))) := Lib.hid (by
    rw [← hn.out]; exact Dp.node_in (by rw [HPN.out]; omega))
  have h64 : n ≤ 64 := by have := T.few; have := hn.out; omega
  have hmn : (Tp.those (levelP 3) vs).length = m := by rw [← HPN.out, Dp.procsN_tree T]; rfl
  have HMN := Lib.hid hmn
  generalize Dp.proc vs p = x at pa pam HF
  have PA := Lib.hid pa
  obtain ⟨i, rfl⟩ := Int.eq_ofNat_of_zero_le (show 0 ≤ p by omega)
  have him : i < m := by omega
  have d1 : decide ((i : Int) < 0) = false := by simp
  clear pa hmn h1 h2
  have hv1 := (hv.below hb1).more hb1.size
  go_wp2_with fail
  refine (refOf_any A n c vs 3 _ hn hl (by omega) hv1).mono ?_
  rintro e w2 ⟨A2, c2, rfl, hI2, hb2⟩
  have hbe2 := hb1.trans (hb2.mono hb1.size)
  rw [HMN.out]
  obtain ⟨pb1, po1, hA2, _, hca⟩ := hI2 i x PA.out
  subst hA2
  have hv2 := (hv.below hbe2).more hbe2.size
  clear hb1 hb2 hI2 hv1
  go_wp2_with fail
  refine (refUp_any A n c vs x 1 _ hn hl hv2).mono ?_
  rintro e w3 ⟨rfl, rfl⟩
  generalize Tp.up vs 1 n x = v at HF ⊢
  clear hca
  go_wp2_with fail
  refine (refOf_any A n c vs 1 _ hn hl (by omega) hv2).mono ?_
  rintro e w4 ⟨A4, c4, rfl, hI4, hb4⟩
  have hbe4 := hbe2.trans (hb4.mono hbe2.size)
  have hle := Tp.those_le (levelP 1) vs n
  rw [show vs.take n = vs from List.take_of_length_le (by have := hn.out; omega)] at hle
  generalize hnl : (Tp.those (levelP 1) vs).length = nn at hle ⊢
  have HNL := Lib.hid hnl
  clear hnl hb4
  go_wp2_with fail
  go_loop [7] (fun i => ∃ k : Nat, k ≤ nn ∧ i = .int .i64 k ∧ Hid (v ∉ (Tp.those (levelP 1) vs).take k)) (fun i => nn - (intOf i).toNat)
  case atStart => exact ⟨0, by omega, rfl, Lib.hid (by simp)⟩
  case round =>
    obtain ⟨k, hk, rfl, hno⟩ := hrel
    by_cases hkn : k < nn
    · obtain ⟨z, hz⟩ : ∃ z, (Tp.those (levelP 1) vs)[k]? = some z := ⟨_, List.getElem?_eq_getElem (by have := HNL.out; omega)⟩
      obtain ⟨pb, po, hA, _, hcz⟩ := hI4 k z hz
      subst hA
      cases hq : (z == v)
      · have H : Hid (v ∉ (Tp.those (levelP 1) vs).take (k + 1)) := Lib.hid (by
          rw [List.take_add_one, hz]
          simp only [Option.toList_some, List.mem_append, List.mem_singleton, not_or]
          rw [beq_eq_false_iff_ne] at hq
          exact ⟨hno.out, fun h => hq h.symm⟩)
        clear hz
        go_wp2_with fail
        go_round
        case rel => exact ⟨k + 1, by omega, by go_num, H⟩
        case measure => simp [intOf]; omega
      · have H : Hid (Dp.place (Tp.those (levelP 1) vs) v = k) := Lib.hid (by
          rw [beq_iff_eq] at hq
          subst hq
          exact Dp.place_hit hz hno.out)
        clear hz
        go_wp2_with fail
        go_ret
        exact ⟨by rw [HF.out, H.out]; rfl, hbe4⟩
    · have H : Hid (Dp.place (Tp.those (levelP 1) vs) v = -1) := Lib.hid (Dp.place_out (by
        have := hno.out
        rw [List.take_of_length_le (by have := HNL.out; omega)] at this
        exact this))
      go_wp2_with fail
      go_ret
      exact ⟨by rw [HF.out, H.out]; rfl, hbe4⟩

set_option maxHeartbeats 2000000 in
set_option maxRecDepth 100000 in
theorem refNear_any (A : Option Addr) (n c : Nat) (vs : List (Int × Int)) (p : Int) (w : World)
    (hn : Hid (vs.length = n)) (hl : n ≤ 9223372036854775807) (hf : Hid (Fit vs)) (hv : VRow w w.heap.size A vs) :
    Calls Try.prog 17 #[.slice A n c, .int .i64 p] w (Made w (Dp.near vs p)) := by
  go_enter Try.func17, Try.ntmps17
  go_wp2_with fail
  refine (refProcs_any A n c vs _ hn hl hf hv).mono ?_
  rintro e w1 ⟨rfl, hb1⟩
  generalize hpn : Dp.procsN vs = m
  have HPN := Lib.hid hpn
  clear hpn
  have nothing : Dp.near vs p = [] → Made w (Dp.near vs p) (.returned (.slice none 0 0)) w1 := fun h => by
    rw [h]; exact ⟨none, 0, rfl, fun i z hi => by simp at hi, hb1⟩
  by_cases h1 : p < 0
  · have H := Lib.hid (nothing (Dp.near_out (.inl h1)))
    clear nothing
    go_wp2_with fail
    go_ret
    exact H.out
  by_cases h2 : (m : Int) ≤ p
  · have H := Lib.hid (nothing (Dp.near_out (.inr (by rw [HPN.out]; exact h2))))
    clear nothing
    go_wp2_with fail
    go_ret
    exact H.out
  clear nothing
  have T : Tp.Tree vs := Dp.tree_of_in (a := p) (by omega) (by rw [HPN.out]; omega)
  have HF : Hid (Dp.near vs p = Dp.nearTo vs p 3) := Lib.hid (Dp.near_in (by rw [HPN.out]; omega))
  have h64 : n ≤ 64 := by have := T.few; have := hn.out; omega
  have hm64 : m ≤ 64 := by
    have := those_len (levelP 3) vs
    have e : (Tp.those (levelP 3) vs).length = m := by rw [← HPN.out, Dp.procsN_tree T]; rfl
    have := hn.out
    omega
  obtain ⟨i, rfl⟩ := Int.eq_ofNat_of_zero_le (show 0 ≤ p by omega)
  have him : i < m := by omega
  have d1 : decide ((i : Int) < 0) = false := by simp
  have d2 : decide (m ≤ i) = false := by simp; omega
  clear h1 h2
  obtain ⟨i0, hi, hz0, hz1, hz2⟩ := info_parts info_int
  have hnone : w1.ownsRow w1.heap.size 3 1 (.slice none 0 0) 0 [] := World.ownsRow_nil _ _ _ _
  go_wp2_with fail
  go_loopw [6, 7] (fun u f wr => ∃ d : Nat, d ≤ 3 ∧ f = .int .i64 ((d : Int) + 1) ∧ wr.ownsRow w1.heap.size 3 1 u (Dp.nearTo vs i d).length ((Dp.nearTo vs i d).map (Value.int .i64)) ∧ Below w1.heap.size w1 wr) (fun _ f _ => 4 - (intOf f).toNat)
  case atStart => exact ⟨0, by omega, rfl, World.ownsRow_nil _ _ _ _, Below.refl _ _⟩
  case round =>
    obtain ⟨d, hd, rfl, hown, hbe⟩ := hrel
    by_cases hd3 : d < 3
    · have hle := Dp.nearTo_le vs i d
      rw [HPN.out] at hle
      have hle' : (Dp.nearTo vs i d).length ≤ 192 := Nat.le_trans hle (by have := Nat.mul_le_mul (show d ≤ 3 by omega) hm64; omega)
      have e3 : decide ((d : Int) + 1 ≤ 3) = true := decide_eq_true (by omega)
      obtain ⟨wo, rfl⟩ : ∃ wo : World, wo = wr := ⟨_, rfl⟩
      clear hle
      go_wp2_with fail
      go_loopw [6, 8] (fun u k wr => ∃ t : Nat, t + 1 ≤ m ∧ k = .int .i64 ((t : Int) + 1) ∧ wr.ownsRow w1.heap.size 3 1 u (Dp.nearTo vs i d ++ Dp.ringF vs i ((d + 1 : Nat) : Int) m t).length ((Dp.nearTo vs i d ++ Dp.ringF vs i ((d + 1 : Nat) : Int) m t).map (Value.int .i64)) ∧ Below w1.heap.size w1 wr) (fun _ k _ => m - (intOf k).toNat)
      case atStart => exact ⟨0, by omega, rfl, by simpa [Dp.ringF] using hown, hbe⟩
      case round =>
        obtain ⟨t, ht, rfl, hown2, hbi⟩ := hrel
        by_cases htm : t + 1 < m
        · have hri := Dp.ringF_le vs i ((d + 1 : Nat) : Int) m t
          have hll : (Dp.nearTo vs i d ++ Dp.ringF vs i ((d + 1 : Nat) : Int) m t).length ≤ 256 := by rw [List.length_append]; omega
          obtain ⟨q, hq⟩ : ∃ q : Int, q = ((i : Int) + ((t + 1 : Nat) : Int)) % (m : Int) := ⟨_, rfl⟩
          have q1 : ((i : Int) + ((t : Int) + 1)) % (m : Int) = q := by rw [hq]; rfl
          have q0 : 0 ≤ q := by rw [hq]; exact Int.emod_nonneg _ (by omega)
          have HR : Hid (Dp.ringF vs i ((d + 1 : Nat) : Int) m (t + 1) = Dp.ringF vs i ((d + 1 : Nat) : Int) m t ++ if Dp.far vs i q = ((d + 1 : Nat) : Int) then [q] else []) := Lib.hid (by rw [hq]; rfl)
          have hvi := ((hv.below hb1).more hb1.size).below hbi
          have hvi' := hvi.more hbi.size
          have t1 : decide ((t : Int) + 1 < (m : Int)) = true := decide_eq_true (by omega)
          have t2 : ¬ m = 0 := by omega
          clear hq
          generalize hL : Dp.nearTo vs i d ++ Dp.ringF vs i ((d + 1 : Nat) : Int) m t = L at hown2 hll
          have HL := Lib.hid hL
          clear hL hri
          go_wp2_with fail
          refine (refFar_any A n c vs i q _ hn hl hf hvi').mono ?_
          rintro e w4 ⟨rfl, hb4⟩
          have hbe4 := hbi.trans (hb4.mono hbi.size)
          have hown4 := own_below hown2 hb4
          generalize hfar : Dp.far vs i q = f at HR ⊢
          clear hfar hvi hvi' hown2
          cases hfd : (f == (d : Int) + 1)
          · have H : Hid (Dp.nearTo vs i d ++ Dp.ringF vs i ((d + 1 : Nat) : Int) m (t + 1) = L) := Lib.hid (by
              rw [HR.out, if_neg (by rw [beq_eq_false_iff_ne] at hfd; omega), List.append_nil, HL.out])
            go_wp2_with fail
            go_roundw
            case rel => exact ⟨t + 1, by omega, by go_num, by rw [H.out]; exact hown4, hbe4⟩
            case measure => simp [intOf]; omega
          · have H : Hid (Dp.nearTo vs i d ++ Dp.ringF vs i ((d + 1 : Nat) : Int) m (t + 1) = L ++ [q]) := Lib.hid (by
              rw [HR.out, if_pos (by rw [beq_iff_eq] at hfd; omega), ← List.append_assoc, HL.out])
            go_wp2_with (at_builtin; refine wpList_append_own _ rfl _ _ 27 rfl w1.heap.size 3 i0 (.int .i64 0) 1 8 Try.underlying27 hi hz0 hz1 hz2 rfl (by decide) _ _ _ rfl (hown4.alloc _) ⟨w4.heap.size, 0, none⟩ 1 1 [.int .i64 q] rfl rfl ?c1 ?c2 ?c3 ?c4 ?c5 ?_)
            case c1 => exact one_cell _ _ _
            case c2 => intro u hu; simp at hu; subst hu; rfl
            case c3 => unfold maxLen; omega
            case c4 => omega
            case c5 => have := hbe4.size; simp; omega
            intro v' w5 hown5 hg _
            go_wp2_with fail
            go_roundw
            case rel =>
              refine ⟨t + 1, by omega, by go_num, ?_, (hbe4.alloc hbe4.size _).grown hg (by have := hbe4.size; simp; omega) (fun j hj => (hown4.lt j hj).1)⟩
              rw [H.out]; simpa using hown5
            case measure => simp [intOf]; omega
        · have H : Hid (Dp.nearTo vs i d ++ Dp.ringF vs i ((d + 1 : Nat) : Int) m t = Dp.nearTo vs i (d + 1)) := Lib.hid (by
            rw [Dp.nearTo, Dp.ring, HPN.out, show t = m - 1 by omega])
          rw [H.out] at hown2
          have t1 : decide ((t : Int) + 1 < (m : Int)) = false := decide_eq_false (by omega)
          go_wp2_with fail
          go_roundw
          case rel => exact ⟨d + 1, by omega, by go_num, hown2, hbi⟩
          case measure => simp [intOf]; omega
    · have e3 : decide ((d : Int) + 1 ≤ 3) = false := decide_eq_false (by omega)
      rw [show d = 3 by omega] at hown
      go_wp2_with fail
      go_ret
      rw [HF.out]
      exact made_of hb1 hown hbe
end Go.Proofs.Ytkjcihdejileoaa

