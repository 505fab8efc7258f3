/- dist.Far and dist.Node, by contracts: how far two processors are from each other, and a processor's node, as the document says. -/
import Derived.Test.YtkjcihdejileoaaDApart
import Derived.Test.YtkjcihdejileoaaDRef
import Derived.Test.YtkjcihdejileoaaNodes
import Derived.Deep.RegionHeld3
namespace Go.Proofs.Ytkjcihdejileoaa
open Go.RowKit
set_option linter.unusedVariables false

theorem isP_far {vs : List (Int × Int)} {a b : Int} (h : isP a (Dp.procsN vs) = true) (h' : isP b (Dp.procsN vs) = true) : Dp.far vs a b = Dp.farV vs (Dp.proc vs a) (Dp.proc vs b) :=
  Dp.far_in (by have := isP_iff.1 h; have := isP_iff.1 h'; omega)
theorem isP_proc {vs : List (Int × Int)} {a : Int} (h : isP a (Dp.procsN vs) = true) : ∃ i : Nat, a = i ∧ i < Dp.procsN vs ∧ (procsIf vs)[i]? = some (Dp.proc vs a) ∧ Tp.Tree vs := by
  obtain ⟨h0, h1⟩ := isP_iff.1 h
  obtain ⟨i, rfl⟩ := Int.eq_ofNat_of_zero_le h0
  have T := Dp.tree_of_in h0 h1
  refine ⟨i, rfl, by omega, ?_, T⟩
  have := (Dp.proc_mem T h0 h1).1
  unfold procsIf
  rw [if_pos ((Tp.tree_iff vs).2 T)]
  exact this

theorem proc_of {vs : List (Int × Int)} {i : Nat} (h : i < Dp.procsN vs) : (procsIf vs)[i]? = some (Dp.proc vs i) := by
  obtain ⟨j, e, _, hp, _⟩ := isP_proc (vs := vs) (a := i) (isP_iff.2 (by omega))
  rw [show i = j by omega] at hp ⊢
  exact hp
theorem procsN_fits (vs : List (Int × Int)) (n : Nat) (hn : Hid (vs.length = n)) (hl : n ≤ 9223372036854775807) : Dp.procsN vs ≤ 9223372036854775807 := by
  have h1 := those_len (levelP 3) vs
  have h2 := hn.out
  have e : (procsIf vs).length ≤ (Tp.those (levelP 3) vs).length := by
    unfold procsIf; split
    · exact Nat.le_refl _
    · exact Nat.zero_le _
  rw [procsIf_length] at e
  omega

set_option maxHeartbeats 2000000 in
theorem far_any (A : Option Addr) (n c : Nat) (vs : List (Int × Int)) (a b : Int) (w : World)
    (hn : Hid (vs.length = n)) (hl : n ≤ 9223372036854775807) (hf : Hid (Fit vs)) (hv : VRow w w.heap.size A vs) :
    Calls Try.prog 11 #[.slice A n c, .int .i64 a, .int .i64 b] w fun e w' => e = .returned (.int .i64 (Dp.far vs a b)) ∧ Below w.heap.size w w' := by
  go_enter Try.func11, Try.ntmps11
  go_wp2_with fail
  refine (procsOf_any A n c vs _ hn hl hf hv).mono ?_
  rintro e w1 ⟨A1, c1, rfl, hI1, hb1⟩
  rw [procsIf_length]
  have hm := procsN_fits vs n hn hl
  generalize hpn : Dp.procsN vs = m at hm ⊢
  have HPN := Lib.hid hpn
  clear hpn
  go_wp2_with fail
  refine (among_any A1 m c1 a _ hm).mono ?_
  rintro e w2 ⟨rfl, rfl⟩
  cases ha : isP a m
  · have H : Hid (Dp.far vs a b = -1) := Lib.hid (Dp.far_out (by rw [HPN.out]; have := isP_not.1 ha; omega))
    clear ha
    go_wp2_with fail
    go_ret
    exact ⟨by rw [H.out]; rfl, hb1⟩
  have HA := Lib.hid ha
  clear ha
  go_wp2_with fail
  refine (among_any A1 m c1 b _ hm).mono ?_
  rintro e w2 ⟨rfl, rfl⟩
  cases hb : isP b m
  · have H : Hid (Dp.far vs a b = -1) := Lib.hid (Dp.far_out (by rw [HPN.out]; have := isP_not.1 hb; omega))
    clear hb
    go_wp2_with fail
    go_ret
    exact ⟨by rw [H.out]; rfl, hb1⟩
  have HB := Lib.hid hb
  clear hb
  have HF : Hid (Dp.far vs a b = Dp.farV vs (Dp.proc vs a) (Dp.proc vs b)) := Lib.hid (isP_far (by rw [HPN.out]; exact HA.out) (by rw [HPN.out]; exact HB.out))
  obtain ⟨i, rfl, him, pa, _⟩ := isP_proc (vs := vs) (a := a) (by rw [HPN.out]; exact HA.out)
  obtain ⟨j, rfl, hjm, pb, _⟩ := isP_proc (vs := vs) (a := b) (by rw [HPN.out]; exact HB.out)
  rw [HPN.out] at him hjm
  obtain ⟨pb1, po1, hA1, _, hca⟩ := hI1 i _ pa
  obtain ⟨pb2, po2, hA2, _, hcb⟩ := hI1 j _ pb
  subst hA1
  injection hA2 with hA2
  injection hA2 with e1 e2
  subst e1 e2
  have hv1 := hv.below hb1
  generalize Dp.proc vs i = x at *
  generalize Dp.proc vs j = y at *
  have G : Hid (∀ q, Calls Try.prog 26 #[.slice A n c, .int .i64 x, .int .i64 y] (w2.drewN q) fun e w' => e = .returned (.int .i64 (Dp.farV vs x y)) ∧ ∃ q', w' = (w2.drewN q).drewN q') :=
    Lib.hid (fun q => apart_quiet A n c vs x y (w2.drewN q) _ hn hl hv1)
  clear pa pb hI1
  go_wp2_with fail
  go_quiet ((go_at_call 26; (with_reducible exact Calls.quiet_of (G.out _))))
  go_wp2_with fail
  go_ret
  exact ⟨by rw [HF.out]; rfl, below_drewN hb1 _⟩

theorem index_any (A : Option Addr) (n c : Nat) (zs : List Int) (v : Int) (w : World) (B : Nat)
    (hn : Hid (zs.length = n)) (hl : n ≤ 9223372036854775807) (hv : IRow w B A zs) :
    Calls Try.prog 27 #[.slice A n c, .int .i64 v] w fun e w' => e = .returned (.int .i64 (Dp.place zs v)) ∧ w' = w := by
  go_enter Try.func27, Try.ntmps27
  go_wp2
  go_loop [8] (fun i => ∃ k : Nat, k ≤ n ∧ i = .int .i64 k ∧ Hid (v ∉ zs.take k)) (fun i => n - (intOf i).toNat)
  case atStart => exact ⟨0, by omega, rfl, Lib.hid (by simp)⟩
  case round =>
    obtain ⟨k, hk, rfl, hno⟩ := hrel
    by_cases hkn : k < n
    · obtain ⟨z, hz⟩ : ∃ z, zs[k]? = some z := ⟨_, List.getElem?_eq_getElem (by have := hn.out; omega)⟩
      obtain ⟨pb, po, hA, _, hcz⟩ := hv k z hz
      subst hA
      cases hq : (v == z)
      · have H : Hid (v ∉ zs.take (k + 1)) := Lib.hid (by
          rw [List.take_add_one, hz]
          simp only [Option.toList_some, List.mem_append, List.mem_singleton, not_or]
          rw [beq_eq_false_iff_ne] at hq
          exact ⟨hno.out, hq⟩)
        clear hz
        go_wp2
        go_round
        case rel => exact ⟨k + 1, by omega, by go_num, H⟩
        case measure => simp [intOf]; omega
      · have H : Hid (Dp.place zs v = k) := Lib.hid (by
          rw [beq_iff_eq] at hq
          subst hq
          exact Dp.place_hit hz hno.out)
        clear hz
        go_wp2
        go_ret
        exact ⟨by rw [H.out]; rfl, rfl⟩
    · have H : Hid (Dp.place zs v = -1) := Lib.hid (Dp.place_out (by
        have := hno.out
        rw [List.take_of_length_le (by have := hn.out; omega)] at this
        exact this))
      go_wp2
      go_ret
      exact ⟨by rw [H.out]; rfl, rfl⟩

theorem below_undrew' {w w' : World} (h : Below w.drew.heap.size w.drew w') : Below w.heap.size w w' := ⟨h.os, h.tape, h.output, h.size, h.block⟩

set_option maxHeartbeats 4000000 in
theorem node_any (A : Option Addr) (n c : Nat) (vs : List (Int × Int)) (p : Int) (w : World)
    (hn : Hid (vs.length = n)) (hl : n ≤ 9223372036854775807) (hf : Hid (Fit vs)) (hv : VRow w w.heap.size A vs) :
    Calls Try.prog 13 #[.slice A n c, .int .i64 p] w fun e w' => e = .returned (.int .i64 (Dp.node vs p)) ∧ Below w.heap.size w w' := by
  go_enter Try.func13, Try.ntmps13
  go_wp2_with fail
  refine (procsOf_any A n c vs _ hn hl hf hv).mono ?_
  rintro e w1 ⟨A1, c1, rfl, hI1, hb1⟩
  rw [procsIf_length]
  have hm := procsN_fits vs n hn hl
  generalize hpn : Dp.procsN vs = m at hm ⊢
  have HPN := Lib.hid hpn
  clear hpn
  go_wp2_with fail
  refine (among_any A1 m c1 p _ hm).mono ?_
  rintro e w2 ⟨rfl, rfl⟩
  cases ha : isP p m
  · have H : Hid (Dp.node vs p = -1) := Lib.hid (Dp.node_out (by rw [HPN.out]; exact isP_not.1 ha))
    clear ha
    go_wp2_with fail
    go_ret
    exact ⟨by rw [H.out]; rfl, hb1⟩
  have HA := Lib.hid ha
  clear ha
  have HF : Hid (Dp.node vs p = Dp.place (Tp.those (levelP 1) vs) (Tp.up vs 1 n (Dp.proc vs p))) := Lib.hid (by
    rw [← hn.out]; exact Dp.node_in (by rw [HPN.out]; have := isP_iff.1 HA.out; omega))
  obtain ⟨i, rfl, him, pa, T⟩ := isP_proc (vs := vs) (a := p) (by rw [HPN.out]; exact HA.out)
  have h64 : n ≤ 64 := by have := T.few; have := hn.out; omega
  rw [HPN.out] at him
  obtain ⟨pb1, po1, hA1, hpb, hca⟩ := hI1 i _ pa
  subst hA1
  have hv1 := (hv.below hb1).more hb1.size
  generalize Dp.proc vs i = x at *
  have hle := those_len (levelP 1) vs
  clear pa hI1 T
  go_wp2_with fail
  go_region_held3 (fun w' => w'.cell? ⟨pb1, po1 + i, none⟩ = some (.int .i64 x))
    (first | (rw [hbY.cell (by have := hbX.size; simp; omega)]; assumption) | (rw [hbX.cell (by simp; omega)]; assumption) | go_keep)
    ((first
      | (go_at_call 28; refine (nodes_any A n c vs _ hn hl (by omega) (by exact hv1)).mono ?_; rintro e wX ⟨AX, cX, rfl, hIX, hbX'⟩; have hbX := below_undrew' hbX')
      | (go_at_call 29; refine (up_any A n c vs x 1 _ hn hl (by exact ((hv1.below hbX).more hbX.size))).mono ?_; rintro e wY ⟨rfl, hbY⟩)
      | (go_at_call 27; refine (index_any AX _ cX _ _ _ wX.heap.size (Lib.hid rfl) (by have := hn.out; omega) (by exact (hIX.below hbY))).mono ?_; rintro e wZ ⟨rfl, rfl⟩)))
  go_wp2_with fail
  go_ret
  exact ⟨by rw [HF.out]; rfl, hb1.trans ((hbX.trans (hbY.mono hbX.size)).mono hb1.size)⟩
end Go.Proofs.Ytkjcihdejileoaa

