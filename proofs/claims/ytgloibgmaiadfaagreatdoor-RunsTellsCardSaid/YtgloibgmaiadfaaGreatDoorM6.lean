/- Contracts and plain mathematics, put together by program (wip/merge.py) out of: DRef JRefWhere RPut RHalf JAll JMet ZRef ZRefWith ZLaid. -/
import Derived.Test.YtgloibgmaiadfaaGreatDoorM1
import Derived.Test.YtgloibgmaiadfaaGreatDoorM0
import Derived.Test.YtgloibgmaiadfaaGreatDoorRefCheck
import Derived.Test.YtgloibgmaiadfaaGreatDoorM2
import Derived.Test.YtgloibgmaiadfaaGreatDoorM3
import Derived.Test.YtgloibgmaiadfaaGreatDoorZAll
import Derived.Test.YtgloibgmaiadfaaGreatDoorRAdd
import Derived.Test.YtgloibgmaiadfaaGreatDoorM4
import Derived.Maps.OwnSet
import Derived.RegionTactic
import Derived.Test.YtgloibgmaiadfaaGreatDoorCards
import Derived.Test.YtgloibgmaiadfaaGreatDoorTie
import Derived.ChangeSlices
import Derived.Lib.SmallJoins
import Derived.Lib.LaidTab
import Derived.LaidMore
import Derived.SevenTiedAt
import Derived.Stop.Joined
import Derived.MakeChecks
/- The document's own answers of layer 2 (Procs, Far, Node, Near), by contracts. -/
namespace Go.Proofs.YtgloibgmaiadfaaGreatDoor
open Go.RowKit
set_option linter.unusedVariables false


theorem refProcs_any (A : Option Addr) (n c : Nat) (vs : List (Int × Int)) (w : World)
    (hn : Hid (vs.length = n)) (hl : n ≤ 9223372036854775807) (hf : Hid (Fit vs)) (hv : VRow w w.heap.size A vs) :
    Calls Tryz.prog 65 #[.slice A n c] w fun e w' => e = .returned (.int .i64 (Dp.procsN vs)) ∧ Below w.heap.size w w' := by
  go_enter Tryz.func65, Tryz.ntmps65
  go_wp2_with fail
  refine (refCheck_any A n c vs _ hn hl hf hv).mono ?_
  rintro e w1 ⟨he, hb1⟩
  cases hm : Tp.may vs
  · rw [hm] at he
    have he' : e = .returned (.int .i64 2) := he
    subst he'
    have H : Hid (Dp.procsN vs = 0) := Lib.hid (by unfold Dp.procsN; rw [hm]; rfl)
    clear hm he
    go_wp2_with fail
    go_ret
    exact ⟨by rw [H.out]; rfl, hb1⟩
  · rw [hm] at he
    have he' : e = .returned (.int .i64 0) := he
    subst he'
    have H : Hid (Dp.procsN vs = (Tp.those (levelP 3) vs).length) := Lib.hid (by unfold Dp.procsN; rw [hm]; rfl)
    have h64 : n ≤ 64 := by have := ((Tp.tree_iff vs).1 hm).few; have := hn.out; omega
    clear hm he
    have hv1 := (hv.below hb1).more hb1.size
    go_wp2_with fail
    refine (refOf_any A n c vs 3 _ hn hl (by omega) hv1).mono ?_
    rintro e w2 ⟨A2, c2, rfl, _, hb2⟩
    go_wp2_with fail
    go_ret
    exact ⟨by rw [H.out]; rfl, hb1.trans (hb2.mono hb1.size)⟩

set_option maxHeartbeats 2000000 in
theorem refNode_any (A : Option Addr) (n c : Nat) (vs : List (Int × Int)) (p : Int) (w : World)
    (hn : Hid (vs.length = n)) (hl : n ≤ 9223372036854775807) (hf : Hid (Fit vs)) (hv : VRow w w.heap.size A vs) :
    Calls Tryz.prog 29 #[.slice A n c, .int .i64 p] w fun e w' => e = .returned (.int .i64 (Dp.node vs p)) ∧ Below w.heap.size w w' := by
  by_cases h1 : p < 0
  · have H : Hid (Dp.node vs p = -1) := Lib.hid (Dp.node_out (.inl h1))
    go_enter Tryz.func29, Tryz.ntmps29
    go_wp2_with fail
    go_ret
    exact ⟨by rw [H.out]; rfl, Below.refl _ _⟩
  go_enter Tryz.func29, Tryz.ntmps29
  go_wp2_with fail
  refine (refProcs_any A n c vs _ hn hl hf hv).mono ?_
  rintro e w1 ⟨rfl, hb1⟩
  generalize hpn : Dp.procsN vs = m
  have HPN := Lib.hid hpn
  clear hpn
  by_cases h2 : (m : Int) ≤ p
  · have H : Hid (Dp.node vs p = -1) := Lib.hid (Dp.node_out (.inr (by rw [HPN.out]; exact h2)))
    go_wp2_with fail
    go_ret
    exact ⟨by rw [H.out]; rfl, hb1⟩
  have T : Tp.Tree vs := Dp.tree_of_in (a := p) (by omega) (by rw [HPN.out]; omega)
  obtain ⟨pa, pam⟩ := Dp.proc_mem T (a := p) (by omega) (by rw [HPN.out]; omega)
  have HF : Hid (Dp.node vs p = Dp.place (Tp.those (levelP 1) vs) (Tp.up vs 1 n (Dp.proc vs p))) := Lib.hid (by
    rw [← hn.out]; exact Dp.node_in (by rw [HPN.out]; omega))
  have h64 : n ≤ 64 := by have := T.few; have := hn.out; omega
  have hmn : (Tp.those (levelP 3) vs).length = m := by rw [← HPN.out, Dp.procsN_tree T]; rfl
  have HMN := Lib.hid hmn
  generalize Dp.proc vs p = x at pa pam HF
  have PA := Lib.hid pa
  obtain ⟨i, rfl⟩ := Int.eq_ofNat_of_zero_le (show 0 ≤ p by omega)
  have him : i < m := by omega
  have d1 : decide ((i : Int) < 0) = false := by simp
  clear pa hmn h1 h2
  have hv1 := (hv.below hb1).more hb1.size
  go_wp2_with fail
  refine (refOf_any A n c vs 3 _ hn hl (by omega) hv1).mono ?_
  rintro e w2 ⟨A2, c2, rfl, hI2, hb2⟩
  have hbe2 := hb1.trans (hb2.mono hb1.size)
  rw [HMN.out]
  obtain ⟨pb1, po1, hA2, _, hca⟩ := hI2 i x PA.out
  subst hA2
  have hv2 := (hv.below hbe2).more hbe2.size
  clear hb1 hb2 hI2 hv1
  go_wp2_with fail
  refine (refUp_any A n c vs x 1 _ hn hl hv2).mono ?_
  rintro e w3 ⟨rfl, rfl⟩
  generalize Tp.up vs 1 n x = v at HF ⊢
  clear hca
  go_wp2_with fail
  refine (refOf_any A n c vs 1 _ hn hl (by omega) hv2).mono ?_
  rintro e w4 ⟨A4, c4, rfl, hI4, hb4⟩
  have hbe4 := hbe2.trans (hb4.mono hbe2.size)
  have hle := Tp.those_le (levelP 1) vs n
  rw [show vs.take n = vs from List.take_of_length_le (by have := hn.out; omega)] at hle
  generalize hnl : (Tp.those (levelP 1) vs).length = nn at hle ⊢
  have HNL := Lib.hid hnl
  clear hnl hb4
  go_wp2_with fail
  go_loop [7] (fun i => ∃ k : Nat, k ≤ nn ∧ i = .int .i64 k ∧ Hid (v ∉ (Tp.those (levelP 1) vs).take k)) (fun i => nn - (intOf i).toNat)
  case atStart => exact ⟨0, by omega, rfl, Lib.hid (by simp)⟩
  case round =>
    obtain ⟨k, hk, rfl, hno⟩ := hrel
    by_cases hkn : k < nn
    · obtain ⟨z, hz⟩ : ∃ z, (Tp.those (levelP 1) vs)[k]? = some z := ⟨_, List.getElem?_eq_getElem (by have := HNL.out; omega)⟩
      obtain ⟨pb, po, hA, _, hcz⟩ := hI4 k z hz
      subst hA
      cases hq : (z == v)
      · have H : Hid (v ∉ (Tp.those (levelP 1) vs).take (k + 1)) := Lib.hid (by
          rw [List.take_add_one, hz]
          simp only [Option.toList_some, List.mem_append, List.mem_singleton, not_or]
          rw [beq_eq_false_iff_ne] at hq
          exact ⟨hno.out, fun h => hq h.symm⟩)
        clear hz
        go_wp2_with fail
        go_round
        case rel => exact ⟨k + 1, by omega, by go_num, H⟩
        case measure => simp [intOf]; omega
      · have H : Hid (Dp.place (Tp.those (levelP 1) vs) v = k) := Lib.hid (by
          rw [beq_iff_eq] at hq
          subst hq
          exact Dp.place_hit hz hno.out)
        clear hz
        go_wp2_with fail
        go_ret
        exact ⟨by rw [HF.out, H.out]; rfl, hbe4⟩
    · have H : Hid (Dp.place (Tp.those (levelP 1) vs) v = -1) := Lib.hid (Dp.place_out (by
        have := hno.out
        rw [List.take_of_length_le (by have := HNL.out; omega)] at this
        exact this))
      go_wp2_with fail
      go_ret
      exact ⟨by rw [HF.out, H.out]; rfl, hbe4⟩

end Go.Proofs.YtgloibgmaiadfaaGreatDoor


/- The document's Where, On, by their contracts: the first ring, or else the first row, in which one stands; whether a processor is plugged. -/
namespace Go.Proofs.YtgloibgmaiadfaaGreatDoor
open Go.RowKit
set_option linter.unusedVariables false

theorem has_false {zs : List Int} {g : Int} (h : ¬ Tp.has zs g = true) : Tp.has zs g = false := by cases e : Tp.has zs g; rfl; exact absurd e h
set_option maxHeartbeats 1000000 in
theorem jrefWhere_any {F : Nat → Prop} (d : Ad) (r : Jp.Rn) (g : Int) (w : World) (h : RM F w d r) (hlow : Low r) :
    Calls Tryz.prog 12 #[jv d r, .int .i64 g] w fun e w' => e = .returned (.tuple #[.int .i64 (Jp.whr r g).1, .int .i64 (Jp.whr r g).2]) ∧ Below w.heap.size w w' := by
  obtain ⟨T, nt, ct, R, nr, cr, S, ns, cs⟩ := d
  have H := Lib.hid h
  have HL := Lib.hid hlow
  obtain ⟨hr1, hr2, hr3⟩ := h.nr
  obtain ⟨hs1, hs2, hs3⟩ := h.ns
  have hr4 := hlow.rings
  have hs4 := hlow.rows
  simp only at hr1 hr2 hr3 hs1 hs2 hs3
  clear h hlow
  obtain ⟨V, hV, hX, hB⟩ := B5.start w (.slice T nt ct) (.int .i64 r.size) (.slice R nr cr) (.slice S ns cs) (.int .u64 (r.on : Nat)) 27
  have E := Lib.hid hV
  have X0 := Lib.hid hX
  have B0 := Lib.hid hB
  clear hV hX hB
  unfold jv
  go_enter Tryz.func12, Tryz.ntmps12
  go_wp2_with fail
  rw [← E.out]
  clear E
  go_loopw [6] (fun i wr => ∃ k : Nat, k ≤ nr ∧ i = .int .i64 k ∧ Hid (∀ j, j < k → ∀ y, r.rings[j]? = some y → Tp.has (Rp.all y) g = false) ∧ Hid (Below V.heap.size V wr)) (fun i _ => nr - (intOf i).toNat)
  case atStart => exact ⟨0, Nat.zero_le _, rfl, Lib.hid (fun j hj => absurd hj (by omega)), Lib.hid (Below.refl _ _)⟩
  case round =>
    obtain ⟨k, hk, rfl, HO, HB⟩ := hrel
    have hB1 := B0.out.trans (HB.out.mono B0.out.size)
    have HM := Lib.hid (H.out.below hB1)
    have B1 := Lib.hid hB1
    have X1 := X0.out.step HB.out
    have d2 := X1.c2
    have d3 := X1.c3
    clear X1 hB1
    by_cases hlt : k < nr
    · obtain ⟨x, hx⟩ : ∃ x, r.rings[k]? = some x := ⟨_, List.getElem?_eq_getElem (by omega)⟩
      obtain ⟨b, off, A, n, c, hR, _, c0, c1, hrow⟩ := HM.out.ringAt hx
      simp only at hR
      subst hR
      have hn : n ≤ 400 := by rw [← hrow.len]; exact HL.out.ring x (List.mem_of_getElem? hx)
      have HC := Lib.hid (refAll_any x.1 A n c x.2 wr hrow (by omega))
      have HX := Lib.hid hx
      have i0 : (0 : Int) ≤ (k : Int) := by omega
      have i1 : (k : Int) < (nr : Int) := by omega
      clear hx hrow hr1 hs1 HM
      go_wp2_with fail
      refine HC.out.mono ?_
      rintro e w2 ⟨A2, n2, c2, rfl, hr2', hb2⟩
      have HN := Lib.hid (in_any A2 n2 c2 (Rp.all x) g w2 w2.heap.size (Lib.hid (show (Rp.all x).length = n2 from hr2'.len)) (by have := hr2'.cap; have := hr2'.most; omega) hr2'.row)
      have B2 := Lib.hid (B1.out.trans (hb2.mono B1.out.size))
      have HB2 := Lib.hid (HB.out.trans (hb2.mono HB.out.size))
      clear hr2' hb2 HC c0 c1 d2 d3
      go_wp2_with fail
      refine HN.out.mono ?_
      rintro e w3 ⟨rfl, rfl⟩
      by_cases hh : Tp.has (Rp.all x) g = true
      · have HW := Lib.hid (Jp.whr_ring HX.out hh HO.out)
        rw [hh]
        have B3 := B2
        clear HN hh
        go_wp2_with fail
        refine bodyPost_ret (v := .tuple #[.int .i64 (k : Nat), .int .i64 (-1)]) (by simp [results, Tryz.results12, go_sem]) rfl ?_
        exact ⟨by rw [HW.out], B3.out⟩
      · have hf := has_false hh
        rw [hf]
        have HO2 := Lib.hid (show ∀ j, j < k + 1 → ∀ y, r.rings[j]? = some y → Tp.has (Rp.all y) g = false from fun j hj y hy => by
          by_cases e : j = k
          · subst e
            rw [HX.out] at hy
            injection hy with hy
            subst hy
            exact hf
          · exact HO.out j (by omega) y hy)
        clear HN hh hf
        go_wp2_with fail
        go_roundw
        case rel => exact ⟨k + 1, by omega, by go_num, HO2, HB2⟩
        case measure => simp [intOf]; omega
    · obtain rfl : k = nr := by omega
      have HR := Lib.hid (show ∀ y ∈ r.rings, Tp.has (Rp.all y) g = false from fun y hy => by
        obtain ⟨j, hj⟩ := List.mem_iff_getElem?.1 hy
        exact HO.out j (by rw [← hr1]; exact (List.getElem?_eq_some_iff.1 hj).1) y hj)
      obtain ⟨wo, rfl⟩ : ∃ wo : World, wo = wr := ⟨_, rfl⟩
      go_wp2_with fail
      clear d2 d3 HO
      go_loopw [7] (fun i wr => ∃ k : Nat, k ≤ ns ∧ i = .int .i64 k ∧ Hid (∀ j, j < k → ∀ y, r.rows[j]? = some y → Tp.has y g = false) ∧ Hid (Below V.heap.size V wr)) (fun i _ => ns - (intOf i).toNat)
      case atStart => exact ⟨0, Nat.zero_le _, rfl, Lib.hid (fun j hj => absurd hj (by omega)), HB⟩
      case round =>
        clear HB B1 HM
        obtain ⟨j, hj, rfl, HO, HB⟩ := hrel
        have hB1 := B0.out.trans (HB.out.mono B0.out.size)
        have HM := Lib.hid (H.out.below hB1)
        have B3 := Lib.hid hB1
        have X1 := X0.out.step HB.out
        have d2 := X1.c2
        have d3 := X1.c3
        clear X1 hB1
        by_cases hlj : j < ns
        · obtain ⟨x, hx⟩ : ∃ x, r.rows[j]? = some x := ⟨_, List.getElem?_eq_getElem (by omega)⟩
          obtain ⟨b, off, A, n, c, hR, _, c0, hrow⟩ := HM.out.rowAt hx
          simp only at hR
          subst hR
          have HN := Lib.hid (in_any A n c x g wr wr.heap.size (Lib.hid hrow.len) (by have := hrow.cap; have := hrow.most; omega) hrow.row)
          have HX := Lib.hid hx
          have i0 : (0 : Int) ≤ (j : Int) := by omega
          have i1 : (j : Int) < (ns : Int) := by omega
          clear hx hrow hr1 hs1 HM
          go_wp2_with fail
          refine HN.out.mono ?_
          rintro e w3 ⟨rfl, rfl⟩
          by_cases hh : Tp.has x g = true
          · have HW := Lib.hid (Jp.whr_row HR.out HX.out hh HO.out)
            rw [hh]
            clear HN hh
            go_wp2_with fail
            refine bodyPost_ret (v := .tuple #[.int .i64 (-1), .int .i64 (j : Nat)]) (by simp [results, Tryz.results12, go_sem]) rfl ?_
            exact ⟨by rw [HW.out], B3.out⟩
          · have hf := has_false hh
            rw [hf]
            have HO2 := Lib.hid (show ∀ t, t < j + 1 → ∀ y, r.rows[t]? = some y → Tp.has y g = false from fun t ht y hy => by
              by_cases e : t = j
              · subst e
                rw [HX.out] at hy
                injection hy with hy
                subst hy
                exact hf
              · exact HO.out t (by omega) y hy)
            clear HN hh hf
            go_wp2_with fail
            go_roundw
            case rel => exact ⟨j + 1, by omega, by go_num, HO2, HB⟩
            case measure => simp [intOf]; omega
        · obtain rfl : j = ns := by omega
          have HW := Lib.hid (Jp.whr_no HR.out (show ∀ y ∈ r.rows, Tp.has y g = false from fun y hy => by
            obtain ⟨t, ht⟩ := List.mem_iff_getElem?.1 hy
            exact HO.out t (by rw [← hs1]; exact (List.getElem?_eq_some_iff.1 ht).1) y ht))
          go_wp2_with fail
          refine bodyPost_ret (v := .tuple #[.int .i64 (-1), .int .i64 (-1)]) (by simp [results, Tryz.results12, go_sem]) rfl ?_
          exact ⟨by rw [HW.out], B3.out⟩
/-- Is a processor plugged? -/
theorem jrefOn_any (d : Ad) (r : Jp.Rn) (p : Int) (w : World) (hon : r.on < 18446744073709551616) :
    Calls Tryz.prog 27 #[jv d r, .int .i64 p] w fun e w' => e = .returned (.bool (Jp.onP r p)) ∧ Below w.heap.size w w' := by
  obtain ⟨V, hV, hX, hB⟩ := B5.start w (.slice d.T d.nt d.ct) (.int .i64 r.size) (.slice d.R d.nr d.cr) (.slice d.S d.ns d.cs) (.int .u64 (r.on : Nat)) 27
  have E := Lib.hid hV
  have d4 := hX.c4
  have B0 := Lib.hid hB
  have HC := Lib.hid (zrefAll_any r.on V hon)
  clear hV hX hB
  unfold jv
  go_enter Tryz.func27, Tryz.ntmps27
  go_wp2_with fail
  rw [← E.out]
  refine HC.out.mono ?_
  rintro e w2 ⟨v, n, rfl, ho, hb2⟩
  obtain ⟨A2, c2, rfl, hr2, _⟩ := Row.of_own' ho
  have HN := Lib.hid (in_any A2 n c2 (Zp.mem r.on) p w2 w2.heap.size (Lib.hid hr2.len) (by have := hr2.cap; have := hr2.most; omega) hr2.row)
  have B2 := Lib.hid (B0.out.trans (hb2.mono B0.out.size))
  clear hr2 hb2 HC ho
  go_wp2_with fail
  refine HN.out.mono ?_
  rintro e w3 ⟨rfl, rfl⟩
  go_wp2_with fail
  go_ret
  exact ⟨rfl, B2.out⟩
end Go.Proofs.YtgloibgmaiadfaaGreatDoor


/- ring.Put, Take, All and Half, by their contracts. -/
namespace Go.Proofs.YtgloibgmaiadfaaGreatDoor
open Go.RowKit
set_option linter.unusedVariables false

set_option maxHeartbeats 1600000 in
theorem put_any (x : Int) (A : Option Addr) (n c : Nat) (zs : List Int) (g s : Int) (w : World) (h : Row w A n c zs) (hn : n ≤ 100000) :
    Calls Tryz.prog 24 #[.agg #[.int .i64 x, .slice A n c], .int .i64 g, .int .i64 s] w (MadeRL w (Rp.put (x, zs) g s)) := by
  have H := Lib.hid h
  clear h
  obtain ⟨W0, hW0, hX0⟩ := Bx.start w (.int .i64 x) (.slice A n c) (.int .i64 0) (.slice none 0 0) 55 55
  have X0 := Lib.hid hX0
  have E0 := Lib.hid hW0
  clear hX0 hW0
  by_cases hx : x = 0
  · subst hx
    have HR := Lib.hid (show Rp.put (0, zs) g s = ((g, zs), []) from rfl)
    go_enter Tryz.func24, Tryz.ntmps24
    go_wp2_with fail
    rw [← E0.out]
    clear E0
    refine (left_at A n c zs 0 _ _ rfl (H.out.below X0.out.below) (by omega) (by omega)).mono ?_
    rintro e w2 ⟨A2, n2, c2, rfl, hr2, hf2, hb2⟩
    have X2 := X0.out.step hb2
    rw [List.drop_zero] at hr2
    have HM := made_rl (r := ((g, zs), [])) (x := g) (m := 0) (u := .int .i64 g) (v := .slice A2 n2 c2) (w := w) rfl hr2 (hf2.mono X0.out.size) (Row.nothing _) (From.none _) X2.below
    rw [← HR.out] at HM
    have HM := Lib.hid HM
    have d2 := X2.r0
    have d3 := X2.r1
    have d4 := X2.f0
    have d5 := X2.f1
    obtain ⟨k0, k1⟩ := told2 (u := .int .i64 g) (v := .slice A2 n2 c2) d2 d3
    clear hr2 hf2 hb2 HR
    go_wp2_with fail
    refine bodyPost_ret (v := .tuple #[.agg #[.int .i64 g, .slice A2 n2 c2], .slice none 0 0]) ?_ rfl ?_
    · simp [results, Tryz.results24, go_sem, k0, k1]
    exact HM.out
  · have HR := Lib.hid (show Rp.put (x, zs) g s = Rp.add (g, zs) x s by unfold Rp.put; rw [if_neg hx])
    have t1 : (x == 0) = false := by rw [beq_eq_false_iff_ne]; exact hx
    go_enter Tryz.func24, Tryz.ntmps24
    go_wp2_with fail
    rw [← E0.out]
    clear E0
    refine (add_any g A n c zs x s _ (H.out.below X0.out.below) hn).mono ?_
    rintro e w2 ⟨A2, n2, c2, B2, m2, d2, rfl, hr2, hf2, hq2, hg2, hb2⟩
    have X2 := X0.out.step hb2
    obtain ⟨y, hy⟩ : ∃ y, y = (Rp.add (g, zs) x s).1.1 := ⟨_, rfl⟩
    rw [← hy]
    have HM := made_rl (r := Rp.add (g, zs) x s) (x := y) (u := .int .i64 y) (v := .slice A2 n2 c2) (w := w) hy hr2 (hf2.mono X0.out.size) hq2 (hg2.mono X0.out.size) X2.below
    rw [← HR.out] at HM
    have HM := Lib.hid HM
    have l2 := X2.r0
    have l3 := X2.r1
    have l4 := X2.f0
    have l5 := X2.f1
    obtain ⟨k0, k1⟩ := told2 (u := .int .i64 y) (v := .slice A2 n2 c2) l2 l3
    clear hr2 hf2 hq2 hg2 hb2 hy
    go_wp2_with fail
    refine bodyPost_ret (v := .tuple #[.agg #[.int .i64 y, .slice A2 n2 c2], .slice B2 m2 d2]) ?_ rfl ?_
    · simp [results, Tryz.results24, go_sem, k0, k1]
    exact HM.out
/-- What a call leaves that has made a ring and a number. -/
def MadeRI (w0 : World) (r : (Int × List Int) × Int) (e : Ending) (w' : World) : Prop :=
  ∃ A n c, e = .returned (.tuple #[.agg #[.int .i64 r.1.1, .slice A n c], .int .i64 r.2]) ∧ Row w' A n c r.1.2 ∧ From w0.heap.size A ∧ Below w0.heap.size w0 w'
theorem made_ri {w W2 : World} {r : (Int × List Int) × Int} {A : Option Addr} {n c : Nat} {x y : Int} {u v : Value} (hx : x = r.1.1) (hy : y = r.2) (ha : Row W2 A n c r.1.2) (fa : From (w.heap.size + 2) A) (hbe : Below w.heap.size w W2) :
    MadeRI w r (.returned (.tuple #[.agg #[.int .i64 x, .slice A n c], .int .i64 y])) ((W2.setCell ⟨w.heap.size + 1, 0, none⟩ u).setCell ⟨w.heap.size + 1, 1, none⟩ v) := by
  subst hx hy
  exact ⟨A, n, c, rfl, (ha.set fa).set fa, fa.mono (by omega), (hbe.setCell (by simp) _).setCell (by simp) _⟩
end Go.Proofs.YtgloibgmaiadfaaGreatDoor


/- ring.All and ring.Half, by their contracts. -/
namespace Go.Proofs.YtgloibgmaiadfaaGreatDoor
open Go.RowKit
set_option linter.unusedVariables false

set_option maxHeartbeats 1600000 in
theorem all_own (x : Int) (A : Option Addr) (n c : Nat) (zs : List Int) (w : World) (h : Row w A n c zs) (hn : n ≤ 100000) :
    Calls Tryz.prog 36 #[.agg #[.int .i64 x, .slice A n c]] w (MadeO w (Rp.all (x, zs))) := by
  have H := Lib.hid h
  clear h
  by_cases hx : x = 0
  · subst hx
    have hb := Lib.hid (below_new w (.cells #[.int .i64 0, .slice A n c] 55))
    have HR := Lib.hid (show Rp.all (0, zs) = zs from rfl)
    go_enter Tryz.func36, Tryz.ntmps36
    go_wp2_with fail
    refine (left_own A n c zs 0 _ (H.out.below hb.out) (by omega) (by omega)).mono ?_
    rintro e w2 ⟨v2, n2, rfl, ho2, hb2⟩
    rw [List.drop_zero] at ho2
    go_wp2_with fail
    go_ret
    exact ⟨v2, n2, rfl, by rw [HR.out]; exact own_base' ho2 hb.out.size, hb.out.trans (hb2.mono hb.out.size)⟩
  · have t1 : (x == 0) = false := by rw [beq_eq_false_iff_ne]; exact hx
    have HR := Lib.hid (show Rp.all (x, zs) = [x] ++ zs by unfold Rp.all; rw [if_neg hx]; rfl)
    have hb := Lib.hid (below_new w (.cells #[.int .i64 x, .slice A n c] 55))
    have hb1 := Lib.hid (below_new (w.alloc (.cells #[.int .i64 x, .slice A n c] 55)) (.cells #[.int .i64 x] 3))
    have hown := Lib.hid (own_lit (w.alloc (.cells #[.int .i64 x, .slice A n c] 55)) [x] w.heap.size (by simp) (by simp))
    go_enter Tryz.func36, Tryz.ntmps36
    go_wp2_with (at_builtin; refine wpList_append_row rfl (.tmp 11) (.tmp 13) rfl w.heap.size (.slice (some ⟨w.heap.size + 1, 0, none⟩) 1 1) 1 [x] rfl ?c1 A n c zs rfl ?c2 (by omega) ?c3 ?_)
    case c1 => simpa using hown.out
    case c2 => exact (H.out.below hb.out).below hb1.out
    case c3 => simp; omega
    intro v2 w2 hown2 hg2
    have hbe : Below w.heap.size w w2 := (hb.out.trans (hb1.out.mono hb.out.size)).grown hg2 (by simp; omega) (fun k hk => by simp [Value.ownBlock] at hk; omega)
    have ho2 : w2.ownsRow w.heap.size 3 1 v2 (1 + n) (([x] ++ zs).map (Value.int .i64)) := by simpa using hown2
    clear hown2
    go_wp2_with fail
    go_ret
    exact ⟨v2, _, rfl, by rw [HR.out]; exact ho2, hbe⟩
theorem all_any (x : Int) (A : Option Addr) (n c : Nat) (zs : List Int) (w : World) (h : Row w A n c zs) (hn : n ≤ 100000) :
    Calls Tryz.prog 36 #[.agg #[.int .i64 x, .slice A n c]] w (MadeR w (Rp.all (x, zs))) := (all_own x A n c zs w h hn).mono fun _ _ => MadeO.madeR
end Go.Proofs.YtgloibgmaiadfaaGreatDoor


/- runs.All, isSize, slices.Contains, by their contracts. -/
namespace Go.Proofs.YtgloibgmaiadfaaGreatDoor
open Go.RowKit
set_option linter.unusedVariables false

theorem place_has (zs : List Int) (v : Int) : decide (0 ≤ Dp.place zs v) = Tp.has zs v := by
  cases h : Tp.has zs v
  · rw [Dp.place_out (Jp.has_no.1 h)]; decide
  · obtain ⟨m, e, _⟩ := Dp.place_mem (Jp.has_iff.1 h)
    rw [e]; simp
theorem contains_any (A : Option Addr) (n c : Nat) (zs : List Int) (v : Int) (w : World) (h : Row w A n c zs) :
    Calls Tryz.prog 35 #[.slice A n c, .int .i64 v] w fun e w' => e = .returned (.bool (Tp.has zs v)) ∧ w' = w := by
  have HC := Lib.hid (index_any A n c zs v w w.heap.size (Lib.hid h.len) (by have := h.cap; have := h.most; omega) h.row)
  have HP := Lib.hid (place_has zs v)
  clear h
  go_enter Tryz.func35, Tryz.ntmps35
  go_wp2_with fail
  refine HC.out.mono ?_
  rintro e w1 ⟨rfl, rfl⟩
  clear HC
  by_cases hz : 0 ≤ Dp.place zs v
  · have hb : Tp.has zs v = true := by rw [← HP.out]; simp [hz]
    have HH := Lib.hid hb
    clear HP hb
    go_wp2_with fail
    go_ret
    exact ⟨ret_bool HH.out.symm, rfl⟩
  · have hb : Tp.has zs v = false := by rw [← HP.out]; simp [hz]
    have hz1 : Dp.place zs v < 0 := by omega
    have HH := Lib.hid hb
    clear hb
    go_wp2_with fail
    go_ret
    exact ⟨ret_bool HP.out, rfl⟩
theorem isSize_any (s : Int) (w : World) : Calls Tryz.prog 42 #[.int .i64 s] w fun e w' => e = .returned (.bool (decide (2 ≤ s ∧ s ≤ 16))) ∧ w' = w := by
  by_cases h1 : s < 2
  · have hd : decide (2 ≤ s ∧ s ≤ 16) = false := by simp; omega
    rw [hd]
    go_enter Tryz.func42, Tryz.ntmps42
    go_wp2_with fail
    go_ret
    exact ⟨rfl, rfl⟩
  have h1' : 2 ≤ s := by omega
  by_cases h2 : 16 < s
  · have hd : decide (2 ≤ s ∧ s ≤ 16) = false := by simp; omega
    rw [hd]
    clear h1
    go_enter Tryz.func42, Tryz.ntmps42
    go_wp2_with fail
    go_ret
    exact ⟨ret_bool (by simp [h2]), rfl⟩
  have h2' : s ≤ 16 := by omega
  have hd : decide (2 ≤ s ∧ s ≤ 16) = true := by simp; omega
  rw [hd]
  clear h1 h2
  go_enter Tryz.func42, Tryz.ntmps42
  go_wp2_with fail
  go_ret
  exact ⟨ret_bool (by simp), rfl⟩
set_option maxHeartbeats 1000000 in
theorem runsAll_any {F : Nat → Prop} (d : Ad) (r : Jp.Rn) (w : World) (h : RM F w d r) (hlow : Low r) :
    Calls Tryz.prog 18 #[jv d r] w (MadeR w (Jp.all r)) := by
  obtain ⟨T, nt, ct, R, nr, cr, S, ns, cs⟩ := d
  have H := Lib.hid h
  have HL := Lib.hid hlow
  obtain ⟨hr1, hr2, hr3⟩ := h.nr
  obtain ⟨hs1, hs2, hs3⟩ := h.ns
  have hr4 := hlow.rings
  have hs4 := hlow.rows
  simp only at hr1 hr2 hr3 hs1 hs2 hs3
  clear h hlow
  obtain ⟨V, hV, hX, hB⟩ := B5.start w (.slice T nt ct) (.int .i64 r.size) (.slice R nr cr) (.slice S ns cs) (.int .u64 (r.on : Nat)) 33
  have E := Lib.hid hV
  have X0 := Lib.hid hX
  have B0 := Lib.hid hB
  clear hV hX hB
  unfold jv
  go_enter Tryz.func18, Tryz.ntmps18
  go_wp2_with fail
  rw [← E.out]
  clear E
  have d2 := X0.out.c2
  go_loopw [3, 11] (fun u i wr => ∃ k : Nat, k ≤ nr ∧ i = .int .i64 k ∧ Hid (wr.ownsRow V.heap.size 3 1 u (ringsTo r k).length ((ringsTo r k).map (Value.int .i64))) ∧ Hid (Below V.heap.size V wr)) (fun _ i _ => nr - (intOf i).toNat)
  case atStart => exact ⟨0, Nat.zero_le _, rfl, Lib.hid (World.ownsRow_nil _ _ _ _), Lib.hid (Below.refl _ _)⟩
  case round =>
    obtain ⟨k, hk, rfl, HO, HB⟩ := hrel
    have hB1 := B0.out.trans (HB.out.mono B0.out.size)
    have HM := Lib.hid (H.out.below hB1)
    have B1 := Lib.hid hB1
    have X1 := X0.out.step HB.out
    have d3 := X1.c3
    clear X1 hB1 d2
    obtain ⟨u0, v0, rfl, _⟩ := Row.of_own HO.out
    by_cases hlt : k < nr
    · obtain ⟨x, hx⟩ : ∃ x, r.rings[k]? = some x := ⟨_, List.getElem?_eq_getElem (by omega)⟩
      obtain ⟨b, off, A, n, c, hR, _, c0, c1, hrow⟩ := HM.out.ringAt hx
      simp only at hR
      subst hR
      have hn : n ≤ 400 := by rw [← hrow.len]; exact HL.out.ring x (List.mem_of_getElem? hx)
      have hb2 := below_new wr (.cells #[.int .i64 x.1, .slice A n c] 55)
      have HC := Lib.hid (all_any x.1 A n c x.2 _ (hrow.below hb2) (by omega))
      have B2 := Lib.hid (B1.out.trans (hb2.mono B1.out.size))
      have HB2 := Lib.hid (HB.out.trans (hb2.mono HB.out.size))
      have O2 := Lib.hid (own_below HO.out hb2)
      have HT := Lib.hid (ringsTo_succ hx)
      have HLE := Lib.hid (ringsTo_le HL.out k)
      have hxl := Rp.all_length x
      have HXL := Lib.hid (show (Rp.all x).length ≤ 401 by rw [hrow.len] at hxl; omega)
      have i0 : (0 : Int) ≤ (k : Int) := by omega
      have i1 : (k : Int) < (nr : Int) := by omega
      clear hx hrow hxl hr1 hs1 HM hb2
      go_wp2_with fail
      refine HC.out.mono ?_
      rintro e w2 ⟨A2, n2, c2, rfl, hr2, _, hb2⟩
      have R2 := Lib.hid (show Row w2 A2 n2 c2 (Rp.all x) from hr2)
      have HN := Lib.hid (show (Rp.all x).length = n2 from hr2.len)
      have O3 := Lib.hid (own_below O2.out hb2)
      have B3 := Lib.hid (B2.out.trans (hb2.mono B2.out.size))
      have HB3 := Lib.hid (HB2.out.trans (hb2.mono HB2.out.size))
      clear hr2 hb2 HC c0 c1 d3 O2 B2 HB2
      go_wp2_with (at_builtin; refine wpList_append_row rfl _ _ rfl V.heap.size _ _ _ rfl O3.out A2 n2 c2 _ rfl R2.out (by have := HLE.out; have := HXL.out; have := HN.out; omega) HB3.out.size ?_; intro v' w3 hown hg)
      have O4 := Lib.hid (show w3.ownsRow V.heap.size 3 1 v' (ringsTo r (k + 1)).length ((ringsTo r (k + 1)).map (Value.int .i64)) by rw [HT.out, List.length_append, HN.out]; exact hown)
      have B4 := Lib.hid (HB3.out.grown hg HB3.out.size (fun j hj => (O3.out.lt j hj).1))
      clear hown hg R2
      go_wp2_with fail
      go_roundw
      case rel => exact ⟨k + 1, by omega, by go_num, O4, B4⟩
      case measure => simp [intOf]; omega
    · obtain rfl : k = nr := by omega
      have HRA := Lib.hid (show ringsTo r k = rowsTo r 0 by rw [rowsTo_zero, hr1])
      obtain ⟨wo, rfl⟩ : ∃ wo : World, wo = wr := ⟨_, rfl⟩
      go_wp2_with fail
      clear d3
      go_loopw [3, 23] (fun u i wr => ∃ j : Nat, j ≤ ns ∧ i = .int .i64 j ∧ Hid (wr.ownsRow V.heap.size 3 1 u (rowsTo r j).length ((rowsTo r j).map (Value.int .i64))) ∧ Hid (Below V.heap.size V wr)) (fun _ i _ => ns - (intOf i).toNat)
      case atStart => exact ⟨0, Nat.zero_le _, rfl, by rw [← HRA.out]; exact HO, HB⟩
      case round =>
        clear HO HB B1 HM
        obtain ⟨j, hj, rfl, HO, HB⟩ := hrel
        have hB1 := B0.out.trans (HB.out.mono B0.out.size)
        have HM := Lib.hid (H.out.below hB1)
        have B1 := Lib.hid hB1
        clear hB1
        obtain ⟨u1, v1, rfl, _⟩ := Row.of_own HO.out
        by_cases hlj : j < ns
        · obtain ⟨x, hx⟩ : ∃ x, r.rows[j]? = some x := ⟨_, List.getElem?_eq_getElem (by omega)⟩
          obtain ⟨b, off, A, n, c, hR, _, c0, hrow⟩ := HM.out.rowAt hx
          simp only at hR
          subst hR
          have hn : n ≤ 400 := by rw [← hrow.len]; exact HL.out.row x (List.mem_of_getElem? hx)
          have HT := Lib.hid (rowsTo_succ hx)
          have HLE := Lib.hid (rowsTo_le HL.out j)
          have R2 := Lib.hid hrow
          have HN := Lib.hid hrow.len
          have i0 : (0 : Int) ≤ (j : Int) := by omega
          have i1 : (j : Int) < (ns : Int) := by omega
          clear hx hrow hr1 hs1 HM
          go_wp2_with (at_builtin; refine wpList_append_row rfl _ _ rfl V.heap.size _ _ _ rfl HO.out A n c _ rfl R2.out (by have := HLE.out; omega) HB.out.size ?_; intro v' w3 hown hg)
          have O3 := Lib.hid (show w3.ownsRow V.heap.size 3 1 v' (rowsTo r (j + 1)).length ((rowsTo r (j + 1)).map (Value.int .i64)) by rw [HT.out, List.length_append, HN.out]; exact hown)
          have B3 := Lib.hid (HB.out.grown hg HB.out.size (fun j hj => (HO.out.lt j hj).1))
          clear hown hg R2 c0
          go_wp2_with fail
          go_roundw
          case rel => exact ⟨j + 1, by omega, by go_num, O3, B3⟩
          case measure => simp [intOf]; omega
        · obtain rfl : j = ns := by omega
          have hO := HO.out
          rw [← hs1, rowsTo_all] at hO
          obtain ⟨A3, c3, e3, hr3, hf3⟩ := Row.of_own' hO
          injection e3 with e31 e32 e33
          subst e31 e33
          have HM2 := Lib.hid (show MadeR w (Jp.all r) (.returned (.slice u1 (rowsTo r j).length v1)) wr from ⟨u1, _, v1, by rw [← hs1, rowsTo_all], hr3, hf3.mono B0.out.size, B1.out⟩)
          go_wp2_with fail
          go_ret
          exact HM2.out
end Go.Proofs.YtgloibgmaiadfaaGreatDoor


/- runs.eachOnce, by its contract: a closure that keeps whom it met in a map. -/
namespace Go.Proofs.YtgloibgmaiadfaaGreatDoor
open Go.RowKit
set_option linter.unusedVariables false

theorem jkeyed : Go.Maps.Keyed Tryz.prog 3 := Go.Maps.int_keyed Tryz.underlying3
theorem jzero (w : World) : (zeroValue 98).run Tryz.prog w = .ok (.agg #[]) w := by kernel_rfl
theorem jkey_of {g : Int} (h : In64 g) : keyOf Tryz.prog 3 (.int .i64 g) = some (.int .i64 g) := by
  refine Go.Maps.keyOf_int_mk Tryz.underlying3 ?_
  unfold In64 at h
  simpa [Lit.wf, IntKind.min, IntKind.max, IntKind.signed, IntKind.bits] using h
theorem jtight {H : Type} {P : Program} {k : TypeId} {R : Value → Option (DataW H × List MemPlace)} {w : World} {b n : Nat} {D : DataW H} (h : w.ownsMap P k R b n D) {n' : Nat} (hn : Maps.size D ≤ n') : w.ownsMap P k R b n' D := by
  obtain ⟨es, clock, hb, F, hs, rfl⟩ := h
  refine ⟨es, clock, hb, F, ?_, rfl⟩
  simpa [Maps.size, length_sorted] using hn
/-- Block m is a map whose keys are these numbers. -/
def MetM (W : World) (m : Nat) (l : List Int) : Prop :=
  ∃ D : DataW Unit, W.ownsMap Tryz.prog 3 unitElem m l.length D ∧ (∀ g : Int, Maps.has D (.int .i64 g) = l.contains g) ∧ Maps.size D = l.length
theorem MetM.lt {W : World} {m : Nat} {l : List Int} (h : MetM W m l) : m < W.heap.size := by obtain ⟨D, hD, _⟩ := h; exact hD.lt
theorem MetM.keep {W W' : World} {m : Nat} {l : List Int} (h : MetM W m l) (hk : W'.heap[m]? = W.heap[m]?) : MetM W' m l := by
  obtain ⟨D, ⟨es, clock, hb, r⟩, h2⟩ := h
  exact ⟨D, ⟨es, clock, hk.trans hb, r⟩, h2⟩
theorem MetM.made (w : World) : MetM (w.alloc (.map #[] 0)) w.heap.size [] :=
  ⟨.map [], (World.ownsMap_made w Tryz.prog 3 unitElem).mono (by simp), fun g => rfl, rfl⟩
theorem MetM.put {W : World} {m n : Nat} {l : List Int} {D : DataW Unit} {g : Int} (hk : In64 g) (h0 : ∀ g : Int, Maps.has D (.int .i64 g) = l.contains g) (hs : Maps.size D = l.length) (ht : Go.Maps.Tidy D) (hg : g ∉ l)
    (h : W.ownsMap Tryz.prog 3 unitElem m n (D.put (.int .i64 g) (.agg []))) : MetM W m (l ++ [g]) := by
  have hkl := jkeyed.key (jkey_of hk)
  have h1 : Maps.has D (.int .i64 g) = false := by rw [h0, ← Bool.not_eq_true, List.contains_iff_mem]; exact hg
  have hsz : Maps.size (D.put (.int .i64 g) (.agg [])) = l.length + 1 := by rw [Go.Maps.size_put ht, h1]; simp [hs]
  refine ⟨_, jtight h (by rw [hsz]; simp), fun z => ?_, by rw [hsz]; simp⟩
  by_cases e : z = g
  · subst e
    rw [Go.Maps.has_put_same ht.isMap hkl]
    simp
  · rw [Go.Maps.has_put_other (fun e' => e (by injection e')), h0, Bool.eq_iff_iff, List.contains_iff_mem, List.contains_iff_mem, List.mem_append, List.mem_singleton]
    exact ⟨.inl, fun h => h.resolve_right e⟩
/-- Nothing but block m has turned. -/
structure Sv (m : Nat) (w w' : World) : Prop where
  os : w'.os = w.os
  tape : w'.tape = w.tape
  output : w'.output = w.output
  size : w.heap.size ≤ w'.heap.size
  block : ∀ k, k < w.heap.size → k ≠ m → w'.heap[k]? = w.heap[k]?
theorem Sv.refl (m : Nat) (w : World) : Sv m w w := ⟨rfl, rfl, rfl, Nat.le_refl _, fun _ _ _ => rfl⟩
theorem Sv.trans {m : Nat} {a b c : World} (h : Sv m a b) (k : Sv m b c) : Sv m a c :=
  ⟨k.os.trans h.os, k.tape.trans h.tape, k.output.trans h.output, Nat.le_trans h.size k.size, fun i hi hn => (k.block i (Nat.lt_of_lt_of_le hi h.size) hn).trans (h.block i hi hn)⟩
theorem Sv.of_grown {m : Nat} {a b : World} (h : a.grownBy b (some m)) : Sv m a b := ⟨h.os, h.tape, h.output, h.size, fun i hi hn => h.block i hi (fun e => hn (by injection e))⟩
theorem Sv.of_below {m : Nat} {a b : World} (h : Below a.heap.size a b) : Sv m a b := ⟨h.os, h.tape, h.output, h.size, fun i hi _ => h.block i hi⟩
theorem Sv.below {m : Nat} {w0 w w' : World} {B : Nat} (h : Sv m w w') (hb : Below B w0 w) (hF : B ≤ m) (hB : B ≤ w.heap.size) : Below B w0 w' :=
  ⟨h.os.trans hb.os, h.tape.trans hb.tape, h.output.trans hb.output, Nat.le_trans hb.size h.size, fun k hk => (h.block k (by omega) (by omega)).trans (hb.block k hk)⟩
theorem Sv.cell {m : Nat} {w w' : World} {a : Addr} {v : Value} (h : Sv m w w') (hc : w.cell? a = some v) (hn : a.block ≠ m) : w'.cell? a = some v :=
  (World.cell?_of_block (w := w) (h.block a.block (World.block_lt_of_cell? _ _ hc) hn)).trans hc
theorem jonce_snoc {l : List Int} {g : Int} : Rp.Once (l ++ [g]) ↔ Rp.Once l ∧ g ∉ l ∧ 1 ≤ g := by
  constructor
  · intro h
    exact ⟨h.left, fun hm => (List.nodup_append.1 h.2).2.2 g hm g (by simp) rfl, h.1 g (by simp)⟩
  · intro h
    exact h.1.snoc h.2.2 h.2.1
set_option maxRecDepth 100000 in
set_option maxHeartbeats 1000000 in
theorem wrong_any (g : Int) (mb m : Nat) (l : List Int) (w : World) (hc : w.cell? ⟨mb, 0, none⟩ = some (.map (some m))) (hM : MetM w m l) (hne : mb ≠ m) (hg : In64 g) (hl : l.length ≤ 1000000) :
    Calls Tryz.prog 74 #[.int .i64 g, .pointer (some ⟨mb, 0, none⟩)] w fun e w' => e = .returned (.bool (!decide (g ∉ l ∧ 1 ≤ g))) ∧ Sv m w w' ∧ (g ∉ l → MetM w' m (l ++ [g])) := by
  obtain ⟨D, hD, hh, hs⟩ := hM
  have HC := Lib.hid (hh g)
  have HH := Lib.hid hh
  have HS := Lib.hid hs
  have HT := Lib.hid (hD.tidy jkeyed)
  have HD := Lib.hid hD
  have hkey := jkey_of hg
  have hkey2 := jkey_of hg
  have hb1 := below_new w (.cells #[] 98)
  have hD1 : (w.alloc (.cells #[] 98)).ownsMap Tryz.prog 3 unitElem m l.length D := by
    have hlt := hD.lt
    obtain ⟨es, clock, hb, r⟩ := hD
    exact ⟨es, clock, (hb1.block m hlt).trans hb, r⟩
  have c1 := keepcell hb1 hc
  have HB1 := Lib.hid hb1
  have HLN := Lib.hid hl
  clear hh hs hb1 hl
  go_enter Tryz.func74, Tryz.ntmps74
  go_wp2_with (first | (at_lookup; refine wpList_lookup_own_unit _ rfl _ _ 97 rfl 3 98 jkeyed Tryz.underlying97 (jzero _) m l.length D rfl hD _ _ rfl hkey ?_) | (at_mapUpdate; refine wpList_mapUpdate_own _ rfl _ _ _ 97 rfl 3 98 jkeyed Tryz.underlying97 (unitElem (H := Unit)) m l.length _ rfl hD1 (by have := HLN.out; unfold maxLen; omega) _ _ _ rfl rfl hkey2 _ [] unitElem_mk ?_; intro w2 hown hg2) | go_in)
  · rename_i hhas
    have hin : g ∈ l := by have := HC.out; rw [hhas] at this; exact List.contains_iff_mem.1 this.symm
    have HSV := Lib.hid ((Sv.of_below HB1.out).trans (Sv.of_grown hg2))
    clear hown hg2
    go_ret
    exact ⟨ret_bool (by simp [hin]), HSV.out, fun hn => absurd hin hn⟩
  · rename_i hhas
    have hni : g ∉ l := fun hm => hhas (by rw [HC.out]; exact List.contains_iff_mem.2 hm)
    have HSV := Lib.hid ((Sv.of_below HB1.out).trans (Sv.of_grown hg2))
    have HMM := Lib.hid (MetM.put hg HH.out HS.out HT.out hni hown)
    clear hown hg2
    go_ret
    refine ⟨ret_bool ?_, HSV.out, fun _ => HMM.out⟩
    by_cases h1 : g < 1
    · have : ¬ 1 ≤ g := by omega
      simp [h1, this]
    · have : 1 ≤ g := by omega
      simp [h1, this, hni]
theorem enters3 (args : Array Value) (w : World) : (callFunc 74 args).run Tryz.prog w = .ok (.enter 74 args) w := by kernel_rfl
theorem jonce_take {zs : List Int} {k : Nat} {z : Int} (hz : zs[k]? = some z) : Rp.Once (zs.take (k + 1)) ↔ Rp.Once (zs.take k) ∧ z ∉ zs.take k ∧ 1 ≤ z := by
  rw [List.take_add_one, hz]
  exact jonce_snoc
theorem jonce_cut {zs : List Int} (k : Nat) (h : Rp.Once zs) : Rp.Once (zs.take k) := by
  rw [← List.take_append_drop k zs] at h
  exact h.left
set_option maxRecDepth 100000 in
set_option maxHeartbeats 1000000 in
theorem indexM_any (A : Option Addr) (n c : Nat) (zs : List Int) (mb m : Nat) (w : World) (h : Row w A n c zs) (hn : n ≤ 1000000) (hi : ∀ z ∈ zs, In64 z) (hc : w.cell? ⟨mb, 0, none⟩ = some (.map (some m))) (hM : MetM w m []) (hne : mb ≠ m) (hA : ∀ ad, A = some ad → zs ≠ [] → ad.block ≠ m) :
    Calls Tryz.prog 83 #[.slice A n c, .func (.func 74) #[] #[.pointer (some ⟨mb, 0, none⟩)]] w fun e w' =>
      (∃ k : Int, e = .returned (.int .i64 k) ∧ (k < 0 ↔ Rp.Once zs)) ∧ Sv m w w' := by
  have H := Lib.hid h
  have hlen := h.len
  have HI := Lib.hid hi
  have HC := Lib.hid hc
  have HM := Lib.hid hM
  have HA0 := Lib.hid hA
  have HNN := Lib.hid hn
  have hent := enters3
  have hmx := h.most
  have hcp := h.cap
  clear h hi hc hM hA hn
  go_enter Tryz.func83, Tryz.ntmps83
  go_wp2_with fail
  go_loopw [8] (fun i wr => ∃ k : Nat, k ≤ n ∧ i = .int .i64 k ∧ Hid (Sv m w wr) ∧ Hid (MetM wr m (zs.take k)) ∧ Hid (Rp.Once (zs.take k))) (fun i _ => n - (intOf i).toNat)
  case atStart => exact ⟨0, Nat.zero_le _, rfl, Lib.hid (Sv.refl _ _), HM, Lib.hid ⟨fun x hx => by simp at hx, by simp⟩⟩
  case round =>
    obtain ⟨k, hk, rfl, HW, HMK, HOK⟩ := hrel
    by_cases hlt : k < n
    · obtain ⟨z, hz⟩ : ∃ z, zs[k]? = some z := ⟨_, List.getElem?_eq_getElem (by omega)⟩
      obtain ⟨b, off, rfl, _, hcs⟩ := H.out.cells (by omega)
      have c0 := HW.out.cell (hcs k z hz) (by exact HA0.out ⟨b, off, none⟩ rfl (fun e => by rw [e] at hz; simp at hz))
      have HZ := Lib.hid (jonce_take hz)
      have HZT := Lib.hid (show zs.take (k + 1) = zs.take k ++ [z] by rw [List.take_add_one, hz]; rfl)
      have hC := Lib.hid (wrong_any z mb m (zs.take k) wr (HW.out.cell HC.out hne) HMK.out hne (HI.out z (List.mem_of_getElem? hz)) (by rw [List.length_take]; have := HNN.out; omega))
      have i0 : (0 : Int) ≤ (k : Int) := by omega
      have i1 : (k : Int) < (n : Int) := by omega
      clear hcs hz
      go_wp2_with fail
      refine hC.out.mono ?_
      rintro e w2 ⟨rfl, hsv, hmm⟩
      have HW2 := Lib.hid (HW.out.trans hsv)
      have HMM := Lib.hid hmm
      clear hsv hmm c0 hC
      by_cases hq : z ∉ zs.take k ∧ 1 ≤ z
      · have hd : (!decide (z ∉ zs.take k ∧ 1 ≤ z)) = false := by simp [hq]
        rw [hd]
        have HM2 := Lib.hid (show MetM w2 m (zs.take (k + 1)) by rw [HZT.out]; exact HMM.out hq.1)
        have HO2 := Lib.hid (HZ.out.2 ⟨HOK.out, hq⟩)
        clear hq hd
        go_wp2_with fail
        go_roundw
        case rel => exact ⟨k + 1, by omega, by go_num, HW2, HM2, HO2⟩
        case measure => simp [intOf]; omega
      · have hd : (!decide (z ∉ zs.take k ∧ 1 ≤ z)) = true := by simp only [hq, decide_false, Bool.not_false]
        rw [hd]
        have HN := Lib.hid (show ¬ Rp.Once zs from fun h => hq (HZ.out.1 (jonce_cut (k + 1) h)).2)
        clear hq hd
        go_wp2_with fail
        go_ret
        exact ⟨⟨k, rfl, ⟨fun h => by omega, fun h => absurd h HN.out⟩⟩, HW2.out⟩
    · obtain rfl : k = n := by omega
      have HO := Lib.hid (show Rp.Once zs by have := HOK.out; rw [List.take_of_length_le (by omega)] at this; exact this)
      go_wp2_with fail
      go_ret
      exact ⟨⟨-1, rfl, ⟨fun _ => HO.out, fun _ => by decide⟩⟩, HW.out⟩
theorem containsM_any (A : Option Addr) (n c : Nat) (zs : List Int) (mb m : Nat) (w : World) (h : Row w A n c zs) (hn : n ≤ 1000000) (hi : ∀ z ∈ zs, In64 z) (hc : w.cell? ⟨mb, 0, none⟩ = some (.map (some m))) (hM : MetM w m []) (hne : mb ≠ m) (hA : ∀ ad, A = some ad → zs ≠ [] → ad.block ≠ m) :
    Calls Tryz.prog 75 #[.slice A n c, .func (.func 74) #[] #[.pointer (some ⟨mb, 0, none⟩)]] w fun e w' =>
      e = .returned (.bool (!decide (Rp.Once zs))) ∧ Sv m w w' := by
  have HC := Lib.hid (indexM_any A n c zs mb m w h hn hi hc hM hne hA)
  clear h hn hi hc hM hA
  go_enter Tryz.func75, Tryz.ntmps75
  go_wp2_with fail
  refine HC.out.mono ?_
  rintro e w1 ⟨⟨k, rfl, hk⟩, hsv⟩
  have HS := Lib.hid hsv
  have HK := Lib.hid hk
  clear HC hsv hk
  by_cases h0 : k < 0
  · go_wp2_with fail
    go_ret
    exact ⟨ret_bool (by simp [HK.out.1 h0]; omega), HS.out⟩
  · have h1 : 0 ≤ k := by omega
    have hno : ¬ Rp.Once zs := fun h => h0 (HK.out.2 h)
    have HNO := Lib.hid hno
    clear hno
    go_wp2_with fail
    go_ret
    exact ⟨ret_bool (by simp [HNO.out]), HS.out⟩
set_option maxRecDepth 100000 in
theorem eachOnce_any (A : Option Addr) (n c : Nat) (zs : List Int) (w : World) (h : Row w A n c zs) (hn : n ≤ 1000000) (hi : ∀ z ∈ zs, In64 z) :
    Calls Tryz.prog 47 #[.slice A n c] w fun e w' => e = .returned (.bool (decide (Rp.Once zs))) ∧ Below w.heap.size w w' := by
  obtain ⟨V, hV⟩ : ∃ V, V = (w.alloc (.map #[] 0)).alloc (.cells #[.map (some w.heap.size)] 97) := ⟨_, rfl⟩
  have hb1 := below_new w (.map #[] 0)
  have hs1 : (w.alloc (.map #[] 0)).heap.size = w.heap.size + 1 := by simp
  have hb2 := below_new (w.alloc (.map #[] 0)) (.cells #[.map (some w.heap.size)] 97)
  have hbV : Below w.heap.size w V := by rw [hV]; exact hb1.trans (hb2.mono hb1.size)
  have hc : V.cell? ⟨w.heap.size + 1, 0, none⟩ = some (.map (some w.heap.size)) := by rw [hV, ← hs1, World.cell?_alloc_at _ _ _ _ rfl]; rfl
  have hM : MetM V w.heap.size [] := by rw [hV]; exact (MetM.made w).keep (hb2.block _ (by simp))
  have HC := Lib.hid (containsM_any A n c zs (w.heap.size + 1) w.heap.size V (h.below hbV) hn hi hc hM (by omega) (fun ad hA hne => by have := row_block h hne hA; omega))
  have HB := Lib.hid hbV
  have E := Lib.hid hV
  have HSZ := Lib.hid (show w.heap.size ≤ V.heap.size from hbV.size)
  clear h hn hi hc hM hbV hb2 hs1 hb1 hV
  have hmm := @run_makeMap Tryz.prog
  go_enter Tryz.func47, Tryz.ntmps47
  go_wp2_with (rw [← E.out])
  refine HC.out.mono ?_
  rintro e w1 ⟨rfl, hsv⟩
  have HS := Lib.hid (hsv.below HB.out (Nat.le_refl _) HSZ.out)
  clear HC hsv
  go_wp2_with fail
  go_ret
  exact ⟨ret_bool (by simp), HS.out⟩
end Go.Proofs.YtgloibgmaiadfaaGreatDoor


/- The document's Next, Without and With, by their contracts. -/
namespace Go.Proofs.YtgloibgmaiadfaaGreatDoor
open Go.RowKit
set_option linter.unusedVariables false

/-- A plain address, or none. -/
def Flat (A : Option Addr) : Prop := ∀ ad, A = some ad → ad.spot = none
/-- What a call leaves that tells a row. -/
def TellF (w0 : World) (zs : List Int) (e : Ending) (w' : World) : Prop :=
  ∃ A n c, e = .returned (.slice A n c) ∧ Row w' A n c zs ∧ Flat A ∧ Below w0.heap.size w0 w'
theorem Row.flat_own {w : World} {base n : Nat} {e : TypeId} {v : Value} {zs : List Int} (h : w.ownsRow base e 1 v n (zs.map (Value.int .i64))) : ∃ A c, v = .slice A n c ∧ Row w A n c zs ∧ Flat A := by
  obtain ⟨A, c, rfl, hr⟩ := Row.of_own h
  refine ⟨A, c, rfl, hr, fun ad e => ?_⟩
  subst e
  rcases h.2 with ⟨h0, _⟩ | ⟨g, cap, cur, e1, _⟩
  · cases h0
  · injection e1 with e1
    injection e1 with e1
    rw [e1]
theorem MadeO.tellF {w0 w' : World} {zs : List Int} {e : Ending} (h : MadeO w0 zs e w') : TellF w0 zs e w' := by
  obtain ⟨v, n, rfl, ho, hb⟩ := h
  obtain ⟨A, c, rfl, hr, hf⟩ := Row.flat_own ho
  exact ⟨A, n, c, rfl, hr, hf, hb⟩
theorem find_here {zs : List Int} {k : Nat} {x n : Int} (hx : zs[k]? = some x) (h0 : ∀ z ∈ zs.take k, z < n) (h : n ≤ x) : zs.find? (fun z => decide (n ≤ z)) = some x := by
  have hk := (List.getElem?_eq_some_iff.1 hx).1
  have e : zs = zs.take k ++ x :: zs.drop (k + 1) := by
    rw [← (List.getElem?_eq_some_iff.1 hx).2, List.getElem_cons_drop, List.take_append_drop]
  rw [e, List.find?_append, List.find?_eq_none.2 (fun z hz => by have := h0 z hz; simp; omega)]
  simp [h]
theorem find_none {zs : List Int} {n : Int} (h0 : ∀ z ∈ zs, z < n) : zs.find? (fun z => decide (n ≤ z)) = none :=
  List.find?_eq_none.2 (fun z hz => by have := h0 z hz; simp; omega)
theorem nextL_in {zs : List Int} {a n : Int} (ha : zs[0]? = some a) (h1 : 0 ≤ n) (h2 : n ≤ 63) : Zp.nextL zs n = (zs.find? fun z => decide (n ≤ z)).getD a := by
  cases zs with
  | nil => cases ha
  | cons b t =>
    injection ha with ha
    subst ha
    show (if n < 0 ∨ 63 < n then b else _) = _
    rw [if_neg (by omega)]
theorem nextL_out {zs : List Int} {a n : Int} (ha : zs[0]? = some a) (h : n < 0 ∨ 63 < n) : Zp.nextL zs n = a := by
  cases zs with
  | nil => cases ha
  | cons b t =>
    injection ha with ha
    subst ha
    show (if n < 0 ∨ 63 < n then b else _) = _
    rw [if_pos h]
theorem take_lt {zs : List Int} {k : Nat} {x n : Int} (hx : zs[k]? = some x) (h0 : ∀ z ∈ zs.take k, z < n) (h : x < n) : ∀ z ∈ zs.take (k + 1), z < n := by
  intro z hz
  rw [List.take_add_one, hx] at hz
  rcases List.mem_append.1 hz with hz | hz
  · exact h0 z hz
  · simp at hz; subst hz; exact h
theorem outL_hit {zs : List Int} {k : Nat} {n : Int} (hx : zs[k]? = some n) : Zp.outL (zs.take (k + 1)) n = Zp.outL (zs.take k) n := by
  rw [List.take_add_one, hx]; unfold Zp.outL; rw [List.filter_append]; simp
theorem outL_miss {zs : List Int} {k : Nat} {x n : Int} (hx : zs[k]? = some x) (h : x ≠ n) : Zp.outL (zs.take (k + 1)) n = Zp.outL (zs.take k) n ++ [x] := by
  rw [List.take_add_one, hx]; unfold Zp.outL; rw [List.filter_append]; simp [h]
theorem outL_le (zs : List Int) (k : Nat) (n : Int) : (Zp.outL (zs.take k) n).length ≤ k := by
  unfold Zp.outL
  have h1 := List.length_filter_le (fun x => x != n) (zs.take k)
  have h2 := List.length_take_le k zs
  omega
end Go.Proofs.YtgloibgmaiadfaaGreatDoor


/- The document's With, by its contract. -/
namespace Go.Proofs.YtgloibgmaiadfaaGreatDoor
open Go.RowKit
set_option linter.unusedVariables false

theorem takeWhile_step {zs : List Int} {k : Nat} {x n : Int} (hx : zs[k]? = some x) (h0 : zs.takeWhile (· < n) = zs.take k ++ (zs.drop k).takeWhile (· < n)) (h : x < n) :
    zs.takeWhile (· < n) = zs.take (k + 1) ++ (zs.drop (k + 1)).takeWhile (· < n) := by
  have hk := (List.getElem?_eq_some_iff.1 hx).1
  rw [h0, List.take_add_one, hx, List.drop_eq_getElem_cons hk, (List.getElem?_eq_some_iff.1 hx).2, List.takeWhile_cons_of_pos (by simpa using h)]
  simp
theorem takeWhile_stop {zs : List Int} {k : Nat} {x n : Int} (hx : zs[k]? = some x) (h0 : zs.takeWhile (· < n) = zs.take k ++ (zs.drop k).takeWhile (· < n)) (h : ¬ x < n) :
    zs.takeWhile (· < n) = zs.take k := by
  have hk := (List.getElem?_eq_some_iff.1 hx).1
  rw [h0, List.drop_eq_getElem_cons hk, (List.getElem?_eq_some_iff.1 hx).2, List.takeWhile_cons_of_neg (by simpa using h), List.append_nil]
theorem withL_at {zs : List Int} {k : Nat} {n : Int} (hk : k ≤ zs.length) (ht : zs.takeWhile (· < n) = zs.take k) (h0 : 0 ≤ n) (h1 : n ≤ 63) (h : n ∉ zs) : Zp.withL zs n = zs.take k ++ [n] ++ zs.drop k := by
  unfold Zp.withL
  rw [if_neg (by rintro (e | e | e); omega; omega; exact h e), ht, List.length_take, Nat.min_eq_left hk]
theorem has_of {zs : List Int} {n : Int} : Tp.has zs n = decide (n ∈ zs) := by
  unfold Tp.has; rw [Bool.eq_iff_iff, List.contains_iff_mem, decide_eq_true_eq]
theorem Row.flat {w : World} {A : Option Addr} {m c : Nat} {zs : List Int} (h : Row w A m c zs) (hf : Flat A) : (A = none ∧ m = 0 ∧ c = 0) ∨ ∃ b off, A = some ⟨b, off, none⟩ := by
  cases A with
  | none => have h0 := h.nil rfl; have h1 := h.cap; exact .inl ⟨rfl, by omega, h0⟩
  | some ad =>
    obtain ⟨b, off, sp⟩ := ad
    have := hf _ rfl
    simp only at this
    subst this
    exact .inr ⟨b, off, rfl⟩
theorem row_below_refl {w : World} {A : Option Addr} {m c : Nat} {zs : List Int} (h : Row w A m c zs) (hf : Flat A) : TellF w zs (.returned (.slice A m c)) w := ⟨A, m, c, rfl, h, hf, Below.refl _ _⟩
end Go.Proofs.YtgloibgmaiadfaaGreatDoor


/- The library's table of the listed variable; a slice of numbers that came in; a start that meets the condition. -/
namespace Go.Proofs.YtgloibgmaiadfaaGreatDoor
open Go.ChangeShapes Go.WideShapes Go.ChangeAt Go.RowKit
set_option linter.unusedVariables false

/-- The one listed variable. -/
def laidList : List (String × DataW Unit) := [("math/bits.deBruijn64tab", Rows.laid_math_bits_deBruijn64tab)]
theorem gTab : Tryz.prog.globalNamed "math/bits.deBruijn64tab" = some 0 := by kernel_rfl
theorem tTab : (Tryz.prog.globals[0]?).map (·.type) = some 108 := by kernel_rfl
theorem tab_of_laid {W : World} (h : laidMetH Tryz.prog laidList W) : Tab W := by
  rw [MakeChecks.laidMetH_plain _ _ _ (by kernel_rfl)] at h
  have h' : laidMet Tryz.prog [("math/bits.deBruijn64tab", Lib.tabData .u8 (Lib.deBruijn64tab.map fun k : Nat => (k : Int)))] W := h
  have ht := Lib.tabIs_of_head gTab tTab Tryz.underlying108 Tryz.underlying5 (by kernel_rfl) (by kernel_rfl) h'
  intro j hj
  have := ht.cell gTab j (by simpa [Lib.deBruijn64tab] using hj)
  rw [this]
  congr 2
  simp only [List.getD_eq_getElem?_getD, List.getElem?_map]
  cases Lib.deBruijn64tab[j]? <;> rfl
theorem door_met (os : Os) (args : Array Value) : laidMetH Tryz.prog laidList ((World.doorLaid Tryz.prog 14 os).forCall (fun _ _ => 0) ⟨#[], args, []⟩).memory :=
  laidMetH_of_parts3 (fuel := 8) (laidMet_of_run' 8 (by kernel_rfl) (by kernel_rfl)) (by kernel_rfl) (by kernel_rfl)
theorem of_wf64 {a : Int} (h : (Lit.int .u64 a).wf = true) : ∃ x : Nat, a = x ∧ x < 18446744073709551616 := by
  have : 0 ≤ a ∧ a ≤ 18446744073709551615 := by simpa [Lit.wf, IntKind.min, IntKind.max, IntKind.signed, IntKind.bits] using h
  exact ⟨a.toNat, by omega, by omega⟩
/-- A slice of numbers that came in. -/
theorem open_list {H : Type} {enc : TypeId × Value → H} {W : World} {base : Nat} {spare : Nat → Bool} {held : Bool} {v : Value} {x : DataW H × List MemPlace} {fuel : Nat}
    (h : DataW.trod enc Tryz.prog W base spare held fuel 47 [v] = some x) : ∃ A n c zs, v = .slice A n c ∧ Row W A n c zs := by
  rcases open_ints Tryz.underlying47 Tryz.underlying3 (by kernel_rfl) h with ⟨hcs, _⟩ | ⟨a, len, cap, zs, hcs, _, hl, hm, hz, _, hcell, hw⟩
  · simp at hcs
    subst hcs
    exact ⟨none, 0, 0, [], rfl, Row.nothing W⟩
  · simp only [List.cons.injEq, and_true] at hcs
    subst hcs
    have hzl : len ≤ zs.length := by rw [hz]; split <;> omega
    refine ⟨some a, len, cap, zs.take len, rfl, ⟨by rw [List.length_take]; omega, hl, by unfold maxLen at hm; omega, (fun e => by cases e), fun i z hi => ?_⟩⟩
    have hil : i < len := by have := (List.getElem?_eq_some_iff.1 hi).1; rw [List.length_take] at this; omega
    rw [List.getElem?_take, if_pos hil] at hi
    have hc := hcell i (by omega)
    rw [show zs.getD i 0 = z by rw [List.getD, hi]; rfl] at hc
    obtain ⟨ab, ao, sp⟩ := a
    have hs : sp = none := by
      have := World.cell?_spot (hcell 0 (by omega))
      simpa [Addr.add] using this
    subst hs
    rw [add_lit'] at hc
    exact ⟨ab, ao, rfl, World.block_lt_of_cell? _ _ hc, hc⟩
end Go.Proofs.YtgloibgmaiadfaaGreatDoor

