/- The document's Victims and Thief, by their contracts. -/
import Derived.Test.YtdohnhdjlhaaaaaGreatDoorM7
import Derived.Test.YtdohnhdjlhaaaaaGreatDoorJRefMay
import Derived.Test.YtdohnhdjlhaaaaaGreatDoorM9
import Derived.Test.YtdohnhdjlhaaaaaGreatDoorM6
namespace Go.Proofs.YtdohnhdjlhaaaaaGreatDoor
open Go.RowKit
set_option linter.unusedVariables false

/-- As many as a part of the near ones. -/
def victTo (r : Jp.Rn) (p far : Int) (j : Nat) : List Int := ((Dp.near r.tree p).take j).filter (Jp.vict r p far)
theorem victTo_zero (r : Jp.Rn) (p far : Int) : victTo r p far 0 = [] := rfl
theorem victTo_yes {r : Jp.Rn} {p far q : Int} {j : Nat} (hq : (Dp.near r.tree p)[j]? = some q) (h : Jp.vict r p far q = true) : victTo r p far (j + 1) = victTo r p far j ++ [q] := by
  unfold victTo
  rw [List.take_add_one, hq, List.filter_append]
  simp [h]
theorem victTo_no {r : Jp.Rn} {p far q : Int} {j : Nat} (hq : (Dp.near r.tree p)[j]? = some q) (h : Jp.vict r p far q = false) : victTo r p far (j + 1) = victTo r p far j := by
  unfold victTo
  rw [List.take_add_one, hq, List.filter_append]
  simp [h]
theorem victTo_all {r : Jp.Rn} {p far : Int} (h : Jp.May r) : victTo r p far (Dp.near r.tree p).length = Jp.victims r p far := by
  unfold victTo
  rw [List.take_length, Jp.victims_may h]
theorem victTo_le (r : Jp.Rn) (p far : Int) (j : Nat) : (victTo r p far j).length ≤ j := by
  unfold victTo
  exact Nat.le_trans (List.length_filter_le _ _) (by rw [List.length_take]; omega)
theorem near_range {r : Jp.Rn} {p q : Int} {j : Nat} (h : Jp.May r) (hq : (Dp.near r.tree p)[j]? = some q) : ∃ k : Nat, q = k ∧ k < r.rings.length := by
  have hp := Jp.procs_of h
  by_cases hr : p < 0 ∨ (Dp.procsN r.tree : Int) ≤ p
  · rw [Dp.near_out hr] at hq; cases hq
  · obtain ⟨a, b, _⟩ := (Dp.mem_near (by omega) (by omega)).1 (List.mem_of_getElem? hq)
    exact ⟨q.toNat, by omega, by omega⟩
theorem near_le {r : Jp.Rn} {p : Int} (h : Jp.May r) : (Dp.near r.tree p).length ≤ 3 * r.rings.length := by
  by_cases hr : p < 0 ∨ (Dp.procsN r.tree : Int) ≤ p
  · rw [Dp.near_out hr]; simp
  · rw [Dp.near_in hr, ← Jp.procs_of h]; exact Dp.nearTo_le _ _ 3
set_option maxRecDepth 100000 in
set_option maxHeartbeats 2000000 in
theorem refVict_any {F : Nat → Prop} (d : Ad) (r : Jp.Rn) (p far : Int) (w : World) (h : RM F w d r) (hlow : Low r) :
    Calls Tryz.prog 18 #[jv d r, .int .i64 p, .int .i64 far] w (MadeR w (Jp.victims r p far)) := by
  obtain ⟨A0, nt, ct, R, nr, cr, S, ns, cs⟩ := d
  have H := Lib.hid h
  have HL := Lib.hid hlow
  obtain ⟨hr1, hr2, hr3⟩ := h.nr
  simp only at hr1 hr2 hr3
  obtain ⟨V, hV, hX, hB⟩ := B5.start w (.slice A0 nt ct) (.int .i64 r.size) (.slice R nr cr) (.slice S ns cs) (.int .u64 (r.on : Nat)) 27
  have E := Lib.hid hV
  have X0 := Lib.hid hX
  have B0 := Lib.hid hB
  obtain ⟨Tb, hTb⟩ : ∃ Tb : Bool, (Tb = true ↔ Jp.May r) := by
    by_cases h : Jp.May r
    · exact ⟨true, by simp [h]⟩
    · exact ⟨false, by simp [h]⟩
  have HTB := Lib.hid hTb
  have hMY := jrefMay_any ⟨A0, nt, ct, R, nr, cr, S, ns, cs⟩ r Tb V HTB (H.out.below B0.out) HL.out
  unfold jv at hMY
  simp only at hMY
  have MY := Lib.hid hMY
  have q0 := hX.c0
  have q1 := hX.c1
  have q2 := hX.c2
  have q3 := hX.c3
  have q4 := hX.c4
  clear hV hX hB hMY hTb h hlow
  unfold jv
  go_enter Tryz.func18, Tryz.ntmps18
  go_wp2_with (rw [← E.out])
  clear E
  refine MY.out.mono ?_
  rintro e w1 ⟨rfl, hb1⟩
  have X1 := Lib.hid (X0.out.step hb1)
  have B1 := Lib.hid (held_trans B0.out hb1)
  clear q0 q1 q2 q3 q4 MY X0 B0 hb1
  cases Tb
  · have HF := Lib.hid (show MadeR w (Jp.victims r p far) (.returned (.slice none 0 0)) w1 from by
      rw [Jp.victims_no (fun h => by have := HTB.out.2 h; cases this)]
      exact ⟨none, 0, 0, rfl, Row.nothing _, From.none _, B1.out⟩)
    go_wp2_with fail
    go_ret
    exact HF.out
  have HMAY := Lib.hid (HTB.out.1 rfl)
  have q0 := X1.out.c0
  have NE := Lib.hid (refNear_any A0 nt ct r.tree p w1 (Lib.hid H.out.tlen) H.out.tmax (Lib.hid H.out.fit) (H.out.below B1.out).tree)
  clear HTB
  go_wp2_with fail
  refine NE.out.mono ?_
  rintro e w2 ⟨An, cn, rfl, hin, hb2⟩
  have X2 := Lib.hid (X1.out.step hb2)
  have B2 := Lib.hid (held_trans B1.out hb2)
  have IN := Lib.hid hin
  obtain ⟨L, hL⟩ : ∃ L, L = (Dp.near r.tree p).length := ⟨_, rfl⟩
  have hL64 : L ≤ 192 := by have := near_le (p := p) HMAY.out; have := HL.out.rings; omega
  rw [← hL]
  have HLL := Lib.hid hL
  clear hin hb2 NE X1 B1 q0 hL
  go_wp2_with fail
  go_loopw [7, 9] (fun out i wr => ∃ j : Nat, j ≤ L ∧ i = .int .i64 j ∧ ∃ n o, o = out ∧ Hid (wr.ownsRow w2.heap.size 3 1 o n ((victTo r p far j).map (Value.int .i64))) ∧ Hid (Below w2.heap.size w2 wr)) (fun _ i _ => L - (intOf i).toNat)
  case atStart => exact ⟨0, Nat.zero_le _, rfl, 0, _, rfl, Lib.hid (World.ownsRow_nil _ _ _ _), Lib.hid (Below.refl _ _)⟩
  case round =>
    obtain ⟨j, hj, rfl, n, o, rfl, HO, HW⟩ := hrel
    by_cases hlt : j < L
    · obtain ⟨q, hq⟩ : ∃ q, (Dp.near r.tree p)[j]? = some q := ⟨_, List.getElem?_eq_getElem (by have := HLL.out; omega)⟩
      obtain ⟨b, off, eA, _, hqc⟩ := (IN.out.below HW.out) j q hq
      obtain ⟨k, rfl, hk⟩ := near_range HMAY.out hq
      obtain ⟨⟨x, t⟩, hx⟩ : ∃ x, r.rings[k]? = some x := ⟨_, List.getElem?_eq_getElem hk⟩
      have BW := Lib.hid (held_trans B2.out HW.out)
      obtain ⟨bR, oR, A, na, ca, hR, _, c0, c1, hrow⟩ := (H.out.below BW.out).ringAt hx
      simp only at hR hrow
      subst hR eA
      have hna : na ≤ 400 := by rw [← hrow.len]; exact HL.out.ring (x, t) (List.mem_of_getElem? hx)
      have AL := Lib.hid (refAll_any x A na ca t _ hrow (by omega))
      have HQ := Lib.hid hq
      have HXA := Lib.hid (Jp.ringAt_some hx)
      have i0 : (0 : Int) ≤ (j : Int) := by omega
      have i1 : (j : Int) < (L : Int) := by omega
      have i2 : (0 : Int) ≤ (k : Int) := by omega
      have i3 : (k : Int) < (nr : Int) := by omega
      have hnl : n ≤ 192 := by
        obtain ⟨_, _, e1, h2, _⟩ := Row.of_own' HO.out
        have := h2.len
        have := victTo_le r p far j
        omega
      have q2 := (X2.out.step HW.out).c2
      clear hq hx hrow
      go_wp2_with fail
      refine AL.out.mono ?_
      rintro e w3 ⟨A3, n3, c3, rfl, hr3', hb3⟩
      have hl3 := hr3'.len
      have HW3 := Lib.hid (HW.out.trans (hb3.mono HW.out.size))
      have HO3 := Lib.hid (own_below HO.out hb3)
      have BW3 := Lib.hid (held_trans BW.out hb3)
      have q0 := ((X2.out.step HW.out).step hb3).c0
      clear hr3' hb3 AL c0 c1 q2 HO HW hqc BW
      by_cases hz : n3 = 0
      · have hall : Rp.all (x, t) = [] := List.length_eq_zero_iff.1 (by omega)
        have l0 : ¬ (0 : Int) < (n3 : Int) := by omega
        have HV := Lib.hid (victTo_no (far := far) HQ.out (by unfold Jp.vict; rw [show ((k : Int).toNat) = k from rfl, HXA.out, hall]; rfl))
        have HO4 := Lib.hid (show w3.ownsRow w2.heap.size 3 1 o n ((victTo r p far (j + 1)).map (Value.int .i64)) by rw [HV.out]; exact HO3.out)
        clear hall hz hl3
        go_wp2_with fail
        go_roundw
        case rel => exact ⟨j + 1, by omega, by go_num, n, _, rfl, HO4, HW3⟩
        case measure => simp [intOf]; omega
      · have l0 : (0 : Int) < (n3 : Int) := by omega
        have hall : (Rp.all (x, t)).isEmpty = false := by cases e : Rp.all (x, t) with | nil => rw [e] at hl3; simp at hl3; omega | cons a l => rfl
        have FA := Lib.hid (refFar_any A0 nt ct r.tree p k w3 (Lib.hid H.out.tlen) H.out.tmax (Lib.hid H.out.fit) (H.out.below BW3.out).tree)
        clear hz hl3
        go_wp2_with fail
        refine FA.out.mono ?_
        rintro e w4 ⟨rfl, hb4⟩
        have HW4 := Lib.hid (HW3.out.trans (hb4.mono HW3.out.size))
        have HO4 := Lib.hid (own_below HO3.out hb4)
        clear hb4 FA q0 HW3 HO3 BW3
        by_cases hf : Dp.far r.tree p k ≤ far
        · have HV := Lib.hid (victTo_yes (far := far) HQ.out (by unfold Jp.vict; rw [show ((k : Int).toNat) = k from rfl, HXA.out, hall]; simp [hf]))
          have hbl := below_new w4 (.cells #[.int .i64 (k : Nat)] 3)
          have HW5 := Lib.hid (HW4.out.trans (hbl.mono HW4.out.size))
          have HO5 := Lib.hid (own_below HO4.out hbl)
          have RL := Lib.hid (row_at w4 (k : Nat) w4.heap.size rfl)
          clear hbl HW4 HO4 hall
          go_wp2_with (at_builtin; refine wpList_append_row rfl _ _ rfl w2.heap.size o n (victTo r p far j) rfl HO5.out (some ⟨w4.heap.size, 0, none⟩) 1 1 [(k : Int)] rfl RL.out (by omega) HW5.out.size ?_; intro v' w7 ho hgr; have HW7 := Lib.hid (HW5.out.grown hgr HW5.out.size (fun k hk => (HO5.out.lt k hk).1)); have HO7 := Lib.hid (show w7.ownsRow w2.heap.size 3 1 v' (n + 1) ((victTo r p far (j + 1)).map (Value.int .i64)) by rw [HV.out]; exact ho); clear ho hgr)
          go_roundw
          case rel => exact ⟨j + 1, by omega, by go_num, n + 1, _, rfl, HO7, HW7⟩
          case measure => simp [intOf]; omega
        · have HV := Lib.hid (victTo_no (far := far) HQ.out (by unfold Jp.vict; rw [show ((k : Int).toNat) = k from rfl, HXA.out, hall]; simp [hf]))
          have HO5 := Lib.hid (show w4.ownsRow w2.heap.size 3 1 o n ((victTo r p far (j + 1)).map (Value.int .i64)) by rw [HV.out]; exact HO4.out)
          clear hall
          go_wp2_with fail
          go_roundw
          case rel => exact ⟨j + 1, by omega, by go_num, n, _, rfl, HO5, HW4⟩
          case measure => simp [intOf]; omega
    · have l1 : ¬ (j : Int) < (L : Int) := by omega
      obtain ⟨Ao, co, rfl, hro, hfo⟩ := Row.of_own' HO.out
      have HF := Lib.hid (show MadeR w (Jp.victims r p far) (.returned (.slice Ao n co)) _ from ⟨Ao, n, co, rfl, by rw [← victTo_all HMAY.out, ← HLL.out, ← show j = L by omega]; exact hro, hfo.mono B2.out.size, held_trans B2.out HW.out⟩)
      clear hro hfo HO HW
      go_wp2_with fail
      go_ret
      exact HF.out
theorem thief_is {r : Jp.Rn} {k m : Nat} {x : Int} {t l : List Int} (hm : Jp.May r) (ho : Jp.onP r k = true) (hn : Jp.nodeOf r k = m) (hx : Jp.ringAt r k = (x, t)) (hl : Jp.rowAt r m = l) : Jp.Thief r k ↔ Rp.all (x, t) = [] ∧ l = [] := by
  constructor
  · intro h
    have h1 := h.ring
    have h2 := h.row
    rw [show ((k : Int).toNat) = k from rfl] at h1 h2
    rw [hx] at h1
    rw [hn, hl] at h2
    exact ⟨h1, h2⟩
  · rintro ⟨h1, h2⟩
    exact ⟨hm, ho, by rw [show ((k : Int).toNat) = k from rfl, hx]; exact h1, by rw [show ((k : Int).toNat) = k from rfl, hn, hl]; exact h2⟩
set_option maxRecDepth 100000 in
set_option maxHeartbeats 2000000 in
theorem refThief_any {F : Nat → Prop} (d : Ad) (r : Jp.Rn) (p : Int) (T : Bool) (w : World) (HT : Hid (T = true ↔ Jp.Thief r p)) (h : RM F w d r) (hlow : Low r) :
    Calls Tryz.prog 19 #[jv d r, .int .i64 p] w fun e w' => e = .returned (.bool T) ∧ Below w.heap.size w w' := by
  obtain ⟨A0, nt, ct, R, nr, cr, S, ns, cs⟩ := d
  have H := Lib.hid h
  have HL := Lib.hid hlow
  obtain ⟨hr1, hr2, hr3⟩ := h.nr
  obtain ⟨hs1, hs2, hs3⟩ := h.ns
  simp only at hr1 hr2 hr3 hs1 hs2 hs3
  obtain ⟨V, hV, hX, hB⟩ := B5.start w (.slice A0 nt ct) (.int .i64 r.size) (.slice R nr cr) (.slice S ns cs) (.int .u64 (r.on : Nat)) 27
  have E := Lib.hid hV
  have X0 := Lib.hid hX
  have B0 := Lib.hid hB
  obtain ⟨Tb, hTb⟩ : ∃ Tb : Bool, (Tb = true ↔ Jp.May r) := by
    by_cases h : Jp.May r
    · exact ⟨true, by simp [h]⟩
    · exact ⟨false, by simp [h]⟩
  have HTB := Lib.hid hTb
  have hMY := jrefMay_any ⟨A0, nt, ct, R, nr, cr, S, ns, cs⟩ r Tb V HTB (H.out.below B0.out) HL.out
  unfold jv at hMY
  simp only at hMY
  have MY := Lib.hid hMY
  have q0 := hX.c0
  have q1 := hX.c1
  have q2 := hX.c2
  have q3 := hX.c3
  have q4 := hX.c4
  clear hV hX hB hMY hTb h hlow
  unfold jv
  go_enter Tryz.func19, Tryz.ntmps19
  go_wp2_with (rw [← E.out])
  clear E
  refine MY.out.mono ?_
  rintro e w1 ⟨rfl, hb1⟩
  have X1 := Lib.hid (X0.out.step hb1)
  have B1 := Lib.hid (held_trans B0.out hb1)
  clear q0 q1 q2 q3 q4 MY X0 B0 hb1
  cases Tb
  · have HTF : T = false := by
      cases T with
      | false => rfl
      | true => have := (HT.out.1 rfl).may; have := HTB.out.2 this; cases this
    subst HTF
    go_wp2_with fail
    go_ret
    exact ⟨rfl, B1.out⟩
  have HMAY := Lib.hid (HTB.out.1 rfl)
  have hON := fun W => jrefOn_any ⟨A0, nt, ct, R, nr, cr, S, ns, cs⟩ r p W H.out.on
  obtain ⟨ob, hob⟩ : ∃ ob, ob = Jp.onP r p := ⟨_, rfl⟩
  rw [← hob] at hON
  unfold jv at hON
  simp only at hON
  have ON := Lib.hid hON
  have HOB := Lib.hid hob
  have q0 := X1.out.c0
  have q1 := X1.out.c1
  have q2 := X1.out.c2
  have q3 := X1.out.c3
  have q4 := X1.out.c4
  clear HTB hON hob
  go_wp2_with fail
  refine (ON.out _).mono ?_
  rintro e w2 ⟨rfl, hb2⟩
  have X2 := Lib.hid (X1.out.step hb2)
  have B2 := Lib.hid (held_trans B1.out hb2)
  clear hb2 X1 B1 q0 q1 q2 q3 q4 ON
  cases ob
  · have HTF : T = false := by
      cases T with
      | false => rfl
      | true => have := (HT.out.1 rfl).on; rw [← HOB.out] at this; cases this
    subst HTF
    go_wp2_with fail
    go_ret
    exact ⟨rfl, B2.out⟩
  obtain ⟨k, rfl, hk⟩ := Jp.onP_lt HMAY.out HOB.out.symm
  obtain ⟨m0, hnd, hm0⟩ := Jp.node_at HMAY.out.tree (k := k) (by rw [← HMAY.out.rings]; omega)
  have hmn : m0 < ns := by rw [← hs1, HMAY.out.rows]; exact hm0
  have hnO : Jp.nodeOf r k = m0 := by unfold Jp.nodeOf; rw [hnd]; rfl
  obtain ⟨l, hl⟩ : ∃ l, r.rows[m0]? = some l := ⟨_, List.getElem?_eq_getElem (by omega)⟩
  obtain ⟨⟨x, t⟩, hx⟩ : ∃ x, r.rings[k]? = some x := ⟨_, List.getElem?_eq_getElem (by omega)⟩
  obtain ⟨bS, oS, AL, nl, cl, hS, _, cS, hrowL⟩ := (H.out.below B2.out).rowAt hl
  obtain ⟨bR, oR, AT, na, ca, hR, _, cR0, cR1, hrowT⟩ := (H.out.below B2.out).ringAt hx
  simp only at hS hR hrowT
  subst hS hR
  have hna : na ≤ 400 := by rw [← hrowT.len]; exact HL.out.ring (x, t) (List.mem_of_getElem? hx)
  have TI := Lib.hid (HT.out.trans (thief_is HMAY.out HOB.out.symm hnO (Jp.ringAt_some hx) (Jp.rowAt_some hl)))
  have AA := Lib.hid (fun W (hb : Below w2.heap.size w2 W) => refAll_any x AT na ca t W (hrowT.below hb) (by omega))
  have NN := Lib.hid (fun W (hb : Below w2.heap.size w2 W) => refNode_any A0 nt ct r.tree (k : Int) W (Lib.hid H.out.tlen) H.out.tmax (Lib.hid H.out.fit) ((H.out.below B2.out).below hb).tree)
  have HND := Lib.hid hnd
  have hll := hrowL.len
  have HTL := Lib.hid hrowL.len
  have i0 : (0 : Int) ≤ (m0 : Int) := by omega
  have i1 : (m0 : Int) < (ns : Int) := by omega
  have i2 : (0 : Int) ≤ (k : Int) := by omega
  have i3 : (k : Int) < (nr : Int) := by omega
  have q0 := X2.out.c0
  have q2 := X2.out.c2
  have q3 := X2.out.c3
  clear hnd hm0 hnO hl hx hrowL hrowT HT HOB hll
  go_wp2_with fail
  refine wp_region_held_drew (S := fun w' => w'.cell? ⟨w.heap.size, 0, none⟩ = some (.slice A0 nt ct) ∧ w'.cell? ⟨w.heap.size, 2, none⟩ = some (.slice (some ⟨bR, oR, none⟩) nr cr) ∧ w'.cell? ⟨w.heap.size, 3, none⟩ = some (.slice (some ⟨bS, oS, none⟩) ns cs) ∧ w'.cell? ⟨bR, oR + k * 2, none⟩ = some (.int .i64 x) ∧ w'.cell? ⟨bR, oR + k * 2 + 1, none⟩ = some (.slice AT na ca) ∧ w'.cell? ⟨bS, oS + m0, none⟩ = some (.slice AL nl cl)) (by kernel_rfl) ⟨q0, q2, q3, cR0, cR1, cS⟩ (fun hHeld => ?_)
  have hb1 := (Below.refl w2.heap.size w2).drew
  obtain ⟨x1, hx1⟩ : ∃ x1, x1 = w2.drew := ⟨_, rfl⟩
  rw [← hx1] at hb1 hHeld ⊢
  clear hx1
  refine wpAnyH_takesJ (i := 0) (v := (.pointer (some ⟨w.heap.size, 2, none⟩))) (some 14) rfl rfl (by kernel_rfl) (by kernel_rfl) (by kernel_rfl) (fun _ _ _ h => h) (Or.inl ⟨by rfl, (by intro W9 hSw; (try dsimp only at hSw); go_simp; first | done | with_reducible rfl)⟩) (by assumption) ?_
  simp only [Act.put, List.setIfInBounds_toArray]; try simp only [List.set_cons_zero, List.set_cons_succ]
  refine wpAnyH_takesJ (i := 1) (v := (.slice (some ⟨bR, oR, none⟩) nr cr)) (some 15) rfl rfl (by kernel_rfl) (by kernel_rfl) (by kernel_rfl) (fun _ _ _ h => h) (Or.inl ⟨by rfl, (by intro W9 hSw; (try dsimp only at hSw); go_simp; first | done | with_reducible rfl)⟩) (by assumption) ?_
  simp only [Act.put, List.setIfInBounds_toArray]; try simp only [List.set_cons_zero, List.set_cons_succ]
  refine wpAnyH_takesJ (i := 2) (v := (.int .i64 (k : Nat))) (some 16) rfl rfl (by kernel_rfl) (by kernel_rfl) (by kernel_rfl) (fun _ _ _ h => h) (Or.inl ⟨by rfl, (by intro W9 hSw; (try dsimp only at hSw); go_simp; first | done | with_reducible rfl)⟩) (by assumption) ?_
  simp only [Act.put, List.setIfInBounds_toArray]; try simp only [List.set_cons_zero, List.set_cons_succ]
  refine wpAnyH_takesJ (i := 3) (v := (.pointer (some ⟨bR, oR + k * 2, none⟩))) (some 17) rfl rfl (by kernel_rfl) (by kernel_rfl) (by kernel_rfl) (fun _ _ _ h => h) (Or.inl ⟨by rfl, (by intro W9 hSw; (try dsimp only at hSw); go_simp; first | done | with_reducible rfl)⟩) (by assumption) ?_
  simp only [Act.put, List.setIfInBounds_toArray]; try simp only [List.set_cons_zero, List.set_cons_succ]
  refine wpAnyH_takesJ (i := 4) (v := (.agg #[.int .i64 x, .slice AT na ca])) (some 18) rfl rfl (by kernel_rfl) (by kernel_rfl) (by kernel_rfl) (fun _ _ _ h => h) (Or.inl ⟨by rfl, (by intro W9 hSw; (try dsimp only at hSw); go_simp; first | done | with_reducible rfl)⟩) (by assumption) ?_
  simp only [Act.put, List.setIfInBounds_toArray]; try simp only [List.set_cons_zero, List.set_cons_succ]
  refine wpAnyH_ready (rs := [5]) (by kernel_rfl) (by simp) ?_
  refine AllReadyH.cons rfl (fun K hK => ?_) AllReadyH.nil
  go_simp
  go_at_call 40
  refine (AA.out _ (by exact hb1)).mono ?_
  rintro e x2 ⟨A3, n3, c3, rfl, hr3', hbx⟩
  have hl3 := hr3'.len
  have hb2 := hb1.trans (hbx.mono hb1.size)
  refine hK.out _ _ (by exact ⟨keepcell hb2 q0, keepcell hb2 q2, keepcell hb2 q3, keepcell hb2 cR0, keepcell hb2 cR1, keepcell hb2 cS⟩) (fun hHeld => ?_)
  clear hK K hbx hr3'
  try dsimp only
  refine wpAnyH_takesJ (i := 6) (v := (.int .i64 (n3 : Nat))) (some 20) rfl rfl (by kernel_rfl) (by kernel_rfl) (by kernel_rfl) (fun _ _ _ h => h) (Or.inl ⟨by rfl, (by intro W9 hSw; (try dsimp only at hSw); go_simp; first | done | with_reducible rfl)⟩) (by assumption) ?_
  simp only [Act.put, List.setIfInBounds_toArray]; try simp only [List.set_cons_zero, List.set_cons_succ]
  by_cases hz : n3 = 0
  · have z1 : ((n3 : Int) == 0) = true := by rw [beq_iff_eq]; omega
    refine wpAnyH_takesJ (i := 7) (v := (.bool true)) (some 21) rfl rfl (by kernel_rfl) (by kernel_rfl) (by kernel_rfl) (fun _ _ _ h => h) (Or.inl ⟨by rfl, (by intro W9 hSw; (try dsimp only at hSw); go_simp; first | done | with_reducible rfl)⟩) (by assumption) ?_
    simp only [Act.put, List.setIfInBounds_toArray]; try simp only [List.set_cons_zero, List.set_cons_succ]
    refine wpAnyH_takesJ (i := 8) (v := (.bool true)) (some 22) rfl rfl (by kernel_rfl) (by kernel_rfl) (by kernel_rfl) (fun _ _ _ h => h) (Or.inl ⟨by rfl, (by intro W9 hSw; (try dsimp only at hSw); go_simp; first | done | with_reducible rfl)⟩) (by assumption) ?_
    simp only [Act.put, List.setIfInBounds_toArray]; try simp only [List.set_cons_zero, List.set_cons_succ]
    refine wpAnyH_takesJ (i := 9) (v := (.pointer (some ⟨w.heap.size, 3, none⟩))) (some 23) rfl rfl (by kernel_rfl) (by kernel_rfl) (by kernel_rfl) (fun _ _ _ h => h) (Or.inl ⟨by rfl, (by intro W9 hSw; (try dsimp only at hSw); go_simp; first | done | with_reducible rfl)⟩) (by assumption) ?_
    simp only [Act.put, List.setIfInBounds_toArray]; try simp only [List.set_cons_zero, List.set_cons_succ]
    refine wpAnyH_takesJ (i := 10) (v := (.slice (some ⟨bS, oS, none⟩) ns cs)) (some 24) rfl rfl (by kernel_rfl) (by kernel_rfl) (by kernel_rfl) (fun _ _ _ h => h) (Or.inl ⟨by rfl, (by intro W9 hSw; (try dsimp only at hSw); go_simp; first | done | with_reducible rfl)⟩) (by assumption) ?_
    simp only [Act.put, List.setIfInBounds_toArray]; try simp only [List.set_cons_zero, List.set_cons_succ]
    refine wpAnyH_takesJ (i := 11) (v := (.pointer (some ⟨w.heap.size, 0, none⟩))) (some 25) rfl rfl (by kernel_rfl) (by kernel_rfl) (by kernel_rfl) (fun _ _ _ h => h) (Or.inl ⟨by rfl, (by intro W9 hSw; (try dsimp only at hSw); go_simp; first | done | with_reducible rfl)⟩) (by assumption) ?_
    simp only [Act.put, List.setIfInBounds_toArray]; try simp only [List.set_cons_zero, List.set_cons_succ]
    refine wpAnyH_takesJ (i := 12) (v := (.slice A0 nt ct)) (some 26) rfl rfl (by kernel_rfl) (by kernel_rfl) (by kernel_rfl) (fun _ _ _ h => h) (Or.inl ⟨by rfl, (by intro W9 hSw; (try dsimp only at hSw); go_simp; first | done | with_reducible rfl)⟩) (by assumption) ?_
    simp only [Act.put, List.setIfInBounds_toArray]; try simp only [List.set_cons_zero, List.set_cons_succ]
    refine wpAnyH_takesJ (i := 13) (v := (.int .i64 (k : Nat))) (some 27) rfl rfl (by kernel_rfl) (by kernel_rfl) (by kernel_rfl) (fun _ _ _ h => h) (Or.inl ⟨by rfl, (by intro W9 hSw; (try dsimp only at hSw); go_simp; first | done | with_reducible rfl)⟩) (by assumption) ?_
    simp only [Act.put, List.setIfInBounds_toArray]; try simp only [List.set_cons_zero, List.set_cons_succ]
    refine wpAnyH_ready (rs := [14]) (by kernel_rfl) (by simp) ?_
    refine AllReadyH.cons rfl (fun K hK => ?_) AllReadyH.nil
    go_simp
    go_at_call 32
    refine (NN.out _ (by exact hb2)).mono ?_
    rintro e x3 ⟨rfl, hbx⟩
    rw [HND.out]
    have hb3 := hb2.trans (hbx.mono hb2.size)
    refine hK.out _ _ (by exact ⟨keepcell hb3 q0, keepcell hb3 q2, keepcell hb3 q3, keepcell hb3 cR0, keepcell hb3 cR1, keepcell hb3 cS⟩) (fun hHeld => ?_)
    clear hK K hbx
    try dsimp only
    refine wpAnyH_takesJ (i := 15) (v := (.pointer (some ⟨bS, oS + m0, none⟩))) (some 29) rfl rfl (by kernel_rfl) (by kernel_rfl) (by kernel_rfl) (fun _ _ _ h => h) (Or.inl ⟨by rfl, (by intro W9 hSw; (try dsimp only at hSw); go_simp; first | done | with_reducible rfl)⟩) (by assumption) ?_
    simp only [Act.put, List.setIfInBounds_toArray]; try simp only [List.set_cons_zero, List.set_cons_succ]
    refine wpAnyH_takesJ (i := 16) (v := (.slice AL nl cl)) (some 30) rfl rfl (by kernel_rfl) (by kernel_rfl) (by kernel_rfl) (fun _ _ _ h => h) (Or.inl ⟨by rfl, (by intro W9 hSw; (try dsimp only at hSw); go_simp; first | done | with_reducible rfl)⟩) (by assumption) ?_
    simp only [Act.put, List.setIfInBounds_toArray]; try simp only [List.set_cons_zero, List.set_cons_succ]
    refine wpAnyH_takesJ (i := 17) (v := (.int .i64 (nl : Nat))) (some 31) rfl rfl (by kernel_rfl) (by kernel_rfl) (by kernel_rfl) (fun _ _ _ h => h) (Or.inl ⟨by rfl, (by intro W9 hSw; (try dsimp only at hSw); go_simp; first | done | with_reducible rfl)⟩) (by assumption) ?_
    simp only [Act.put, List.setIfInBounds_toArray]; try simp only [List.set_cons_zero, List.set_cons_succ]
    have hTV : T = ((nl : Int) == 0) := by
      by_cases hln : nl = 0
      · rw [show ((nl : Int) == 0) = true by rw [beq_iff_eq]; omega]
        exact TI.out.2 ⟨List.length_eq_zero_iff.1 (by omega), List.length_eq_zero_iff.1 (by rw [HTL.out]; exact hln)⟩
      · rw [show ((nl : Int) == 0) = false by rw [beq_eq_false_iff_ne]; omega]
        cases T with
        | false => rfl
        | true => exact absurd (by rw [← HTL.out, (TI.out.1 rfl).2]; rfl) hln
    obtain ⟨y, hy⟩ : ∃ y, y = ((nl : Int) == 0) := ⟨_, rfl⟩
    rw [← hy] at hTV
    refine wpAnyH_takesJ (i := 18) (v := (.bool ((nl : Int) == 0))) (some 32) rfl rfl (by kernel_rfl) (by kernel_rfl) (by kernel_rfl) (fun _ _ _ h => h) (Or.inl ⟨by rfl, (by intro W9 hSw; (try dsimp only at hSw); go_simp; first | done | with_reducible rfl)⟩) (by assumption) ?_
    simp only [Act.put, List.setIfInBounds_toArray]; try simp only [List.set_cons_zero, List.set_cons_succ]
    rw [← hy]
    refine wpAnyH_takesJ (i := 19) (v := (.bool y)) (some 33) rfl rfl (by kernel_rfl) (by kernel_rfl) (by kernel_rfl) (fun _ _ _ h => h) (Or.inl ⟨by rfl, (by intro W9 hSw; (try dsimp only at hSw); go_simp; first | done | with_reducible rfl)⟩) (by assumption) ?_
    simp only [Act.put, List.setIfInBounds_toArray]; try simp only [List.set_cons_zero, List.set_cons_succ]
    refine wpAnyH_takesJ (i := 20) (v := (.bool y)) (some 4) rfl rfl (by kernel_rfl) (by kernel_rfl) (by kernel_rfl) (fun _ _ _ h => h) (Or.inl ⟨by rfl, (by intro W9 hSw; (try dsimp only at hSw); go_simp; first | done | with_reducible rfl)⟩) (by assumption) ?_
    simp only [Act.put, List.setIfInBounds_toArray]; try simp only [List.set_cons_zero, List.set_cons_succ]
    refine wpAnyH_done (by kernel_rfl) ?_ _
    have BE := Lib.hid (held_trans B2.out hb3)
    have HTV := Lib.hid hTV
    clear hb1 hb2 hb3 hy hTV TI
    go_wp2_with fail
    go_ret
    exact ⟨ret_bool HTV.out.symm, BE.out⟩
  · have z1 : ((n3 : Int) == 0) = false := by rw [beq_eq_false_iff_ne]; omega
    have hTV : T = false := by
      cases T with
      | false => rfl
      | true => exact absurd (by rw [← hl3, (TI.out.1 rfl).1]; rfl) hz
    subst hTV
    refine wpAnyH_takesJ (i := 7) (v := (.bool false)) (some 21) rfl rfl (by kernel_rfl) (by kernel_rfl) (by kernel_rfl) (fun _ _ _ h => h) (Or.inl ⟨by rfl, (by intro W9 hSw; (try dsimp only at hSw); go_simp; first | done | with_reducible rfl)⟩) (by assumption) ?_
    simp only [Act.put, List.setIfInBounds_toArray]; try simp only [List.set_cons_zero, List.set_cons_succ]
    refine wpAnyH_takesJ (i := 8) (v := (.bool false)) (some 22) rfl rfl (by kernel_rfl) (by kernel_rfl) (by kernel_rfl) (fun _ _ _ h => h) (Or.inl ⟨by rfl, (by intro W9 hSw; (try dsimp only at hSw); go_simp; first | done | with_reducible rfl)⟩) (by assumption) ?_
    simp only [Act.put, List.setIfInBounds_toArray]; try simp only [List.set_cons_zero, List.set_cons_succ]
    refine wpAnyH_takesJ (i := 9) (v := undef) (some 23) rfl rfl (by kernel_rfl) (by kernel_rfl) (by kernel_rfl) (fun _ _ _ h => h) (Or.inr ⟨by rfl, rfl⟩) (by assumption) ?_
    simp only [Act.put, List.setIfInBounds_toArray]; try simp only [List.set_cons_zero, List.set_cons_succ]
    refine wpAnyH_takesJ (i := 10) (v := undef) (some 24) rfl rfl (by kernel_rfl) (by kernel_rfl) (by kernel_rfl) (fun _ _ _ h => h) (Or.inr ⟨by rfl, rfl⟩) (by assumption) ?_
    simp only [Act.put, List.setIfInBounds_toArray]; try simp only [List.set_cons_zero, List.set_cons_succ]
    refine wpAnyH_takesJ (i := 11) (v := undef) (some 25) rfl rfl (by kernel_rfl) (by kernel_rfl) (by kernel_rfl) (fun _ _ _ h => h) (Or.inr ⟨by rfl, rfl⟩) (by assumption) ?_
    simp only [Act.put, List.setIfInBounds_toArray]; try simp only [List.set_cons_zero, List.set_cons_succ]
    refine wpAnyH_takesJ (i := 12) (v := undef) (some 26) rfl rfl (by kernel_rfl) (by kernel_rfl) (by kernel_rfl) (fun _ _ _ h => h) (Or.inr ⟨by rfl, rfl⟩) (by assumption) ?_
    simp only [Act.put, List.setIfInBounds_toArray]; try simp only [List.set_cons_zero, List.set_cons_succ]
    refine wpAnyH_takesJ (i := 13) (v := undef) (some 27) rfl rfl (by kernel_rfl) (by kernel_rfl) (by kernel_rfl) (fun _ _ _ h => h) (Or.inr ⟨by rfl, rfl⟩) (by assumption) ?_
    simp only [Act.put, List.setIfInBounds_toArray]; try simp only [List.set_cons_zero, List.set_cons_succ]
    refine wpAnyH_takesJ (i := 14) (v := undef) (some 28) rfl rfl (by kernel_rfl) (by kernel_rfl) (by kernel_rfl) (fun _ _ _ h => h) (Or.inr ⟨by rfl, rfl⟩) (by assumption) ?_
    simp only [Act.put, List.setIfInBounds_toArray]; try simp only [List.set_cons_zero, List.set_cons_succ]
    refine wpAnyH_takesJ (i := 15) (v := undef) (some 29) rfl rfl (by kernel_rfl) (by kernel_rfl) (by kernel_rfl) (fun _ _ _ h => h) (Or.inr ⟨by rfl, rfl⟩) (by assumption) ?_
    simp only [Act.put, List.setIfInBounds_toArray]; try simp only [List.set_cons_zero, List.set_cons_succ]
    refine wpAnyH_takesJ (i := 16) (v := undef) (some 30) rfl rfl (by kernel_rfl) (by kernel_rfl) (by kernel_rfl) (fun _ _ _ h => h) (Or.inr ⟨by rfl, rfl⟩) (by assumption) ?_
    simp only [Act.put, List.setIfInBounds_toArray]; try simp only [List.set_cons_zero, List.set_cons_succ]
    refine wpAnyH_takesJ (i := 17) (v := undef) (some 31) rfl rfl (by kernel_rfl) (by kernel_rfl) (by kernel_rfl) (fun _ _ _ h => h) (Or.inr ⟨by rfl, rfl⟩) (by assumption) ?_
    simp only [Act.put, List.setIfInBounds_toArray]; try simp only [List.set_cons_zero, List.set_cons_succ]
    refine wpAnyH_takesJ (i := 18) (v := undef) (some 32) rfl rfl (by kernel_rfl) (by kernel_rfl) (by kernel_rfl) (fun _ _ _ h => h) (Or.inr ⟨by rfl, rfl⟩) (by assumption) ?_
    simp only [Act.put, List.setIfInBounds_toArray]; try simp only [List.set_cons_zero, List.set_cons_succ]
    refine wpAnyH_takesJ (i := 19) (v := (.bool false)) (some 33) rfl rfl (by kernel_rfl) (by kernel_rfl) (by kernel_rfl) (fun _ _ _ h => h) (Or.inl ⟨by rfl, (by intro W9 hSw; (try dsimp only at hSw); go_simp; first | done | with_reducible rfl)⟩) (by assumption) ?_
    simp only [Act.put, List.setIfInBounds_toArray]; try simp only [List.set_cons_zero, List.set_cons_succ]
    refine wpAnyH_takesJ (i := 20) (v := (.bool false)) (some 4) rfl rfl (by kernel_rfl) (by kernel_rfl) (by kernel_rfl) (fun _ _ _ h => h) (Or.inl ⟨by rfl, (by intro W9 hSw; (try dsimp only at hSw); go_simp; first | done | with_reducible rfl)⟩) (by assumption) ?_
    simp only [Act.put, List.setIfInBounds_toArray]; try simp only [List.set_cons_zero, List.set_cons_succ]
    refine wpAnyH_done (by kernel_rfl) ?_ _
    have BE := Lib.hid (held_trans B2.out hb2)
    clear hb1 hb2 TI
    go_wp2_with fail
    go_ret
    exact ⟨rfl, BE.out⟩
end Go.Proofs.YtdohnhdjlhaaaaaGreatDoor

