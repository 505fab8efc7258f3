/- RingTwice: halved again and again until there is nobody, all are told, in turn: the call answers true and changes nothing that was there; for every input. -/
import Derived.Test.YthbofkhlbkdboaaRCel
import Derived.Test.YthbofkhlbkdboaaRHalf
namespace Go.Proofs.Ythbofkhlbkdboaa.ringTwice
open Go.ChangeShapes Go.WideShapes Go.ChangeAt Go.RowKit
set_option linter.unusedVariables false

theorem told_few {t l m : List Int} {x : Int} (h : t ++ m = Rp.turn (x, l)) (hl : l.length ≤ 200) : t.length ≤ 201 := by
  have h1 := congrArg List.length h
  rw [List.length_append] at h1
  have : (Rp.turn (x, l)).length ≤ 201 := by unfold Rp.turn; split <;> simp <;> omega
  omega
set_option maxHeartbeats 4000000 in
set_option maxRecDepth 100000 in
theorem walk (x : Int) (A : Option Addr) (n c : Nat) (zs : List Int) (w : World) (h : Row w A n c zs) :
    Calls Try.prog 7 #[.agg #[.int .i64 x, .slice A n c]] w fun e w' => e = .returned (.bool true) ∧ Below w.heap.size w w' := by
  have H := Lib.hid h
  have hlen := Lib.hid h.len
  have P0 := Lib.hid (Cel.new w (.int .i64 x) (.slice A n c) 24)
  have B0 := Lib.hid (below_new w (.cells #[.int .i64 x, .slice A n c] 24))
  clear h
  go_enter Try.func7, Try.ntmps7
  go_wp2_with fail
  refine (shown_any _).mono ?_
  rintro e w1 ⟨rfl, hb1⟩
  have B1 := Lib.hid (B0.out.trans (hb1.mono B0.out.size))
  have P1 := Lib.hid (P0.out.step hb1)
  have p0 := P1.out.c0
  have p1 := P1.out.c1
  clear hb1 B0 P0
  by_cases h200 : 200 < n
  · have i1 : (200 : Int) < (n : Int) := by omega
    go_wp2_with fail
    go_ret
    exact ⟨rfl, B1.out⟩
  · have i1 : ¬ (200 : Int) < (n : Int) := by omega
    have h3 : n ≤ 200 := by omega
    go_wp2_with fail
    refine (made_any x A n c zs _ (H.out.below B1.out) (by omega)).mono ?_
    rintro e w2 ⟨A2, n2, c2, rfl, hr2, hb2⟩
    have B2 := Lib.hid ((B1.out.trans (hb2.mono B1.out.size)).alloc (Nat.le_trans B1.out.size hb2.size) (.cells #[.int .i64 x, .slice A2 n2 c2] 26))
    have P2 := Lib.hid ((P1.out.step hb2).alloc (.cells #[.int .i64 x, .slice A2 n2 c2] 26))
    have C2 := Lib.hid (Cel.new w2 (.int .i64 x) (.slice A2 n2 c2) 26)
    have R2 := Lib.hid (hr2.below_alloc (.cells #[.int .i64 x, .slice A2 n2 c2] 26))
    have hw2 : w.heap.size < w2.heap.size := Nat.lt_of_lt_of_le P1.out.lt hb2.size
    have K0 := Lib.hid (show Rp.Cut (x, zs) 0 from ⟨by have := hlen.out; simp; omega, fun h => by omega⟩)
    clear hr2 hb2 p0 p1
    go_wp2_with fail
    go_loopw [5, 6] (fun s i wr => ∃ (j : Nat) (y : Int) (Ar : Option Addr) (nr cr m : Nat) (l t : List Int), j ≤ 20 ∧ i = .int .i64 j ∧ Hid (Cel wr w2.heap.size (.int .i64 y) (.slice Ar nr cr)) ∧ Hid (Row wr Ar nr cr l) ∧ Hid (wr.ownsRow (w2.heap.size + 1) 3 1 s m (t.map (Value.int .i64))) ∧ Hid (t ++ Rp.turn (y, l) = Rp.turn (x, zs)) ∧ Hid (Rp.Cut (y, l) j) ∧ Hid (Cel wr w.heap.size (.int .i64 x) (.slice A n c)) ∧ Hid (Below w.heap.size w wr)) (fun _ i _ => 20 - (intOf i).toNat)
    case atStart => exact ⟨0, x, A2, n2, c2, 0, zs, [], by omega, rfl, C2, R2, Lib.hid (World.ownsRow_nil _ _ _ _), Lib.hid rfl, K0, P2, B2⟩
    case round =>
      obtain ⟨j, y, Ar, nr, cr, m, l, t, hj, rfl, HC, HR, HO, HT, HK, HP, HB⟩ := hrel
      have g0 := HC.out.c0
      have g1 := HC.out.c1
      have hR := HC.out.lt
      have hnr : nr ≤ 200 := by have h1 := HK.out.1; have h2 := HR.out.len; have h4 : 200 / 2 ^ j ≤ 200 := Nat.div_le_self _ _; simp only at h1; omega
      have htl := told_few HT.out (by rw [hlen.out]; exact h3)
      have hml := own_len HO.out
      by_cases hlt : j < 20
      · go_wp2_with fail
        refine (half_any y Ar nr cr l _ HR.out (by omega)).mono ?_
        rintro e w3 ⟨A3, n3, c3, B3, m3, d3, rfl, hr3, hf3, hq3, hgf3, hb3⟩
        obtain ⟨y3, hy3⟩ : ∃ y3, y3 = (Rp.half (y, l)).1.1 := ⟨_, rfl⟩
        obtain ⟨l3, hl3⟩ : ∃ l3, l3 = (Rp.half (y, l)).1.2 := ⟨_, rfl⟩
        obtain ⟨q3, hqq⟩ : ∃ q3, q3 = (Rp.half (y, l)).2 := ⟨_, rfl⟩
        have hT3 := Rp.turn_half (y, l)
        have hK3 := HK.out.half
        have e1 : (Rp.half (y, l)).1 = (y3, l3) := by rw [hy3, hl3]
        rw [e1, ← hqq] at hT3
        rw [e1] at hK3
        rw [← hy3]
        rw [← hl3] at hr3
        rw [← hqq] at hq3
        have hm3 : m3 ≤ 201 := by
          have h5 := congrArg List.length hT3
          rw [List.length_append] at h5
          have h6 := hq3.len
          have h7 : (Rp.turn (y, l)).length ≤ 201 := by have := HR.out.len; unfold Rp.turn; split <;> simp <;> omega
          omega
        have C3 := (HC.out.step hb3).alloc (.cells #[.int .i64 y3, .slice A3 n3 c3] 26)
        have x0 := C3.c0
        have x1 := C3.c1
        have x2 := C3.f0
        have x3 := C3.f1
        have HC3 := Lib.hid (C3.put (.int .i64 y3) (.slice A3 n3 c3))
        have HR3 := Lib.hid ((hr3.below_alloc (.cells #[.int .i64 y3, .slice A3 n3 c3] 26)).put (b := w2.heap.size) (u := .int .i64 y3) (v := .slice A3 n3 c3) (hf3.mono hR))
        have HQ3 := Lib.hid ((hq3.below_alloc (.cells #[.int .i64 y3, .slice A3 n3 c3] 26)).put (b := w2.heap.size) (u := .int .i64 y3) (v := .slice A3 n3 c3) (hgf3.mono hR))
        have HB3 := Lib.hid (below_put (b := w2.heap.size) (u := .int .i64 y3) (v := .slice A3 n3 c3) (((HB.out.trans (hb3.mono HB.out.size)).alloc (by have := hb3.size; have := HB.out.size; omega) (.cells #[.int .i64 y3, .slice A3 n3 c3] 26))) (Nat.le_of_lt hw2))
        have HP3 := Lib.hid (((HP.out.step hb3).alloc (.cells #[.int .i64 y3, .slice A3 n3 c3] 26)).far (b' := w2.heap.size) (u := .int .i64 y3) (v := .slice A3 n3 c3) (by omega))
        have HO3 := Lib.hid (own_put (b := w2.heap.size) (u1 := .int .i64 y3) (u2 := .slice A3 n3 c3) ((own_below HO.out hb3).alloc (.cells #[.int .i64 y3, .slice A3 n3 c3] 26)) (by omega))
        have HF3 := Lib.hid hf3
        have HOl := Lib.hid (fun k (e : u5.ownBlock = some k) => HO.out.lt k e)
        have hsz3 : wr.heap.size ≤ w3.heap.size := hb3.size
        have HT3 := Lib.hid hT3
        have HK3 := Lib.hid hK3
        clear hr3 hf3 hq3 hgf3 hb3 C3 hT3 hK3 e1 hy3 hl3 hqq g0 g1
        go_wp2_with (at_builtin; refine wpList_append_row rfl (.tmp 28) (.tmp 29) rfl (w2.heap.size + 1) u5 m t rfl ?c1 B3 m3 d3 q3 rfl ?c2 (by omega) ?c3 ?_)
        case c1 => exact HO3.out
        case c2 => exact HQ3.out
        case c3 => simp [World.setCell]; omega
        intro v4 w4 ho4 hg4
        have C4 := Lib.hid (HC3.out.grown hg4 (fun k e => by have := (HOl.out k e).1; omega))
        have P4 := Lib.hid (HP3.out.grown hg4 (fun k e => by have := (HOl.out k e).1; omega))
        have R4 := Lib.hid (HR3.out.grown hg4 (fun ad e e2 => by have h8 := HF3.out ad e; have h9 := (HOl.out _ e2.symm).2; omega))
        have B4 := Lib.hid (HB3.out.grown hg4 (by simp [World.setCell]; omega) (fun k e => by have := (HOl.out k e).1; omega))
        have O4 := Lib.hid (show w4.ownsRow (w2.heap.size + 1) 3 1 v4 (m + m3) ((t ++ q3).map (Value.int .i64)) from by simpa using ho4)
        have T4 := Lib.hid (show (t ++ q3) ++ Rp.turn (y3, l3) = Rp.turn (x, zs) from by rw [List.append_assoc, HT3.out, HT.out])
        clear ho4 hg4 x0 x1 x2 x3 HC3 HR3 HQ3 HB3 HP3 HO3 HF3 HOl HT3 HC HR HO HT HK HP HB
        go_wp2_with fail
        go_roundw
        case rel => exact ⟨j + 1, y3, A3, n3, c3, m + m3, l3, t ++ q3, by omega, by go_num, C4, R4, O4, T4, HK3, P4, B4⟩
        case measure => simp [intOf]; omega
      · obtain rfl : j = 20 := by omega
        have h20 := HK.out.2 (by omega)
        injection h20 with hy0 hl0
        subst hy0 hl0
        have hT := HT.out
        rw [show Rp.turn (0, []) = [] from rfl, List.append_nil] at hT
        have TT := Lib.hid hT
        obtain rfl : 0 = nr := HR.out.len
        obtain ⟨Ag, cg, hg, hrg, _⟩ := Row.of_own' HO.out
        subst hg
        have RG := Lib.hid hrg
        have hown := Lib.hid (World.ownsRow_made (w := wr) (base := wr.heap.size) (e := 3) (size := 1) #[] 0 (Nat.le_refl _) (by unfold maxLen; omega) rfl)
        have hbn := Lib.hid (below_new wr (.cells #[] 3))
        have P5 := HP.out.alloc (.cells #[] 3)
        have p0 := HP.out.c0
        have p1 := HP.out.c1
        have p2 := P5.c0
        have p3 := P5.c1
        have hmt : m ≤ 201 := by omega
        clear hT hrg P5 htl hml
        go_wp2_with (at_builtin; refine wpList_append_row rfl (.tmp 31) (.tmp 33) rfl wr.heap.size (.slice (some ⟨wr.heap.size, 0, none⟩) 0 0) 0 [] rfl ?c1 A n c zs rfl ?c2 (by omega) ?c3 ?_)
        case c1 => exact hown.out
        case c2 => exact H.out.below (HB.out.trans (hbn.out.mono HB.out.size))
        case c3 => simp
        intro v6 w6 ho6 hg6
        have O6 := Lib.hid (show w6.ownsRow wr.heap.size 3 1 v6 n (zs.map (Value.int .i64)) from by simpa using ho6)
        have hb6 : Below wr.heap.size wr w6 := ((Below.refl _ _).alloc (Nat.le_refl _) _).grown hg6 (by simp) (fun k e => by simp [Value.ownBlock] at e; omega)
        have C6 := Lib.hid (HC.out.step hb6)
        have P6 := Lib.hid (HP.out.step hb6)
        have G6 := Lib.hid (RG.out.below hb6)
        have B6 := Lib.hid (HB.out.trans (hb6.mono HB.out.size))
        have hs6 : wr.heap.size ≤ w6.heap.size := hb6.size
        have z0 := C6.out.c0
        have z1 := C6.out.c1
        have z2 := P6.out.c0
        clear ho6 hg6 hb6 p0 p1 p2 p3 g0 g1
        by_cases hx : x = 0
        · subst hx
          have x1 : ((0 : Int) != 0) = false := rfl
          obtain ⟨A6, c6, hv6, hr6, _⟩ := Row.of_own' O6.out
          subst hv6
          have R6 := Lib.hid hr6
          clear hr6
          go_wp2_with fail
          refine (ints_row _ _ _ _ _ _ t zs _ TT.out G6.out R6.out).mono ?_
          rintro e w7 ⟨rfl, hb7⟩
          have C7 := C6.out.step hb7
          have y0 := C7.c0
          have y1 := C7.c1
          have B7 := Lib.hid (B6.out.trans (hb7.mono B6.out.size))
          clear z0 z1 z2 hb7
          go_wp2_with fail
          refine (all_any 0 Ar 0 cr [] _ ⟨rfl, Nat.zero_le _, HR.out.most, HR.out.nil, fun i z hi => by simp at hi⟩ (by omega)).mono ?_
          rintro e w8 ⟨A8, n8, c8, rfl, hr8, _, hb8⟩
          obtain rfl : 0 = n8 := hr8.len
          go_wp2_with fail
          go_ret
          exact ⟨rfl, B7.out.trans (hb8.mono B7.out.size)⟩
        · have x1 : (x != 0) = true := by simpa using hx
          have hn6 := Lib.hid (below_new w6 (.cells #[.int .i64 x] 3))
          have z3 := keepcell hn6.out z2
          go_wp2_with (at_builtin; refine wpList_append_row rfl (.tmp 38) (.tmp 41) rfl wr.heap.size v6 n zs rfl ?d1 _ 1 1 [x] rfl ?d2 (by omega) ?d3 ?_)
          case d1 => exact O6.out.alloc _
          case d2 => exact row_at w6 x _ rfl
          case d3 => simp; omega
          intro v7 w7 ho7 hg7
          have O7 : w7.ownsRow wr.heap.size 3 1 v7 (n + 1) ((zs ++ [x]).map (Value.int .i64)) := by simpa using ho7
          have hl6 := Lib.hid (fun k (e : v6.ownBlock = some k) => (O6.out.lt k e).1)
          have C7 := (C6.out.alloc (.cells #[.int .i64 x] 3)).grown hg7 (fun k e => by have := hl6.out k e; have := HC.out.lt; omega)
          have y0 := C7.c0
          have y1 := C7.c1
          have G7 := Lib.hid ((G6.out.below_alloc (.cells #[.int .i64 x] 3)).grown hg7 (fun ad e e2 => by
            have h8 := hl6.out _ e2.symm
            subst e
            have h9 := (HO.out.lt ad.block rfl).2
            omega))
          have B7 := Lib.hid ((B6.out.alloc B6.out.size (.cells #[.int .i64 x] 3)).grown hg7 (by have := B6.out.size; simp; omega) (fun k e => by have := hl6.out k e; have := HB.out.size; omega))
          obtain ⟨A7, c7, hv7, hr7, _⟩ := Row.of_own' O7
          subst hv7
          have R7 := Lib.hid hr7
          have TX := Lib.hid (show t = zs ++ [x] by rw [TT.out]; unfold Rp.turn; rw [if_neg hx])
          clear ho7 hg7 hr7 O7 C7 z0 z1 z2 z3
          go_wp2_with fail
          refine (ints_row _ _ _ _ _ _ t (zs ++ [x]) _ TX.out G7.out R7.out).mono ?_
          rintro e w8 ⟨rfl, hb8⟩
          have k0 := keepcell hb8 y0
          have k1 := keepcell hb8 y1
          have B8 := Lib.hid (B7.out.trans (hb8.mono B7.out.size))
          clear y0 y1 hb8
          go_wp2_with fail
          refine (all_any 0 Ar 0 cr [] _ ⟨rfl, Nat.zero_le _, HR.out.most, HR.out.nil, fun i z hi => by simp at hi⟩ (by omega)).mono ?_
          rintro e w9 ⟨A9, n9, c9, rfl, hr9, _, hb9⟩
          obtain rfl : 0 = n9 := hr9.len
          go_wp2_with fail
          go_ret
          exact ⟨rfl, B8.out.trans (hb9.mono B8.out.size)⟩
set_option maxRecDepth 100000 in
theorem lifted (os : Os) (started : os.Started) (H : Type) (enc : TypeId × Value → H) :
    ReturnsInHanded {} Try.checked os 7 .any (Rows.ringTwiceSpec.pre6 enc Try.prog Try.f7 Rows.ringTwiceRow.domain false) (Rows.ringTwiceSpec.post enc Try.prog Try.f7 false true false false) := by
  refine returnsInHanded_of_change (C := Try.checked) own started (by kernel_rfl) Try.func7
    (ChangeSpec.witness6 (enc := enc) (C := Try.checked) false ⟨#[], #[.agg #[.int .i64 0, .slice none 0 0]], []⟩ 8 (by kernel_rfl) (by kernel_rfl) (by kernel_rfl) (by kernel_rfl)) ?_
  intro W base args ds gs before hval0 hW hcnd _
  have hval : ∀ (j : Nat) t v, Try.f7.params[j]? = some t → args[j]? = some v → Value.okWide Try.prog W .any base t v := hval0
  have hW' := hW
  obtain ⟨p, q, hA0, hV, rfl, hfz, hnd⟩ := hW
  have hA : DataW.TrodAll enc Try.prog W 0 (fun _ => true) true Try.f7.params.toList args.toList ds p := hA0
  rw [Try.params7] at hA hval
  obtain ⟨v0, vs0, d0, ds0, p0, q0, hargs, rfl, rfl, h0, r0⟩ := trodAll_cons hA
  obtain ⟨rfl, rfl, rfl⟩ := trodAll_nil r0
  obtain rfl : args = #[v0] := by cases args; simp_all
  obtain ⟨rfl, rfl⟩ := trodVars_none hV
  have k0 := h0
  have lt0 : ∀ x ∈ p0, x.block < W.heap.size := by obtain ⟨m, hm⟩ := k0; exact DataW.trod_lt m _ _ _ hm
  obtain ⟨x0, a0, len0, cap0, z0, rfl, hr0⟩ := open_ring (hval 0 24 v0 rfl rfl) h0
  clear hA0 hval0
  refine (walk x0 a0 len0 cap0 z0 W hr0).mono fun e W' ⟨he, bel⟩ => ?_
  subst he
  exact ⟨_, rfl, _, _, _, [], _, [], hW', trodAll_mk1 (shut_bool Try.underlying4 _), (trodAll_cons_mk (Below.trod laidOut (by kernel_rfl) (of_decide_eq_true (by kernel_rfl)) k0 bel lt0) trodAll_mk0), rfl, bel.frame _, fun h => by cases h⟩
theorem over : Rows.ringTwiceRow.holds Try.pinned (OpenSpec.ofChange Rows.ringTwiceSpec) :=
  OpenClaim.holds_of_wide 7 Try.f7 rfl rfl rfl rfl rfl rfl rfl ⟨rfl, rfl, rfl, rfl, rfl⟩ rfl rfl rfl rfl rfl (by kernel_rfl) Try.func7 (by kernel_rfl)
    (of_decide_eq_true (by kernel_rfl)) (by unfold Func.isWrapper; first | (rw [if_pos (by decide +kernel)]; kernel_rfl) | (rw [if_neg (by decide +kernel)]; exact ⟨rfl, rfl⟩))
    (fun os started H enc _ => lifted os started H enc)
theorem proved : Rows.RingTwiceSaid := over
end Go.Proofs.Ythbofkhlbkdboaa.ringTwice

