/- HeapDrops: with all of one G dropped the others come in the order in which they came, in whatever order they were pushed: the call answers true and changes nothing that was there; for every input. -/
import Derived.Test.YtjcljdehhckaeaaHKeep
import Derived.Test.YtjcljdehhckaeaaHFrame
import Derived.Test.YtjcljdehhckaeaaHAll
import Derived.Test.YtjcljdehhckaeaaHDrop
import Derived.Test.YtjcljdehhckaeaaHEq
namespace Go.Proofs.Ytjcljdehhckaeaa.heapDrops
open Go.ChangeShapes Go.WideShapes Go.ChangeAt Go.RowKit
set_option linter.unusedVariables false

/-- Two heaps that a law made for itself. -/
structure Two (w0 w : World) (a b : Nat) (la lb : List Hp.Tm) : Prop where
  mem : ∃ F G, HM w a F la ∧ HM w b G lb ∧ (∀ j, F j → ¬ G j) ∧ (∀ k, F k → w0.heap.size ≤ k) ∧ (∀ k, G k → w0.heap.size ≤ k)
  ha : Hp.Heap la
  hb : Hp.Heap lb
  below : Below w0.heap.size w0 w
theorem Two.new {w0 w : World} {a b : Nat} (h : Below w0.heap.size w0 w) (ha : w.heap.size = a) (hb : w.heap.size + 1 = b) : Two w0 ((w.alloc (.cells #[.slice none 0 0] 27)).alloc (.cells #[.slice none 0 0] 27)) a b [] [] := by
  subst ha hb
  have h1 := HM.new w
  have hs : (w.alloc (.cells #[.slice none 0 0] 27)).heap.size = w.heap.size + 1 := by simp
  have h2 := HM.new (w.alloc (.cells #[.slice none 0 0] 27))
  rw [hs] at h2
  have hb1 := below_new w (.cells #[.slice none 0 0] 27)
  have hb2 := below_new (w.alloc (.cells #[.slice none 0 0] 27)) (.cells #[.slice none 0 0] 27)
  have hz := h.size
  exact ⟨⟨_, _, h1.step hb2, h2, fun j e e' => by omega, fun k e => by omega, fun k e => by omega⟩, Hp.heap_nil, Hp.heap_nil, h.trans ((hb1.trans (hb2.mono hb1.size)).mono h.size)⟩
theorem Two.step {w0 w w' : World} {a b : Nat} {la lb : List Hp.Tm} (h : Two w0 w a b la lb) (hb : Below w.heap.size w w') : Two w0 w' a b la lb := by
  obtain ⟨F, G, h1, h2, h3, h4, h5⟩ := h.mem
  exact ⟨⟨F, G, h1.step hb, h2.step hb, h3, h4, h5⟩, h.ha, h.hb, h.below.trans (hb.mono h.below.size)⟩
theorem two_pushA {w0 w : World} {a b : Nat} {la lb : List Hp.Tm} (h : Two w0 w a b la lb) (hl : la.length ≤ 100000) (t1 t2 t3 : Int) :
    Calls Try.prog 10 #[.pointer (some ⟨a, 0, none⟩), .agg #[.int .i64 t1, .int .i64 t2, .int .i64 t3]] w fun e w' => e = .returned (.tuple #[]) ∧ ∃ l', l'.Perm (la ++ [(t1, t2, t3)]) ∧ Two w0 w' a b l' lb := by
  obtain ⟨F, G, h1, h2, h3, h4, h5⟩ := h.mem
  refine (push_any a F la t1 t2 t3 w h1 (Lib.hid h.ha) hl).mono ?_
  rintro e w' ⟨rfl, F', l', hp, hh, hm', hk, hf⟩
  exact ⟨rfl, l', hp, ⟨F', G, hm', h2.kept hk (fun j hg f => h3 j f hg), fun j f g => (hf j f).elim (fun e => h3 j e g) (fun e => by have := h2.lt j g; omega), fun k f => (hf k f).elim (h4 k) (fun e => Nat.le_trans h.below.size e), h5⟩, hh, h.hb, hk.below h.below h4 h.below.size⟩
theorem two_pushB {w0 w : World} {a b : Nat} {la lb : List Hp.Tm} (h : Two w0 w a b la lb) (hl : lb.length ≤ 100000) (t1 t2 t3 : Int) :
    Calls Try.prog 10 #[.pointer (some ⟨b, 0, none⟩), .agg #[.int .i64 t1, .int .i64 t2, .int .i64 t3]] w fun e w' => e = .returned (.tuple #[]) ∧ ∃ l', l'.Perm (lb ++ [(t1, t2, t3)]) ∧ Two w0 w' a b la l' := by
  obtain ⟨F, G, h1, h2, h3, h4, h5⟩ := h.mem
  refine (push_any b G lb t1 t2 t3 w h2 (Lib.hid h.hb) hl).mono ?_
  rintro e w' ⟨rfl, G', l', hp, hh, hm', hk, hf⟩
  exact ⟨rfl, l', hp, ⟨F, G', h1.kept hk (fun j f g => h3 j f g), hm', fun j f g => (hf j g).elim (fun e => h3 j f e) (fun e => by have := h1.lt j f; omega), h4, fun k g => (hf k g).elim (h5 k) (fun e => Nat.le_trans h.below.size e)⟩, h.ha, hh, hk.below h.below h5 h.below.size⟩
theorem two_dropA {w0 w : World} {a b : Nat} {la lb : List Hp.Tm} (h : Two w0 w a b la lb) (hl : la.length ≤ 100000) (g m : Int) (hm : m = (la.length : Int) - (Hp.others la g).length) :
    Calls Try.prog 14 #[.pointer (some ⟨a, 0, none⟩), .int .i64 g] w fun e w' => e = .returned (.int .i64 m) ∧ ∃ l', l'.Perm (Hp.others la g) ∧ Two w0 w' a b l' lb := by
  subst hm
  obtain ⟨F, G, h1, h2, h3, h4, h5⟩ := h.mem
  refine (drop_any a F la g w h1 (by omega)).mono ?_
  rintro e w' ⟨rfl, l', hp, hh, hm', hk⟩
  exact ⟨rfl, l', hp, ⟨F, G, hm', h2.kept hk (fun j hg f => h3 j f hg), h3, h4, h5⟩, hh, h.hb, hk.below h.below h4 h.below.size⟩
theorem two_allA {w0 w : World} {a b : Nat} {la lb : List Hp.Tm} (h : Two w0 w a b la lb) (hl : la.length ≤ 100000) :
    Calls Try.prog 17 #[.pointer (some ⟨a, 0, none⟩)] w (MadeT w (Hp.srt la)) := by
  obtain ⟨F, G, h1, h2, h3, h4, h5⟩ := h.mem
  exact all_any a F la w h1 (by omega)
theorem two_allB {w0 w : World} {a b : Nat} {la lb : List Hp.Tm} (h : Two w0 w a b la lb) (hl : lb.length ≤ 100000) :
    Calls Try.prog 17 #[.pointer (some ⟨b, 0, none⟩)] w (MadeT w (Hp.srt lb)) := by
  obtain ⟨F, G, h1, h2, h3, h4, h5⟩ := h.mem
  exact all_any b G lb w h2 (by omega)
set_option maxRecDepth 100000 in
set_option maxHeartbeats 4000000 in
theorem walk (A : Option Addr) (n c : Nat) (zs : List Hp.Tm) (g : Int) (w : World) (h : TR w A n c zs) (h64 : Hid (∀ z ∈ zs, In64 z.2.2)) :
    Calls Try.prog 7 #[.slice A n c, .int .i64 g] w fun e w' => e = .returned (.bool true) ∧ Below w.heap.size w w' := by
  have H := Lib.hid h
  have hlen := h.len
  have hcap := h.cap
  have hmost := h.most
  clear h
  by_cases hn : 200 < n
  · have hn' : (200 : Int) < (n : Int) := by omega
    go_enter Try.func7, Try.ntmps7
    go_wp2_with fail
    refine (shown_any _).mono ?_
    rintro e w1 ⟨rfl, hb⟩
    go_wp2_with fail
    go_ret
    exact ⟨rfl, hb⟩
  · have hn' : (n : Int) ≤ 200 := by omega
    go_enter Try.func7, Try.ntmps7
    go_wp2_with fail
    refine (shown_any _).mono ?_
    rintro e w1 ⟨rfl, hb⟩
    have O0 := Lib.hid (Two.new (a := w1.heap.size) (b := w1.heap.size + 1) hb rfl rfl)
    clear hb
    go_wp2_with fail
    obtain ⟨b, hbn⟩ : ∃ b, b = w1.heap.size + 1 := ⟨_, rfl⟩
    rw [← hbn] at O0 ⊢
    obtain ⟨a, han⟩ : ∃ a, a = w1.heap.size := ⟨_, rfl⟩
    rw [← han] at O0 ⊢
    generalize (w1.alloc (.cells #[.slice none 0 0] 27)).alloc (.cells #[.slice none 0 0] 27) = V at *
    clear hbn han
    go_loopw [8, 9] (fun d i wr => ∃ (k m : Nat) (la lb : List Hp.Tm), k ≤ n ∧ d = .int .i64 m ∧ i = .int .i64 k ∧ Hid (m + (Hp.others (zs.reverse.take k) g).length = k) ∧ m ≤ k ∧ Hid (la.Perm (zs.take k)) ∧ Hid (lb.Perm (Hp.others (zs.reverse.take k) g)) ∧ Hid (Two w wr a b la lb)) (fun _ i _ => n - (intOf i).toNat)
    case atStart => exact ⟨0, 0, [], [], Nat.zero_le _, rfl, rfl, Lib.hid rfl, Nat.le_refl _, Lib.hid (List.Perm.refl _), Lib.hid (List.Perm.refl _), O0⟩
    case round =>
      clear O0
      obtain ⟨i, m, la, lb, hi, rfl, rfl, HM, hmi, HP, HQ, O⟩ := hrel
      by_cases hlt : i < n
      · obtain ⟨x, hx⟩ : ∃ x, zs[i]? = some x := ⟨_, List.getElem?_eq_getElem (by omega)⟩
        obtain ⟨q, hq⟩ : ∃ q, n - 1 - i = q := ⟨_, rfl⟩
        obtain ⟨y, hy⟩ : ∃ y, zs[q]? = some y := ⟨_, List.getElem?_eq_getElem (by omega)⟩
        have hy' : zs.reverse[i]? = some y := by rw [List.getElem?_reverse (by omega), hlen, hq]; exact hy
        obtain ⟨gb, off, rfl, _, hc⟩ := H.out.cells (by omega)
        obtain ⟨c0, c1, c2⟩ := hc i x hx
        have c0 := O.out.below.cell (p := ⟨gb, _, none⟩) (by assumption) |>.trans c0
        have c1 := O.out.below.cell (p := ⟨gb, _, none⟩) (by assumption) |>.trans c1
        have c2 := O.out.below.cell (p := ⟨gb, _, none⟩) (by assumption) |>.trans c2
        have HD := Lib.hid (hc q y hy)
        have HT := Lib.hid (show zs.take (i + 1) = zs.take i ++ [x] by rw [List.take_add_one, hx]; rfl)
        have HR := Lib.hid (Hp.others_take hy' g)
        have hla : la.length = i := by rw [HP.out.length_eq, List.length_take]; omega
        have hlb : lb.length ≤ i := by rw [HQ.out.length_eq]; have := HM.out; omega
        obtain ⟨x1, x2, x3⟩ := x
        obtain ⟨y1, y2, y3⟩ := y
        simp only at c0 c1 c2 HD HR
        have hgb : gb < w.heap.size := by assumption
        have i1 : (i : Int) < (n : Int) := by omega
        have q1 : (q : Int) < (n : Int) := by omega
        have e1 : (n : Int) - 1 - (i : Int) = (q : Int) := by omega
        clear hc hx hy hy'
        go_wp2_with fail
        refine (two_pushA O.out (by omega) x1 x2 x3).mono ?_
        rintro e w2 ⟨rfl, l', hp, hO⟩
        have HP2 := Lib.hid (show l'.Perm (zs.take (i + 1)) by rw [HT.out]; exact hp.trans (HP.out.append_right _))
        have O2 := Lib.hid hO
        obtain ⟨d0, d1, d2⟩ := HD.out
        have d0 := hO.below.cell (p := ⟨gb, _, none⟩) hgb |>.trans d0
        have d1 := hO.below.cell (p := ⟨gb, _, none⟩) hgb |>.trans d1
        have d2 := hO.below.cell (p := ⟨gb, _, none⟩) hgb |>.trans d2
        clear hp hO O HP c0 c1 c2 HT
        by_cases hyg : y3 = g
        · have t1 : (y3 == g) = true := by rw [beq_iff_eq]; exact hyg
          have hr := HR.out
          rw [if_pos hyg] at hr
          have HM2 := Lib.hid (show m + 1 + (Hp.others (zs.reverse.take (i + 1)) g).length = i + 1 by rw [hr]; have := HM.out; omega)
          have HQ2 := Lib.hid (show lb.Perm (Hp.others (zs.reverse.take (i + 1)) g) by rw [hr]; exact HQ.out)
          clear hr HR HM HQ hyg
          go_wp2_with fail
          go_roundw
          case rel => exact ⟨i + 1, m + 1, l', lb, by omega, by go_num, by go_num, HM2, by omega, HP2, HQ2, O2⟩
          case measure => simp [intOf]; omega
        · have t1 : (y3 == g) = false := by rw [beq_eq_false_iff_ne]; exact hyg
          have hr := HR.out
          rw [if_neg hyg] at hr
          have HM2 := Lib.hid (show m + (Hp.others (zs.reverse.take (i + 1)) g).length = i + 1 by rw [hr, List.length_append]; have := HM.out; simp; omega)
          have HR2 := Lib.hid hr
          clear hr HR HM hyg
          go_wp2_with fail
          refine (two_pushB O2.out (by omega) y1 y2 y3).mono ?_
          rintro e w3 ⟨rfl, l2, hp2, hO3⟩
          have HQ2 := Lib.hid (show l2.Perm (Hp.others (zs.reverse.take (i + 1)) g) by rw [HR2.out]; exact hp2.trans (HQ.out.append_right _))
          have O3 := Lib.hid hO3
          clear hp2 hO3 O2 HQ
          go_wp2_with fail
          go_roundw
          case rel => exact ⟨i + 1, m, l', l2, by omega, by go_num, by go_num, HM2, by omega, HP2, HQ2, O3⟩
          case measure => simp [intOf]; omega
      · obtain rfl : i = n := by omega
        have hP := HP.out
        have hQ := HQ.out
        have hM := HM.out
        rw [List.take_of_length_le (by omega)] at hP
        rw [List.take_of_length_le (by rw [List.length_reverse]; omega)] at hQ hM
        have hA := Hp.others_perm hP g
        have hR := Hp.others_perm (List.reverse_perm zs) g
        have hla : la.length = i := by rw [hP.length_eq]; exact hlen
        obtain ⟨q, hq⟩ : ∃ q, (Hp.others zs g).length = q := ⟨_, rfl⟩
        have hmq : m + q = i := by rw [← hM, hR.length_eq, hq]
        have HDr := Lib.hid (two_dropA O.out (by omega) g m (by rw [hla, hA.length_eq, hq]; omega))
        have HA := Lib.hid hA
        have HB := Lib.hid (hQ.trans hR)
        have HQn := Lib.hid hq
        clear HP HQ HM hP hQ hM hA hR hi hmi hlt O
        go_wp2_with fail
        refine HDr.out.mono ?_
        rintro e w2 ⟨rfl, l', hp, hO⟩
        have hl' : l'.length = q := by rw [hp.length_eq, HA.out.length_eq]; exact hq
        have hlb : lb.length = q := by rw [HB.out.length_eq]; exact hq
        have O2 := Lib.hid hO
        have HS1 := Lib.hid (Hp.srt_congr (hp.trans HA.out))
        have HS2 := Lib.hid (Hp.srt_congr HB.out)
        have HAl := Lib.hid (two_allA hO (by omega))
        clear hp hO HDr HA HB
        go_wp2_with fail
        refine HAl.out.mono ?_
        rintro e w3 ⟨A1, n1, c1, rfl, hr1, hf1, hb⟩
        rw [HS1.out] at hr1
        obtain rfl : n1 = q := by rw [← hr1.len, Hp.srt_length]; exact hq
        have O3 := Lib.hid (O2.out.step hb)
        have R3 := Lib.hid hr1
        have HBl := Lib.hid (two_allB O3.out (by omega))
        clear hr1 hf1 hb O2 HAl HS1
        go_wp2_with fail
        refine HBl.out.mono ?_
        rintro e w4 ⟨A2, n2, c2, rfl, hr2, hf2, hb⟩
        rw [HS2.out] at hr2
        obtain rfl : n2 = n1 := by rw [← hr2.len, Hp.srt_length]; exact hq
        have B4 := Lib.hid (O3.out.below.trans (hb.mono O3.out.below.size))
        have R4 := Lib.hid (R3.out.step hb)
        have T4 := Lib.hid hr2
        have k1 : (i : Int) - (m : Int) = (n2 : Int) := by omega
        have k2 : ((n2 : Int) != (n2 : Int)) = false := by simp
        have k3 : ((m : Int) != (m : Int)) = false := by simp
        clear hr2 hf2 hb O3 R3 HBl HS2
        go_wp2_with fail
        go_loopw [13] (fun a wr => ∃ j : Nat, a = .int .i64 j ∧ j ≤ n2 ∧ Hid (Below w4.heap.size w4 wr)) (fun a _ => n2 - (intOf a).toNat)
        case atStart => exact ⟨0, rfl, by omega, Lib.hid (Below.refl _ _)⟩
        case round =>
          obtain ⟨j, rfl, hj, HW⟩ := hrel
          by_cases hlt : j < n2
          · obtain ⟨z, hz⟩ : ∃ z, (Hp.srt (Hp.others zs g))[j]? = some z := ⟨_, List.getElem?_eq_getElem (by rw [Hp.srt_length]; omega)⟩
            have hzg : z.2.2 ≠ g := Hp.others_mem ((Hp.srt_perm _).mem_iff.1 (List.mem_of_getElem? hz))
            obtain ⟨b1, o1, rfl, _, hc1⟩ := R4.out.cells (by omega)
            obtain ⟨b2, o2, rfl, _, hc2⟩ := T4.out.cells (by omega)
            obtain ⟨s0, s1, s2⟩ := hc1 j z hz
            obtain ⟨r0, r1, r2⟩ := hc2 j z hz
            have s0 := keepcell HW.out s0
            have s1 := keepcell HW.out s1
            have s2 := keepcell HW.out s2
            have r0 := keepcell HW.out r0
            have r1 := keepcell HW.out r1
            have r2 := keepcell HW.out r2
            obtain ⟨z1, z2, z3⟩ := z
            simp only at s0 s1 s2 r0 r1 r2 hzg
            have hE : ∀ W, (binOp .neq 30 (.agg #[.int .i64 z1, .int .i64 z2, .int .i64 z3]) (.agg #[.int .i64 z1, .int .i64 z2, .int .i64 z3])).run Try.prog W = .ok (.bool false) W := fun W => by rw [neq_tm]; simp
            have t1 : (z3 == g) = false := by rw [beq_eq_false_iff_ne]; exact hzg
            have j1 : (j : Int) < (n2 : Int) := by omega
            clear hc1 hc2 hz hzg
            go_wp2_with fail
            go_quiet (fail)
            go_wp2_with fail
            have HW2 := Lib.hid (below_drewN HW.out nq)
            go_roundw
            case rel => exact ⟨j + 1, by go_num, by omega, HW2⟩
            case measure => simp [intOf]; omega
          · obtain rfl : j = n2 := by omega
            go_wp2_with fail
            go_ret
            exact ⟨rfl, B4.out.trans (HW.out.mono B4.out.size)⟩
set_option maxRecDepth 100000 in
theorem lifted (os : Os) (started : os.Started) (H : Type) (enc : TypeId × Value → H) :
    ReturnsInHanded {} Try.checked os 7 .any (Rows.heapDropsSpec.pre6 enc Try.prog Try.f7 Rows.heapDropsRow.domain false) (Rows.heapDropsSpec.post enc Try.prog Try.f7 false true false false) := by
  refine returnsInHanded_of_change (C := Try.checked) own started (by kernel_rfl) Try.func7
    (ChangeSpec.witness6 (enc := enc) (C := Try.checked) false ⟨#[], #[.slice none 0 0, .int .i64 0], []⟩ 8 (by kernel_rfl) (by kernel_rfl) (by kernel_rfl) (by kernel_rfl)) ?_
  intro W base args ds gs before hval0 hW hcnd _
  have hval : ∀ (j : Nat) t v, Try.f7.params[j]? = some t → args[j]? = some v → Value.okWide Try.prog W .any base t v := hval0
  have hW' := hW
  obtain ⟨p, q, hA0, hV, rfl, hfz, hnd⟩ := hW
  have hA : DataW.TrodAll enc Try.prog W 0 (fun _ => true) true Try.f7.params.toList args.toList ds p := hA0
  rw [Try.params7] at hA hval
  obtain ⟨v0, vs0, d0, ds0, p0, q0, hargs, rfl, rfl, h0, r0⟩ := trodAll_cons hA
  obtain ⟨v1, vs1, d1, ds1, p1, q1, rfl, rfl, rfl, h1, r1⟩ := trodAll_cons r0
  obtain ⟨rfl, rfl, rfl⟩ := trodAll_nil r1
  obtain rfl : args = #[v0, v1] := by cases args; simp_all
  obtain ⟨rfl, rfl⟩ := trodVars_none hV
  have k0 := h0
  have lt0 : ∀ x ∈ p0, x.block < W.heap.size := by obtain ⟨m, hm⟩ := k0; exact DataW.trod_lt m _ _ _ hm
  obtain ⟨a0, len0, cap0, rfl⟩ := okWide_slice Try.underlying25 (hval 0 25 v0 rfl rfl)
  obtain ⟨aa0, ll0, cc0, z0, ev0, hr0⟩ : ∃ A n c zs, Value.slice a0 len0 cap0 = .slice A n c ∧ TR W A n c zs ∧ ∀ z ∈ zs, In64 z.2.2 := by
    obtain ⟨fuel, hf⟩ := h0
    exact open_timers (by simpa [Value.cells] using hf)
  injection ev0 with ea0 eb0 ec0
  subst ea0 eb0 ec0
  obtain ⟨a1, rfl, rfl, rfl, w1⟩ := open_int Try.underlying3 (hval 1 3 v1 rfl rfl) h1
  clear hA0 hval0
  refine (walk a0 len0 cap0 z0 a1 W hr0.1 (Lib.hid hr0.2)).mono fun e W' ⟨he, bel⟩ => ?_
  subst he
  exact ⟨_, rfl, _, _, _, [], _, [], hW', trodAll_mk1 (shut_bool Try.underlying4 _), (trodAll_cons_mk (Below.trod laidOut (by kernel_rfl) (of_decide_eq_true (by kernel_rfl)) k0 bel lt0) (trodAll_cons_mk (shut_int Try.underlying3 w1) trodAll_mk0)), rfl, bel.frame _, fun h => by cases h⟩
theorem over : Rows.heapDropsRow.holds Try.pinned (OpenSpec.ofChange Rows.heapDropsSpec) :=
  OpenClaim.holds_of_wide 7 Try.f7 rfl rfl rfl rfl rfl rfl rfl ⟨rfl, rfl, rfl, rfl, rfl⟩ rfl rfl rfl rfl rfl (by kernel_rfl) Try.func7 (by kernel_rfl)
    (of_decide_eq_true (by kernel_rfl)) (by unfold Func.isWrapper; first | (rw [if_pos (by decide +kernel)]; kernel_rfl) | (rw [if_neg (by decide +kernel)]; exact ⟨rfl, rfl⟩))
    (fun os started H enc _ => lifted os started H enc)
theorem proved : Rows.HeapDropsSaid := over
end Go.Proofs.Ytjcljdehhckaeaa.heapDrops

