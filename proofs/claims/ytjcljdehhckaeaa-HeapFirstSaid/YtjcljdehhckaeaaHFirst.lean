/- HeapFirst: the first one is ahead of none of the others; popped it is gone, once, and nothing else is: the call answers true and changes nothing that was there; for every input. -/
import Derived.Test.YtjcljdehhckaeaaHKeep
import Derived.Test.YtjcljdehhckaeaaHFrame
import Derived.Test.YtjcljdehhckaeaaHAll
import Derived.Test.YtjcljdehhckaeaaHEq
namespace Go.Proofs.Ytjcljdehhckaeaa.heapFirst
open Go.ChangeShapes Go.WideShapes Go.ChangeAt Go.RowKit
set_option linter.unusedVariables false

theorem srt_pop {l l' : List Hp.Tm} {x : Hp.Tm} (hh : Hp.Heap l) (hx : l[0]? = some x) (hp : (x :: l').Perm l) : Hp.srt l = x :: Hp.srt l' ∧ ∀ z ∈ Hp.srt l', Hp.Le x z := by
  have hle : ∀ z ∈ Hp.srt l', Hp.Le x z := by
    intro z hz
    have h1 : z ∈ l := hp.mem_iff.1 (List.mem_cons_of_mem _ ((Hp.srt_perm l').mem_iff.1 hz))
    obtain ⟨j, hj⟩ := List.mem_iff_getElem?.1 h1
    exact Hp.heap_first hh hx j z hj
  refine ⟨Hp.srt_of (List.pairwise_cons.2 ⟨hle, Hp.srt_sorted l'⟩) ?_, hle⟩
  exact ((Hp.srt_perm l').cons x).trans hp
set_option maxRecDepth 100000 in
set_option maxHeartbeats 4000000 in
theorem walk (A : Option Addr) (n c : Nat) (zs : List Hp.Tm) (w : World) (h : TR w A n c zs) (h64 : Hid (∀ z ∈ zs, In64 z.2.2)) :
    Calls Try.prog 8 #[.slice A n c] w fun e w' => e = .returned (.bool true) ∧ Below w.heap.size w w' := by
  have H := Lib.hid h
  have hlen := h.len
  have hcap := h.cap
  have hmost := h.most
  clear h
  by_cases hn : 200 < n
  · have hn' : (200 : Int) < (n : Int) := by omega
    go_enter Try.func8, Try.ntmps8
    go_wp2_with fail
    refine (shown_any _).mono ?_
    rintro e w1 ⟨rfl, hb⟩
    go_wp2_with fail
    go_ret
    exact ⟨rfl, hb⟩
  · have hn' : (n : Int) ≤ 200 := by omega
    by_cases hn0 : n = 0
    · subst hn0
      go_enter Try.func8, Try.ntmps8
      go_wp2_with fail
      refine (shown_any _).mono ?_
      rintro e w1 ⟨rfl, hb⟩
      go_wp2_with fail
      go_ret
      exact ⟨rfl, hb⟩
    have hn2 : ((n : Int) == 0) = false := by rw [beq_eq_false_iff_ne]; omega
    go_enter Try.func8, Try.ntmps8
    go_wp2_with fail
    refine (shown_any _).mono ?_
    rintro e w1 ⟨rfl, hb⟩
    have O0 := Lib.hid (One.at (b := w1.heap.size) hb rfl)
    clear hb
    go_wp2_with fail
    obtain ⟨b, hbn⟩ : ∃ b, b = w1.heap.size := ⟨_, rfl⟩
    rw [← hbn] at O0 ⊢
    generalize w1.alloc (.cells #[.slice none 0 0] 27) = V at *
    clear hbn
    go_loopw [5] (fun i wr => ∃ (k : Nat) (l : List Hp.Tm), k ≤ n ∧ i = .int .i64 k ∧ Hid (l.Perm (zs.take k)) ∧ Hid (One w wr b l)) (fun i _ => n - (intOf i).toNat)
    case atStart => exact ⟨0, [], Nat.zero_le _, rfl, Lib.hid (List.Perm.refl _), O0⟩
    case round =>
      clear O0
      obtain ⟨i, l, hi, rfl, HP, O⟩ := hrel
      by_cases hlt : i < n
      · obtain ⟨x, hx⟩ : ∃ x, zs[i]? = some x := ⟨_, List.getElem?_eq_getElem (by omega)⟩
        obtain ⟨g, off, rfl, _, hc⟩ := H.out.cells (by omega)
        obtain ⟨c0, c1, c2⟩ := hc i x hx
        have c0 := O.out.below.cell (p := ⟨g, _, none⟩) (by assumption) |>.trans c0
        have c1 := O.out.below.cell (p := ⟨g, _, none⟩) (by assumption) |>.trans c1
        have c2 := O.out.below.cell (p := ⟨g, _, none⟩) (by assumption) |>.trans c2
        have HT := Lib.hid (show zs.take (i + 1) = zs.take i ++ [x] by rw [List.take_add_one, hx]; rfl)
        have hll : l.length = i := by rw [HP.out.length_eq, List.length_take]; omega
        obtain ⟨x1, x2, x3⟩ := x
        simp only at c0 c1 c2
        have i1 : (i : Int) < (n : Int) := by omega
        clear hc hx
        go_wp2_with fail
        refine (one_push O.out (by omega) x1 x2 x3).mono ?_
        rintro e w2 ⟨rfl, l', hp, hO⟩
        have HP2 := Lib.hid (show l'.Perm (zs.take (i + 1)) by rw [HT.out]; exact hp.trans (HP.out.append_right _))
        have O2 := Lib.hid hO
        clear hp hO O HP c0 c1 c2
        go_wp2_with fail
        go_roundw
        case rel => exact ⟨i + 1, l', by omega, by go_num, HP2, O2⟩
        case measure => simp [intOf]; omega
      · obtain rfl : i = n := by omega
        have hP := HP.out
        rw [List.take_of_length_le (by omega)] at hP
        have hll : l.length = i := by rw [hP.length_eq]; exact hlen
        have HPZ := Lib.hid hP
        clear HP hP hlt hi
        obtain ⟨x, hx⟩ : ∃ x, l[0]? = some x := ⟨_, List.getElem?_eq_getElem (by omega)⟩
        obtain ⟨k, hik⟩ : ∃ k, i = k + 1 := ⟨i - 1, by omega⟩
        have HIK := Lib.hid hik
        have hi0 : 0 < i := by omega
        clear hik
        obtain ⟨F, hm, hF⟩ := O.out.mem
        have HH := Lib.hid O.out.heap
        have HFw := Lib.hid hF
        have B0 := Lib.hid O.out.below
        have M0 := Lib.hid hm
        have HX := Lib.hid hx
        have HA := Lib.hid (all_any b F l wr hm (by omega))
        have hto := Lib.hid (show told l = .tuple #[.agg #[.int .i64 x.1, .int .i64 x.2.1, .int .i64 x.2.2], .bool true] by
          cases l with
          | nil => simp at hx
          | cons y t => simp at hx; subst hx; simp [told, tv])
        clear O hm hF hx
        go_wp2_with fail
        refine HA.out.mono ?_
        rintro e w2 ⟨A1, n1, c1, rfl, hr1, hf1, hb⟩
        obtain rfl : i = n1 := by rw [← hr1.len, Hp.srt_length]; exact hll.symm
        have M1 := Lib.hid (M0.out.step hb)
        have B1 := Lib.hid (B0.out.trans (hb.mono B0.out.size))
        have R1 := Lib.hid hr1
        have N1 := Lib.hid (show ∀ ad, A1 = some ad → ¬ F ad.block from fun ad e f => by have := hf1 ad e; have := M0.out.lt _ f; omega)
        have HFi := Lib.hid (first_any b F l w2 M1.out (by omega))
        clear hr1 hf1 hb HA
        go_wp2_with fail
        refine HFi.out.mono ?_
        rintro e w3 ⟨rfl, hb⟩
        rw [hto.out]
        obtain ⟨x1, x2, x3⟩ := x
        simp only
        obtain ⟨W4, hW4, y0, y1, y2, _, hb4⟩ := new3v w3 (.int .i64 x1) (.int .i64 x2) (.int .i64 x3) 30
        have hs3 := hb.size
        have hb := hb.trans (hb4.mono hb.size)
        have M4 := Lib.hid (M1.out.step hb)
        have B4 := Lib.hid (B1.out.trans (hb.mono B1.out.size))
        have R4 := Lib.hid (R1.out.step hb)
        have hX7 : ¬ F w3.heap.size := fun f => by
          have h1 := M1.out.lt _ f
          omega
        have HPo := Lib.hid (pop_any b F l (x1, x2, x3) W4 M4.out HH HX.out (by omega))
        subst hW4
        clear hb hb4 M1 B1 R1 HFi
        go_wp2_with fail
        generalize w3.alloc (.cells #[.int .i64 x1, .int .i64 x2, .int .i64 x3] 30) = W4 at *
        refine HPo.out.mono ?_
        rintro e w5 ⟨rfl, l', hp, hh', hm5, hk5⟩
        obtain ⟨hSP, hLE⟩ := srt_pop HH.out HX.out hp
        have hl' : l'.length = k := by have := hp.length_eq; have := HIK.out; simp at *; omega
        have y0 := hk5.cell y0 hX7
        have y1 := hk5.cell y1 hX7
        have y2 := hk5.cell y2 hX7
        have R5 := R4.out.kept hk5 N1.out
        have B5 := hk5.below B4.out HFw.out B4.out.size
        obtain ⟨W6, hW6, t0, t1, t2, _, hb6⟩ := new3v w5 (.int .i64 x1) (.int .i64 x2) (.int .i64 x3) 30
        have M6 := Lib.hid (hm5.step hb6)
        have B6 := Lib.hid (B5.trans (hb6.mono B5.size))
        have R6 := Lib.hid (R5.step hb6)
        have y0 := keepcell hb6 y0
        have y1 := keepcell hb6 y1
        have y2 := keepcell hb6 y2
        have HA6 := Lib.hid (all_any b F l' W6 M6.out (by have := HIK.out; omega))
        have SP := Lib.hid hSP
        have LE := Lib.hid hLE
        subst hW6
        clear hk5 hb6 hm5 hp hh' R5 B5 M4 B4 R4 HPo N1 hX7 HH hSP hLE
        unfold tv
        go_wp2_with fail
        generalize w5.alloc (.cells #[.int .i64 x1, .int .i64 x2, .int .i64 x3] 30) = W6 at *
        refine HA6.out.mono ?_
        rintro e w7 ⟨A2, n2, c2, rfl, hr2, hf2, hb⟩
        obtain rfl : n2 = k := by rw [← hr2.len, Hp.srt_length]; exact hl'
        have R7 := Lib.hid (R6.out.step hb)
        have B7 := Lib.hid (B6.out.trans (hb.mono B6.out.size))
        have T7 := Lib.hid hr2
        have y0 := keepcell hb y0
        have y1 := keepcell hb y1
        have y2 := keepcell hb y2
        have t0 := keepcell hb t0
        have t1 := keepcell hb t1
        have t2 := keepcell hb t2
        clear hr2 hf2 hb R6 B6 HA6 M6
        obtain ⟨b1, o1, rfl, _, hc1⟩ := R7.out.cells (by omega)
        obtain ⟨v0, v1, v2⟩ := hc1 0 (x1, x2, x3) (by rw [SP.out]; rfl)
        simp only [Nat.zero_mul, Nat.add_zero] at v0 v1 v2
        have HC1 := Lib.hid hc1
        have hE : ∀ W, (binOp .neq 30 (.agg #[.int .i64 x1, .int .i64 x2, .int .i64 x3]) (.agg #[.int .i64 x1, .int .i64 x2, .int .i64 x3])).run Try.prog W = .ok (.bool false) W := fun W => by rw [neq_tm]; simp
        have q5 : (i : Int) - 1 = (n2 : Int) := by have := HIK.out; omega
        have q1 : IntKind.i64.wrap ((i : Int) - 1) = (n2 : Int) := by rw [q5]; exact IntWalk.i64_in _ (by omega)
        have q2 : ((n2 : Int) != (n2 : Int)) = false := by simp
        have q3 : ((i : Int) != (i : Int)) = false := by simp
        have q4 : (0 : Int) < (i : Int) := by omega
        clear hc1
        go_wp2_with fail
        go_quiet (fail)
        have B8 := Lib.hid (below_drewN B7.out nq)
        have R8 := Lib.hid (R7.out.step (below_drewN (Below.refl _ _) nq))
        have T8 := Lib.hid (T7.out.step (below_drewN (Below.refl _ _) nq))
        have y0 := keepcell (below_drewN (Below.refl _ _) nq) y0
        have y1 := keepcell (below_drewN (Below.refl _ _) nq) y1
        have y2 := keepcell (below_drewN (Below.refl _ _) nq) y2
        generalize w7.drewN nq = V8 at *
        clear B7 R7 T7 HC1 v0 v1 v2 t0 t1 t2
        go_wp2_with fail
        go_loopw [12] (fun a wr => ∃ j : Nat, a = .int .i64 j ∧ j ≤ n2 ∧ Hid (Below V8.heap.size V8 wr)) (fun a _ => n2 - (intOf a).toNat)
        case atStart => exact ⟨0, rfl, by omega, Lib.hid (Below.refl _ _)⟩
        case round =>
          obtain ⟨j, rfl, hj, HW⟩ := hrel
          by_cases hlt : j < n2
          · obtain ⟨z, hz⟩ : ∃ z, (Hp.srt l')[j]? = some z := ⟨_, List.getElem?_eq_getElem (by rw [Hp.srt_length]; omega)⟩
            have hz1 : (Hp.srt l)[j + 1]? = some z := by rw [SP.out]; exact hz
            obtain ⟨b2, o2, rfl, _, hc2⟩ := T8.out.cells (by omega)
            obtain ⟨b1', o1', e, _, hc1⟩ := R8.out.cells (by omega)
            injection e with e
            injection e with e1 e2
            subst e1 e2
            obtain ⟨s0, s1, s2⟩ := hc2 j z hz
            obtain ⟨r0, r1, r2⟩ := hc1 (j + 1) z hz1
            have s0 := keepcell HW.out s0
            have s1 := keepcell HW.out s1
            have s2 := keepcell HW.out s2
            have r0 := keepcell HW.out r0
            have r1 := keepcell HW.out r1
            have r2 := keepcell HW.out r2
            have p0 := keepcell HW.out y0
            have p1 := keepcell HW.out y1
            have p2 := keepcell HW.out y2
            obtain ⟨r, hr⟩ : ∃ r, r = Hp.cmp (x1, x2, x3) z := ⟨_, rfl⟩
            have hr0 : r ≤ 0 := by rw [hr]; exact Hp.cmp_le.2 (LE.out z (List.mem_of_getElem? hz))
            have HC := Lib.hid (fun W => compare_val (x1, x2, x3) z r hr W)
            obtain ⟨z1, z2, z3⟩ := z
            simp only at s0 s1 s2 r0 r1 r2
            have hE2 : ∀ W, (binOp .neq 30 (.agg #[.int .i64 z1, .int .i64 z2, .int .i64 z3]) (.agg #[.int .i64 z1, .int .i64 z2, .int .i64 z3])).run Try.prog W = .ok (.bool false) W := fun W => by rw [neq_tm]; simp
            have j1 : (j : Int) < (n2 : Int) := by omega
            obtain ⟨q, hq⟩ : ∃ q, q = j + 1 := ⟨_, rfl⟩
            rw [← hq] at r0 r1 r2
            have e7 : (j : Int) + 1 = (q : Int) := by omega
            have e5 : IntKind.i64.wrap (q : Int) = (q : Int) := IntWalk.i64_in _ (by omega)
            have q0 : (0 : Int) ≤ (q : Int) := by omega
            have q5 : (q : Int) < (i : Int) := by have := HIK.out; omega
            clear hc1 hc2 hz hz1 hr hE hq
            go_wp2_with fail
            go_region_held3 (fun w' => w'.cell? ⟨w3.heap.size, 0, none⟩ = some (.int .i64 x1) ∧ w'.cell? ⟨w3.heap.size, 1, none⟩ = some (.int .i64 x2) ∧ w'.cell? ⟨w3.heap.size, 2, none⟩ = some (.int .i64 x3) ∧ w'.cell? ⟨b2, o2 + j * 3, none⟩ = some (.int .i64 z1) ∧ w'.cell? ⟨b2, o2 + j * 3 + 1, none⟩ = some (.int .i64 z2) ∧ w'.cell? ⟨b2, o2 + j * 3 + 2, none⟩ = some (.int .i64 z3) ∧ w'.cell? ⟨b1, o1 + q * 3, none⟩ = some (.int .i64 z1) ∧ w'.cell? ⟨b1, o1 + q * 3 + 1, none⟩ = some (.int .i64 z2) ∧ w'.cell? ⟨b1, o1 + q * 3 + 2, none⟩ = some (.int .i64 z3))
              (first
                | (go_split_ands; refine ⟨keepcell hbX (by assumption), keepcell hbX (by assumption), keepcell hbX (by assumption), keepcell hbX (by assumption), keepcell hbX (by assumption), keepcell hbX (by assumption), keepcell hbX (by assumption), keepcell hbX (by assumption), keepcell hbX (by assumption)⟩)
                | go_keep)
              (first
                | (go_at_call 19; refine (HC.out _).mono ?_; rintro e w9 ⟨rfl, hbX⟩))
            have HW2 := Lib.hid (HW.out.trans ((below_of_drew hbX).mono HW.out.size))
            clear hbX e5
            go_wp2_with fail
            go_roundw
            case rel => exact ⟨q, rfl, by omega, HW2⟩
            case measure => simp [intOf]; omega
          · obtain rfl : j = n2 := by omega
            go_wp2_with fail
            go_ret
            exact ⟨rfl, B8.out.trans (HW.out.mono B8.out.size)⟩
set_option maxRecDepth 100000 in
theorem lifted (os : Os) (started : os.Started) (H : Type) (enc : TypeId × Value → H) :
    ReturnsInHanded {} Try.checked os 8 .any (Rows.heapFirstSpec.pre6 enc Try.prog Try.f8 Rows.heapFirstRow.domain false) (Rows.heapFirstSpec.post enc Try.prog Try.f8 false true false false) := by
  refine returnsInHanded_of_change (C := Try.checked) own started (by kernel_rfl) Try.func8
    (ChangeSpec.witness6 (enc := enc) (C := Try.checked) false ⟨#[], #[.slice none 0 0], []⟩ 8 (by kernel_rfl) (by kernel_rfl) (by kernel_rfl) (by kernel_rfl)) ?_
  intro W base args ds gs before hval0 hW hcnd _
  have hval : ∀ (j : Nat) t v, Try.f8.params[j]? = some t → args[j]? = some v → Value.okWide Try.prog W .any base t v := hval0
  have hW' := hW
  obtain ⟨p, q, hA0, hV, rfl, hfz, hnd⟩ := hW
  have hA : DataW.TrodAll enc Try.prog W 0 (fun _ => true) true Try.f8.params.toList args.toList ds p := hA0
  rw [Try.params8] at hA hval
  obtain ⟨v0, vs0, d0, ds0, p0, q0, hargs, rfl, rfl, h0, r0⟩ := trodAll_cons hA
  obtain ⟨rfl, rfl, rfl⟩ := trodAll_nil r0
  obtain rfl : args = #[v0] := by cases args; simp_all
  obtain ⟨rfl, rfl⟩ := trodVars_none hV
  have k0 := h0
  have lt0 : ∀ x ∈ p0, x.block < W.heap.size := by obtain ⟨m, hm⟩ := k0; exact DataW.trod_lt m _ _ _ hm
  obtain ⟨a0, len0, cap0, rfl⟩ := okWide_slice Try.underlying25 (hval 0 25 v0 rfl rfl)
  obtain ⟨aa0, ll0, cc0, z0, ev0, hr0⟩ : ∃ A n c zs, Value.slice a0 len0 cap0 = .slice A n c ∧ TR W A n c zs ∧ ∀ z ∈ zs, In64 z.2.2 := by
    obtain ⟨fuel, hf⟩ := h0
    exact open_timers (by simpa [Value.cells] using hf)
  injection ev0 with ea0 eb0 ec0
  subst ea0 eb0 ec0
  clear hA0 hval0
  refine (walk a0 len0 cap0 z0 W hr0.1 (Lib.hid hr0.2)).mono fun e W' ⟨he, bel⟩ => ?_
  subst he
  exact ⟨_, rfl, _, _, _, [], _, [], hW', trodAll_mk1 (shut_bool Try.underlying4 _), (trodAll_cons_mk (Below.trod laidOut (by kernel_rfl) (of_decide_eq_true (by kernel_rfl)) k0 bel lt0) trodAll_mk0), rfl, bel.frame _, fun h => by cases h⟩
theorem over : Rows.heapFirstRow.holds Try.pinned (OpenSpec.ofChange Rows.heapFirstSpec) :=
  OpenClaim.holds_of_wide 8 Try.f8 rfl rfl rfl rfl rfl rfl rfl ⟨rfl, rfl, rfl, rfl, rfl⟩ rfl rfl rfl rfl rfl (by kernel_rfl) Try.func8 (by kernel_rfl)
    (of_decide_eq_true (by kernel_rfl)) (by unfold Func.isWrapper; first | (rw [if_pos (by decide +kernel)]; kernel_rfl) | (rw [if_neg (by decide +kernel)]; exact ⟨rfl, rfl⟩))
    (fun os started H enc _ => lifted os started H enc)
theorem proved : Rows.HeapFirstSaid := over
end Go.Proofs.Ytjcljdehhckaeaa.heapFirst

