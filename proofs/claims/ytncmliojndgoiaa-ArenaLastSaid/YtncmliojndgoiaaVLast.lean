/- ArenaLast: who is freed last is taken first: the call answers true and changes nothing that was there; for every input. -/
import Derived.Test.YtncmliojndgoiaaVCel
import Derived.Test.YtncmliojndgoiaaFrame
namespace Go.Proofs.Ytncmliojndgoiaa.arenaLast
open Go.ChangeShapes Go.WideShapes Go.ChangeAt Go.RowKit
set_option linter.unusedVariables false

/-- Sixty-four ever lived; those that were freed are these, in turn. -/
structure Some64 (a : Vp.Ar) (l : List Int) : Prop where
  ok : Vp.Ok a 64
  room : a.room = 64
  freed : a.freed = l
theorem Some64.lives {a : Vp.Ar} {l : List Int} (h : Some64 a l) {g : Int} (h1 : 1 ≤ g) (h2 : g ≤ 64) : a.live.contains g = !Tp.has l g := by
  have ha := (h.ok.all g).2 (by omega)
  have hb := h.ok.apart g
  rw [h.freed] at ha hb
  unfold Tp.has
  rw [Bool.eq_iff_iff, List.contains_iff_mem, Bool.not_eq_true', ← Bool.not_eq_true, List.contains_iff_mem]
  exact ⟨hb, fun hn => ha.resolve_right hn⟩
theorem Some64.free {a : Vp.Ar} {l : List Int} (h : Some64 a l) {g : Int} (h1 : 1 ≤ g) (h2 : g ≤ 64) (hl : Tp.has l g = false) : Some64 (Vp.free a g).1 (l ++ [g]) := by
  have hm : g ∈ a.live := by rw [← List.contains_iff_mem, h.lives h1 h2, hl]; rfl
  exact ⟨h.ok.free g, by rw [Vp.free_some hm]; exact h.room, by rw [Vp.free_some hm, ← h.freed]⟩
theorem Some64.stay {a : Vp.Ar} {l : List Int} (h : Some64 a l) {g : Int} (h1 : 1 ≤ g) (h2 : g ≤ 64) (hl : Tp.has l g = true) : (Vp.free a g).1 = a := by
  rw [Vp.free_none (by rw [← List.contains_iff_mem, h.lives h1 h2, hl]; simp)]
theorem Some64.take {a : Vp.Ar} {l : List Int} {g : Int} (h : Some64 a (l ++ [g])) : ∃ a' n, Vp.take a = (a', g, n, true) ∧ Some64 a' l := by
  have hp := Vp.Ok.pick_freed h.freed
  have hg := h.ok.in_freed (g := g) (by rw [h.freed]; simp)
  have hp0 : Vp.pick a ≠ 0 := by omega
  refine ⟨(Vp.take a).1, Vp.gen a g + 1, by rw [Vp.take_some hp0, hp], ?_, ?_, ?_⟩
  · have := h.ok.take hp0
    rwa [if_neg (by rw [h.freed]; simp)] at this
  · rw [Vp.take_some hp0]; exact h.room
  · rw [Vp.take_some hp0, hp, h.freed]
    exact Vp.without_last (by rw [← h.freed]; exact h.ok.freed)
theorem Some64.none {a : Vp.Ar} (h : Some64 a []) : Vp.take a = (a, 0, 0, false) := by
  have c := h.ok.count
  rw [h.freed] at c
  exact Vp.take_none (h.ok.full.2 (by rw [h.room]; simpa using c))
theorem Some64.len {a : Vp.Ar} {l : List Int} (h : Some64 a l) : l.length ≤ 64 := by
  have c := h.ok.count
  rw [h.freed] at c
  omega
set_option maxHeartbeats 4000000 in
set_option maxRecDepth 100000 in
theorem walk (A : Option Addr) (N c : Nat) (zs : List Int) (w : World) (hn : Hid (zs.length = N)) (hl : N ≤ 9223372036854775807) (hr : BRow w A zs) :
    Calls Try.prog 5 #[.slice A N c] w fun e w' => e = .returned (.bool true) ∧ Below w.heap.size w w' := by
  have HR := Lib.hid hr
  obtain ⟨i0, hi, hz0, hz1, hz2⟩ := info_parts info_int
  clear hr
  go_enter Try.func5, Try.ntmps5
  go_wp2_with fail
  refine (shown_any _).mono ?_
  rintro e w1 ⟨rfl, hb1⟩
  have B1 := Lib.hid hb1
  clear hb1
  go_wp2_with fail
  refine (new_yes 64 w1 (by omega) (by omega)).mono ?_
  intro e w2 hN
  have C1 := Lib.hid (VC.new B1.out hN)
  obtain ⟨rfl, hx⟩ := hN
  clear hx
  generalize w1.heap.size + 1 = b at C1 ⊢
  generalize (fun k => k = w1.heap.size ∨ k = b) = F at C1
  have F1 := Lib.hid (Vp.Fresh.new 64)
  go_wp2_with fail
  go_loopw [6] (fun i wr => ∃ (k : Nat) (a : Vp.Ar), k ≤ 64 ∧ i = .int .i64 k ∧ Hid (VC w wr b F a k) ∧ Hid (Vp.Fresh a 64 k)) (fun i _ => 64 - (intOf i).toNat)
  case atStart => exact ⟨0, Vp.new 64, Nat.zero_le _, rfl, C1, F1⟩
  case round =>
    obtain ⟨k, a, hk, rfl, HC, HF⟩ := hrel
    by_cases hkn : k < 64
    · obtain ⟨a', ht, hf'⟩ := HF.out.take hkn
      obtain ⟨tv, ta⟩ := tookV_of ht
      have HF' := Lib.hid hf'
      have HT := Lib.hid tv
      have HTA := Lib.hid ta
      clear hf' tv ta ht
      go_wp2_with fail
      refine (take_any b F a k wr HC.out.ar (by omega)).mono ?_
      intro e w3 ht
      have C3 := Lib.hid (HC.out.took ht)
      obtain ⟨rfl, hx⟩ := ht
      rw [HTA.out] at C3
      rw [HT.out]
      clear hx
      go_wp2_with fail
      go_roundw
      case rel => exact ⟨k + 1, a', by omega, by go_num, C3, HF'⟩
      case measure => simp [intOf]; omega
    · obtain rfl : k = 64 := by omega
      have S0 := Lib.hid (show Some64 a [] from ⟨HF.out.ok, HF.out.room, HF.out.freed⟩)
      have C0 := Lib.hid (show VC w wr b F a 64 from HC.out)
      have O0 := Lib.hid (VOwn.nil wr F w.heap.size)
      obtain ⟨wo, rfl⟩ : ∃ wo : World, wo = wr := ⟨_, rfl⟩
      clear HC HF
      rw [show ((64 : Nat) : Int) = 64 from rfl]
      go_wp2_with fail
      go_loopw [7, 8] (fun v i wr => ∃ (j nf : Nat) (F : Nat → Prop) (a : Vp.Ar) (l : List Int), j ≤ N ∧ j ≤ 64 ∧ i = .int .i64 j ∧ Hid (VC w wr b F a 64) ∧ Hid (Some64 a l) ∧ Hid (VOwn wr F w.heap.size v nf l)) (fun _ i _ => 64 - (intOf i).toNat)
      case atStart => exact ⟨0, 0, F, a, [], Nat.zero_le _, Nat.zero_le _, rfl, C0, S0, O0⟩
      case round =>
        obtain ⟨j, nf, F, a, l, hj, hj2, rfl, HC, HS, HO⟩ := hrel
        by_cases hlt : j < N
        · by_cases h64 : j < 64
          · obtain ⟨z, hz⟩ : ∃ z, zs[j]? = some z := ⟨_, List.getElem?_eq_getElem (by have := hn.out; omega)⟩
            obtain ⟨b', off, hAA, hlt', hc, y0, y1⟩ := HR.out j z hz
            subst hAA
            have hcw : wr.cell? ⟨b', off + j, none⟩ = some (.int .u8 z) := (HC.out.below.cell (p := ⟨b', off + j, none⟩) hlt').trans hc
            obtain ⟨r, m1, hrn⟩ := mod_nat 64 y0 (by omega)
            have m1 : z.tmod 64 = (r : Int) := m1
            have m2 : z % 64 = (r : Int) := by rw [← m1, Int.tmod_eq_emod_of_nonneg y0]
            obtain ⟨Av, cv, hv, _⟩ := HO.out.row
            subst hv
            have hnf : nf ≤ 64 := by have h1 := HS.out.len; have h2 := own_len HO.out.own; omega
            clear hz hc
            go_wp2_with fail
            obtain ⟨g, hg⟩ : ∃ g : Int, g = 1 + (r : Int) := ⟨_, rfl⟩
            rw [← hg]
            have hg1 : 1 ≤ g ∧ g ≤ 64 := by omega
            obtain ⟨hg1, hg2⟩ := hg1
            clear hg m1 m2
            refine (free_any b F a _ g wr HC.out.ar (in64_small (by omega) (by omega))).mono ?_
            rintro e w5 ⟨rfl, F5, h1, h2, h3⟩
            have C5 := Lib.hid (HC.out.freed h1 h2 h3)
            have O5 := Lib.hid (HO.out.kept h2 h3)
            rw [HS.out.lives hg1 hg2]
            clear h1 h2 h3 HO hcw
            obtain ⟨A2, c2, hv2, R5⟩ := O5.out.row
            injection hv2 with ea eb ec
            subst ea ec
            clear eb
            cases hh : Tp.has l g with
            | true =>
              rw [HS.out.stay hg1 hg2 hh] at C5
              have HH := Lib.hid hh
              have R5' := Lib.hid R5
              clear hh R5
              go_wp2_with fail
              refine (in_any Av nf cv l g w5 w5.heap.size (Lib.hid R5'.out.len) (by omega) R5'.out.row).mono ?_
              rintro e w6 ⟨rfl, rfl⟩
              rw [HH.out]
              go_wp2_with fail
              refine (in_any Av nf cv l g w6 w6.heap.size (Lib.hid R5'.out.len) (by omega) R5'.out.row).mono ?_
              rintro e w7 ⟨rfl, rfl⟩
              rw [HH.out]
              go_wp2_with fail
              go_roundw
              case rel => exact ⟨j + 1, nf, F5, a, l, by omega, by omega, by go_num, C5, HS, O5⟩
              case measure => simp [intOf]; omega
            | false =>
              have HS5 := Lib.hid (HS.out.free hg1 hg2 hh)
              have HH := Lib.hid hh
              have R5' := Lib.hid R5
              clear hh R5
              go_wp2_with fail
              refine (in_any Av nf cv l g w5 w5.heap.size (Lib.hid R5'.out.len) (by omega) R5'.out.row).mono ?_
              rintro e w6 ⟨rfl, rfl⟩
              rw [HH.out]
              go_wp2_with fail
              refine (in_any Av nf cv l g w6 w6.heap.size (Lib.hid R5'.out.len) (by omega) R5'.out.row).mono ?_
              rintro e w7 ⟨rfl, rfl⟩
              rw [HH.out]
              have ho := O5.out.own
              go_wp2_with (at_builtin; refine wpList_append_lies _ rfl _ _ 22 rfl w.heap.size 3 i0 (.int .i64 0) 1 8 Try.underlying22 hi hz0 hz1 hz2 rfl (by decide) (.slice Av nf cv) nf (l.map (Value.int .i64)) rfl (ho.alloc _) ⟨w7.heap.size, 0, none⟩ 1 1 [.int .i64 g] rfl rfl (one_new _ _) (ints_oneCell .i64 [g]) (by decide) (by unfold maxLen; omega) (by omega) (by have := C5.out.below.size; simp; omega) _ rfl ?_; intro gg cap w8 ho8 hg8 hat hlt8)
              have O8 := Lib.hid (O5.out.more C5.out.ar.lt ho8 hat)
              have C8 := Lib.hid ((C5.out.step (below_new w7 (.cells #[.int .i64 g] 3))).grown hg8 O5.out.inb)
              clear ho ho8 hg8 hat hlt8
              go_wp2_with fail
              go_roundw
              case rel => exact ⟨j + 1, nf + 1, F5, _, l ++ [g], by omega, by omega, by go_num, C8, HS5, O8⟩
              case measure => simp [intOf]; omega
          · obtain rfl : j = 64 := by omega
            rw [show ((64 : Nat) : Int) = 64 from rfl]
            obtain ⟨Av, cv, hv, _⟩ := HO.out.row
            subst hv
            have hnf : nf ≤ 64 := by have h1 := HS.out.len; have h2 := own_len HO.out.own; omega
            have C0 := Lib.hid (show VC w wr b F a (128 - (nf : Int)) from ⟨HC.out.ar.mono (by omega), HC.out.low, HC.out.below⟩)
            have HLEN := Lib.hid (own_len HO.out.own)
            have S0 := Lib.hid (show Some64 a (l.take nf) by rw [List.take_of_length_le (by rw [own_len HO.out.own]; exact Nat.le_refl _)]; exact HS.out)
            obtain ⟨wo, rfl⟩ : ∃ wo : World, wo = wr := ⟨_, rfl⟩
            clear HC HS
            go_wp2_with fail
            go_loopw [10] (fun i wr => ∃ (j : Nat) (a : Vp.Ar), j ≤ nf ∧ i = .int .i64 (j - 1) ∧ Hid (VC w wr b F a (128 - j)) ∧ Hid (Some64 a (l.take j)) ∧ Hid (VOwn wr F w.heap.size (.slice Av nf cv) nf l)) (fun i _ => (intOf i + 1).toNat)
            case atStart => exact ⟨nf, a, Nat.le_refl _, rfl, C0, S0, HO⟩
            case round =>
              obtain ⟨j, a', hj, rfl, HC, HS, HO'⟩ := hrel
              by_cases hj0 : j = 0
              · subst hj0
                obtain ⟨tv, ta⟩ := tookV_of HS.out.none
                have HT := Lib.hid tv
                have HTA := Lib.hid ta
                clear tv ta
                go_wp2_with fail
                refine (take_any b F a' _ wr HC.out.ar (by omega)).mono ?_
                intro e w5 ht
                have C5 := Lib.hid (HC.out.took ht)
                obtain ⟨rfl, hx⟩ := ht
                rw [HT.out]
                clear hx
                go_wp2_with fail
                go_ret
                exact ⟨rfl, C5.out.below⟩
              · obtain ⟨i, rfl⟩ : ∃ i, j = i + 1 := ⟨j - 1, by omega⟩
                obtain ⟨g, hg⟩ : ∃ g, l[i]? = some g := ⟨_, List.getElem?_eq_getElem (by rw [HLEN.out]; omega)⟩
                have hs : l.take (i + 1) = l.take i ++ [g] := by rw [List.take_add_one, hg]; rfl
                rw [hs] at HS
                obtain ⟨a2, nn, ht, hs2⟩ := HS.out.take
                obtain ⟨tv, ta⟩ := tookV_of ht
                have HT := Lib.hid tv
                have HTA := Lib.hid ta
                have HS2 := Lib.hid hs2
                have HLG := Lib.hid hg
                have hi1 : ((i + 1 : Nat) : Int) - 1 = (i : Int) := by omega
                rw [hi1]
                have x1 : (g != g) = false := by simp
                clear tv ta ht hs2 hs hg
                go_wp2_with fail
                refine (take_any b F a' _ wr HC.out.ar (by omega)).mono ?_
                intro e w5 ht
                have C5 := Lib.hid (HC.out.took ht)
                have O5 := Lib.hid (HO'.out.kept ht.2.2 (fun j hj => .inl hj))
                obtain ⟨rfl, hx⟩ := ht
                rw [HTA.out] at C5
                rw [HT.out]
                clear hx
                obtain ⟨A2, c2, hv2, R5⟩ := O5.out.row
                injection hv2 with ea eb ec
                subst ea ec
                obtain ⟨b9, o9, rfl, hb9, hc9⟩ := R5.cells (by omega)
                have c9 := hc9 i g HLG.out
                clear eb R5 hc9
                go_wp2_with fail
                go_roundw
                case rel => exact ⟨i, a2, by omega, by go_num, Lib.hid (by have := C5.out; rw [show 128 - ((i + 1 : Nat) : Int) + 1 = 128 - (i : Int) by omega] at this; exact this), HS2, O5⟩
                case measure => simp [intOf]
        · obtain rfl : j = N := by omega
          obtain ⟨Av, cv, hv, _⟩ := HO.out.row
          subst hv
          have hnf : nf ≤ 64 := by have h1 := HS.out.len; have h2 := own_len HO.out.own; omega
          have C0 := Lib.hid (show VC w wr b F a (128 - (nf : Int)) from ⟨HC.out.ar.mono (by omega), HC.out.low, HC.out.below⟩)
          have HLEN := Lib.hid (own_len HO.out.own)
          have S0 := Lib.hid (show Some64 a (l.take nf) by rw [List.take_of_length_le (by rw [own_len HO.out.own]; exact Nat.le_refl _)]; exact HS.out)
          obtain ⟨wo, rfl⟩ : ∃ wo : World, wo = wr := ⟨_, rfl⟩
          clear HC HS
          go_wp2_with fail
          go_loopw [10] (fun i wr => ∃ (j : Nat) (a : Vp.Ar), j ≤ nf ∧ i = .int .i64 (j - 1) ∧ Hid (VC w wr b F a (128 - j)) ∧ Hid (Some64 a (l.take j)) ∧ Hid (VOwn wr F w.heap.size (.slice Av nf cv) nf l)) (fun i _ => (intOf i + 1).toNat)
          case atStart => exact ⟨nf, a, Nat.le_refl _, rfl, C0, S0, HO⟩
          case round =>
            obtain ⟨j, a', hj, rfl, HC, HS, HO'⟩ := hrel
            by_cases hj0 : j = 0
            · subst hj0
              obtain ⟨tv, ta⟩ := tookV_of HS.out.none
              have HT := Lib.hid tv
              have HTA := Lib.hid ta
              clear tv ta
              go_wp2_with fail
              refine (take_any b F a' _ wr HC.out.ar (by omega)).mono ?_
              intro e w5 ht
              have C5 := Lib.hid (HC.out.took ht)
              obtain ⟨rfl, hx⟩ := ht
              rw [HT.out]
              clear hx
              go_wp2_with fail
              go_ret
              exact ⟨rfl, C5.out.below⟩
            · obtain ⟨i, rfl⟩ : ∃ i, j = i + 1 := ⟨j - 1, by omega⟩
              obtain ⟨g, hg⟩ : ∃ g, l[i]? = some g := ⟨_, List.getElem?_eq_getElem (by rw [HLEN.out]; omega)⟩
              have hs : l.take (i + 1) = l.take i ++ [g] := by rw [List.take_add_one, hg]; rfl
              rw [hs] at HS
              obtain ⟨a2, nn, ht, hs2⟩ := HS.out.take
              obtain ⟨tv, ta⟩ := tookV_of ht
              have HT := Lib.hid tv
              have HTA := Lib.hid ta
              have HS2 := Lib.hid hs2
              have HLG := Lib.hid hg
              have hi1 : ((i + 1 : Nat) : Int) - 1 = (i : Int) := by omega
              rw [hi1]
              have x1 : (g != g) = false := by simp
              clear tv ta ht hs2 hs hg
              go_wp2_with fail
              refine (take_any b F a' _ wr HC.out.ar (by omega)).mono ?_
              intro e w5 ht
              have C5 := Lib.hid (HC.out.took ht)
              have O5 := Lib.hid (HO'.out.kept ht.2.2 (fun j hj => .inl hj))
              obtain ⟨rfl, hx⟩ := ht
              rw [HTA.out] at C5
              rw [HT.out]
              clear hx
              obtain ⟨A2, c2, hv2, R5⟩ := O5.out.row
              injection hv2 with ea eb ec
              subst ea ec
              obtain ⟨b9, o9, rfl, hb9, hc9⟩ := R5.cells (by omega)
              have c9 := hc9 i g HLG.out
              clear eb R5 hc9
              go_wp2_with fail
              go_roundw
              case rel => exact ⟨i, a2, by omega, by go_num, Lib.hid (by have := C5.out; rw [show 128 - ((i + 1 : Nat) : Int) + 1 = 128 - (i : Int) by omega] at this; exact this), HS2, O5⟩
              case measure => simp [intOf]
set_option maxRecDepth 100000 in
theorem lifted (os : Os) (started : os.Started) (H : Type) (enc : TypeId × Value → H) :
    ReturnsInHanded {} Try.checked os 5 .any (Rows.arenaLastSpec.pre6 enc Try.prog Try.f5 Rows.arenaLastRow.domain false) (Rows.arenaLastSpec.post enc Try.prog Try.f5 false true false false) := by
  refine returnsInHanded_of_change (C := Try.checked) own started (by kernel_rfl) Try.func5
    (ChangeSpec.witness6 (enc := enc) (C := Try.checked) false ⟨#[], #[.slice none 0 0], []⟩ 8 (by kernel_rfl) (by kernel_rfl) (by kernel_rfl) (by kernel_rfl)) ?_
  intro W base args ds gs before hval0 hW hcnd _
  have hval : ∀ (j : Nat) t v, Try.f5.params[j]? = some t → args[j]? = some v → Value.okWide Try.prog W .any base t v := hval0
  have hW' := hW
  obtain ⟨p, q, hA0, hV, rfl, hfz, hnd⟩ := hW
  have hA : DataW.TrodAll enc Try.prog W 0 (fun _ => true) true Try.f5.params.toList args.toList ds p := hA0
  rw [Try.params5] at hA hval
  obtain ⟨v0, vs0, d0, ds0, p0, q0, hargs, rfl, rfl, h0, r0⟩ := trodAll_cons hA
  obtain ⟨rfl, rfl, rfl⟩ := trodAll_nil r0
  obtain rfl : args = #[v0] := by cases args; simp_all
  obtain ⟨rfl, rfl⟩ := trodVars_none hV
  have k0 := h0
  have lt0 : ∀ x ∈ p0, x.block < W.heap.size := by obtain ⟨m, hm⟩ := k0; exact DataW.trod_lt m _ _ _ hm
  obtain ⟨a0, len0, cap0, rfl⟩ := okWide_slice Try.underlying44 (hval 0 44 v0 rfl rfl)
  obtain ⟨aa0, ll0, cc0, z0, ev0, hn0, hr0⟩ : ∃ A n c zs, Value.slice a0 len0 cap0 = .slice A n c ∧ (zs.length = n ∧ n ≤ 9223372036854775807) ∧ BRow W A zs := by
    obtain ⟨fuel, hf⟩ := h0
    exact open_bytes (by simpa [Value.cells] using hf)
  injection ev0 with ea0 eb0 ec0
  subst ea0 eb0 ec0
  clear hA0 hval0
  refine (walk a0 len0 cap0 z0 W (Lib.hid hn0.1) hn0.2 hr0).mono fun e W' ⟨he, bel⟩ => ?_
  subst he
  exact ⟨_, rfl, _, _, _, [], _, [], hW', trodAll_mk1 (shut_bool Try.underlying4 _), (trodAll_cons_mk (Below.trod laidOut (by kernel_rfl) (of_decide_eq_true (by kernel_rfl)) k0 bel lt0) trodAll_mk0), rfl, bel.frame _, fun h => by cases h⟩
theorem over : Rows.arenaLastRow.holds Try.pinned (OpenSpec.ofChange Rows.arenaLastSpec) :=
  OpenClaim.holds_of_wide 5 Try.f5 rfl rfl rfl rfl rfl rfl rfl ⟨rfl, rfl, rfl, rfl, rfl⟩ rfl rfl rfl rfl rfl (by kernel_rfl) Try.func5 (by kernel_rfl)
    (of_decide_eq_true (by kernel_rfl)) (by unfold Func.isWrapper; first | (rw [if_pos (by decide +kernel)]; kernel_rfl) | (rw [if_neg (by decide +kernel)]; exact ⟨rfl, rfl⟩))
    (fun os started H enc _ => lifted os started H enc)
theorem proved : Rows.ArenaLastSaid := over
end Go.Proofs.Ytncmliojndgoiaa.arenaLast

