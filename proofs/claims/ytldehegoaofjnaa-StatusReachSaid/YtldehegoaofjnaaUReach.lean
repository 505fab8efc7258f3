/- StatusReach: each status leads to another one, never to itself; from each one each other one is reached, in four steps at most; from no number that is none: the call answers true and changes nothing that was there; for every input. -/
import Derived.Test.YtldehegoaofjnaaUShown
import Derived.Test.YtldehegoaofjnaaFrame
namespace Go.Proofs.Ytldehegoaofjnaa.statusReach
open Go.ChangeShapes Go.WideShapes Go.ChangeAt Go.RowKit
set_option linter.unusedVariables false

/-- Five booleans in a block of the call's own. -/
structure Th (w wr : World) (D : Nat) (t : List Bool) : Prop where
  len : t.length = 5
  cell : ∀ j b, t[j]? = some b → wr.cell? ⟨D, j, none⟩ = some (.bool b)
  free : ∀ j, j < 5 → wr.frozen? ⟨D, j, none⟩ = false
  low : w.heap.size ≤ D
  below : Below w.heap.size w wr
theorem Th.set {w wr : World} {D : Nat} {t : List Bool} (h : Th w wr D t) (j : Nat) (hj : j < 5) (b : Bool) : Th w (wr.setCell ⟨D, j, none⟩ (.bool b)) D (t.set j b) := by
  refine ⟨by rw [List.length_set]; exact h.len, fun i c hi => ?_, fun i hi => ?_, h.low, h.below.setCell h.low _⟩
  · by_cases e : i = j
    · subst e
      rw [List.getElem?_set_self (by rw [h.len]; exact hj)] at hi
      injection hi with hi
      subst hi
      obtain ⟨c, hc⟩ : ∃ c, t[i]? = some c := ⟨_, List.getElem?_eq_getElem (by rw [h.len]; exact hj)⟩
      exact World.cell?_setCell_same' _ _ _ (by rw [h.cell i c hc]; rfl)
    · rw [List.getElem?_set_ne (by omega)] at hi
      rw [World.cell?_setCell_other _ _ _ _ (fun q => by injection q with _ q; omega)]
      exact h.cell i c hi
  · rw [World.frozen?_setCell]; exact h.free i hi
theorem Th.new {w wr : World} (hb : Below w.heap.size w wr) (T : TypeId) (t : List Bool) (hl : t.length = 5) : Th w (wr.alloc (.cells (t.map Value.bool).toArray T)) wr.heap.size t := by
  refine ⟨hl, fun j b hj => ?_, fun j hj => ?_, hb.size, hb.alloc hb.size _⟩
  · rw [World.cell?_alloc_at _ _ _ _ rfl]
    simp [hj]
  · rw [World.frozen?_alloc_at _ _ _ _ rfl]
theorem five {t : List Bool} (h : t.length = 5) : ∃ b0 b1 b2 b3 b4, t = [b0, b1, b2, b3, b4] := by
  match t, h with
  | [b0, b1, b2, b3, b4], _ => exact ⟨b0, b1, b2, b3, b4, rfl⟩
theorem Th.step {w wr w' : World} {D : Nat} {t : List Bool} (h : Th w wr D t) (hb : Below wr.heap.size wr w') : Th w w' D t :=
  ⟨h.len, fun j b hj => keepcell hb (h.cell j b hj), fun j hj => by
    obtain ⟨c, hc⟩ : ∃ c, t[j]? = some c := ⟨_, List.getElem?_eq_getElem (by rw [h.len]; exact hj)⟩
    exact keepfree hb (h.cell j c hc) (h.free j hj), h.low, h.below.trans (hb.mono h.below.size)⟩
theorem Th.other {w wr : World} {D E : Nat} {t : List Bool} (h : Th w wr E t) (he : E ≠ D) (hD : w.heap.size ≤ D) (j : Nat) (v : Value) : Th w (wr.setCell ⟨D, j, none⟩ v) E t :=
  ⟨h.len, fun i b hi => by rw [World.cell?_setCell_other _ _ _ _ (fun q => he (by injection q with q; exact q.symm))]; exact h.cell i b hi, fun i hi => by rw [World.frozen?_setCell]; exact h.free i hi, h.low, h.below.setCell hD _⟩
/-- One place more: who is reached already, or by one step from who was. -/
def one (was : List Bool) (i k : Nat) (t : List Bool) : List Bool := t.set k (t.getD k false || (was.getD i false && Sp.may i k))
def row (was : List Bool) (i : Nat) : Nat → List Bool → List Bool
  | 0, t => t
  | k + 1, t => one was i k (row was i k t)
def rows (was : List Bool) : Nat → List Bool → List Bool
  | 0, t => t
  | i + 1, t => row was i 5 (rows was i t)
def reach (a : Nat) : Nat → List Bool
  | 0 => (List.replicate 5 false).set a true
  | s + 1 => rows (reach a s) 5 (reach a s)
theorem reach_all : ∀ a, a < 5 → reach a 4 = [true, true, true, true, true] := by decide +kernel
theorem no_self : ∀ k, k < 5 → Sp.may (k : Nat) (k : Nat) = false := by decide +kernel
set_option maxHeartbeats 4000000 in
set_option maxRecDepth 100000 in
theorem walk (odd : Int) (w : World) :
    Calls Try.prog 4 #[.int .i64 odd] w fun e w' => e = .returned (.bool true) ∧ Below w.heap.size w w' := by
  go_enter Try.func4, Try.ntmps4
  go_wp2_with fail
  refine (shown_any _).mono ?_
  rintro e w1 ⟨rfl, hb1⟩
  have HB1 := Lib.hid hb1
  clear hb1
  go_wp2_with fail
  go_loopw [4] (fun i wr => ∃ a : Nat, a ≤ 5 ∧ i = .int .i64 a ∧ Hid (Below w.heap.size w wr)) (fun i _ => 5 - (intOf i).toNat)
  case atStart => exact ⟨0, Nat.zero_le _, rfl, HB1⟩
  case round =>
    obtain ⟨a, ha, rfl, HB⟩ := hrel
    by_cases hlt : a < 5
    · have HT := Lib.hid (Th.new HB.out 30 (reach a 0) (by simp [reach]))
      have e0 : (reach a 0).map Value.bool = [Value.bool false, Value.bool false, Value.bool false, Value.bool false, Value.bool false].set a (Value.bool true) := by unfold reach; rw [List.map_set]; rfl
      rw [e0] at HT
      have hal : (a : Int) < 5 := by omega
      clear e0
      go_wp2_with fail
      obtain ⟨D, hD⟩ : ∃ D, D = wr.heap.size := ⟨_, rfl⟩
      rw [← hD] at HT ⊢
      generalize wr.alloc (.cells ([Value.bool false, Value.bool false, Value.bool false, Value.bool false, Value.bool false].set a (Value.bool true)).toArray 30) = wo at HT ⊢
      clear hD
      go_loopw [6] (fun i wr => ∃ (s : Nat), s ≤ 4 ∧ i = .int .i64 s ∧ Hid (Th w wr D (reach a s))) (fun i _ => 4 - (intOf i).toNat)
      case atStart => exact ⟨0, Nat.zero_le _, rfl, HT⟩
      case round =>
        obtain ⟨s, hs, rfl, hT⟩ := hrel
        by_cases hs4 : s < 4
        · obtain ⟨t0, ht0⟩ : ∃ t0, reach a s = t0 := ⟨_, rfl⟩
          rw [ht0] at hT
          obtain ⟨b0, b1, b2, b3, b4, hb⟩ := five hT.out.len
          have c0 := hT.out.cell 0 b0 (by rw [hb]; rfl)
          have c1 := hT.out.cell 1 b1 (by rw [hb]; rfl)
          have c2 := hT.out.cell 2 b2 (by rw [hb]; rfl)
          have c3 := hT.out.cell 3 b3 (by rw [hb]; rfl)
          have c4 := hT.out.cell 4 b4 (by rw [hb]; rfl)
          have HT0 := Lib.hid ht0
          have HBB := Lib.hid hb
          clear ht0 hb
          have hs4i : (s : Int) < 4 := by omega
          have hDE : D ≠ wr.heap.size := by have : D < wr.heap.size := World.block_lt_of_cell? (a := ⟨D, 0, none⟩) _ c0; omega
          have HE := Lib.hid (Th.new hT.out.below 30 t0 hT.out.len)
          have HD := Lib.hid (hT.out.step (below_new wr (.cells (t0.map Value.bool).toArray 30)))
          rw [show (t0.map Value.bool).toArray = #[Value.bool b0, Value.bool b1, Value.bool b2, Value.bool b3, Value.bool b4] by rw [HBB.out]; rfl] at HE HD
          go_wp2_with fail
          obtain ⟨E, hE⟩ : ∃ E, E = wr.heap.size := ⟨_, rfl⟩
          rw [← hE] at HE hDE ⊢
          generalize wr.alloc (.cells #[Value.bool b0, Value.bool b1, Value.bool b2, Value.bool b3, Value.bool b4] 30) = wi at HE HD ⊢
          clear hE c0 c1 c2 c3 c4 HBB hT
          go_loopw [8] (fun i wr => ∃ (i0 : Nat), i0 ≤ 5 ∧ i = .int .i64 i0 ∧ Hid (Th w wr D (rows t0 i0 t0)) ∧ Hid (Th w wr E t0)) (fun i _ => 5 - (intOf i).toNat)
          case atStart => exact ⟨0, Nat.zero_le _, rfl, HD, HE⟩
          case round =>
            obtain ⟨i0, hi, rfl, hTD, hTE⟩ := hrel
            by_cases hi5 : i0 < 5
            · have hi5i : (i0 : Int) < 5 := by omega
              go_wp2_with fail
              go_loopw [9] (fun k wr => ∃ (k0 : Nat), k0 ≤ 5 ∧ k = .int .i64 k0 ∧ Hid (Th w wr D (row t0 i0 k0 (rows t0 i0 t0))) ∧ Hid (Th w wr E t0)) (fun k _ => 5 - (intOf k).toNat)
              case atStart => exact ⟨0, Nat.zero_le _, rfl, hTD, hTE⟩
              case round =>
                obtain ⟨k0, hk, rfl, hRD, hRE⟩ := hrel
                by_cases hk5 : k0 < 5
                · have hk5i : (k0 : Int) < 5 := by omega
                  obtain ⟨T, hT⟩ : ∃ T, row t0 i0 k0 (rows t0 i0 t0) = T := ⟨_, rfl⟩
                  have HN := Lib.hid (show row t0 i0 (k0 + 1) (rows t0 i0 t0) = one t0 i0 k0 T by rw [← hT]; rfl)
                  rw [hT] at hRD
                  obtain ⟨x, hx⟩ : ∃ x, T[k0]? = some x := ⟨_, List.getElem?_eq_getElem (by rw [hRD.out.len]; exact hk5)⟩
                  obtain ⟨y, hy⟩ : ∃ y, t0[i0]? = some y := ⟨_, List.getElem?_eq_getElem (by rw [hRE.out.len]; exact hi5)⟩
                  have cx := hRD.out.cell k0 x hx
                  have cy := hRE.out.cell i0 y hy
                  have fx := hRD.out.free k0 hk5
                  have HO := Lib.hid (show one t0 i0 k0 T = T.set k0 (x || (y && Sp.may i0 k0)) by unfold one; rw [List.getD_eq_getElem?_getD, hx, List.getD_eq_getElem?_getD, hy]; rfl)
                  clear hT hx hy
                  cases x
                  · cases y
                    · have HD2 := Lib.hid (hRD.out.set k0 hk5 false)
                      have HE2 := Lib.hid (hRE.out.other (Ne.symm hDE) hRD.out.low k0 (.bool false))
                      rw [show T.set k0 false = row t0 i0 (k0 + 1) (rows t0 i0 t0) by rw [HN.out, HO.out]; rfl] at HD2
                      go_wp2_with fail
                      go_roundw
                      case rel => exact ⟨k0 + 1, by omega, by go_num, HD2, HE2⟩
                      case measure => simp [intOf]; omega
                    · have HD2 := Lib.hid (hRD.out.set k0 hk5 (Sp.may i0 k0))
                      have HE2 := Lib.hid (hRE.out.other (Ne.symm hDE) hRD.out.low k0 (.bool (Sp.may i0 k0)))
                      rw [show T.set k0 (Sp.may i0 k0) = row t0 i0 (k0 + 1) (rows t0 i0 t0) by rw [HN.out, HO.out]; rfl] at HD2
                      go_wp2_with fail
                      refine (may_any _ _ _).mono ?_
                      rintro e w3 ⟨rfl, rfl⟩
                      go_wp2_with fail
                      go_roundw
                      case rel => exact ⟨k0 + 1, by omega, by go_num, HD2, HE2⟩
                      case measure => simp [intOf]; omega
                  · have HD2 := Lib.hid (hRD.out.set k0 hk5 true)
                    have HE2 := Lib.hid (hRE.out.other (Ne.symm hDE) hRD.out.low k0 (.bool true))
                    rw [show T.set k0 true = row t0 i0 (k0 + 1) (rows t0 i0 t0) by rw [HN.out, HO.out]; rfl] at HD2
                    go_wp2_with fail
                    go_roundw
                    case rel => exact ⟨k0 + 1, by omega, by go_num, HD2, HE2⟩
                    case measure => simp [intOf]; omega
                · obtain rfl : k0 = 5 := by omega
                  have HD2 := Lib.hid (show Th w wr D (rows t0 (i0 + 1) t0) from hRD.out)
                  go_wp2_with fail
                  go_roundw
                  case rel => exact ⟨i0 + 1, by omega, by go_num, HD2, hRE⟩
                  case measure => simp [intOf]; omega
            · obtain rfl : i0 = 5 := by omega
              have HD2 := Lib.hid (show Th w wr D (reach a (s + 1)) by unfold reach; rw [HT0.out]; exact hTD.out)
              go_wp2_with fail
              go_roundw
              case rel => exact ⟨s + 1, by omega, by go_num, HD2⟩
              case measure => simp [intOf]; omega
        · have e4 : s = 4 := by omega
          rw [e4, reach_all a hlt] at hT
          have hs4i : ¬ (s : Int) < 4 := by omega
          clear e4
          go_wp2_with fail
          have hT4 := hT
          clear hT
          go_loopw [10] (fun k wr => ∃ (k0 : Nat), k0 ≤ 5 ∧ k = .int .i64 k0 ∧ Hid (Th w wr D [true, true, true, true, true])) (fun k _ => 5 - (intOf k).toNat)
          case atStart => exact ⟨0, Nat.zero_le _, rfl, hT4⟩
          case round =>
            obtain ⟨k0, hk, rfl, hT⟩ := hrel
            by_cases hk5 : k0 < 5
            · have cx := hT.out.cell k0 true (by
                have ck : k0 = 0 ∨ k0 = 1 ∨ k0 = 2 ∨ k0 = 3 ∨ k0 = 4 := by omega
                rcases ck with rfl | rfl | rfl | rfl | rfl <;> rfl)
              have hk5i : (k0 : Int) < 5 := by omega
              have NS := Lib.hid (no_self k0 hk5)
              go_wp2_with fail
              refine (may_any _ _ _).mono ?_
              rintro e w3 ⟨rfl, rfl⟩
              rw [NS.out]
              go_wp2_with fail
              go_roundw
              case rel => exact ⟨k0 + 1, by omega, by go_num, hT⟩
              case measure => simp [intOf]; omega
            · obtain rfl : k0 = 5 := by omega
              have HB2 := Lib.hid hT.out.below
              by_cases o1 : odd < 0
              · have M1 := Lib.hid (show Sp.may odd a = false by rw [← Bool.not_eq_true]; exact fun e => by have := (Sp.may_ok e).1; omega)
                have M2 := Lib.hid (show Sp.may a odd = false by rw [← Bool.not_eq_true]; exact fun e => by have := (Sp.may_ok e).2; omega)
                go_wp2_with fail
                refine (may_any _ _ _).mono ?_
                rintro e w3 ⟨rfl, rfl⟩
                rw [M1.out]
                go_wp2_with fail
                refine (may_any _ _ _).mono ?_
                rintro e w4 ⟨rfl, rfl⟩
                rw [M2.out]
                go_wp2_with fail
                go_roundw
                case rel => exact ⟨a + 1, by omega, by go_num, HB2⟩
                case measure => simp [intOf]; omega
              · by_cases o2 : 4 < odd
                · have M1 := Lib.hid (show Sp.may odd a = false by rw [← Bool.not_eq_true]; exact fun e => by have := (Sp.may_ok e).1; omega)
                  have M2 := Lib.hid (show Sp.may a odd = false by rw [← Bool.not_eq_true]; exact fun e => by have := (Sp.may_ok e).2; omega)
                  go_wp2_with fail
                  refine (may_any _ _ _).mono ?_
                  rintro e w3 ⟨rfl, rfl⟩
                  rw [M1.out]
                  go_wp2_with fail
                  refine (may_any _ _ _).mono ?_
                  rintro e w4 ⟨rfl, rfl⟩
                  rw [M2.out]
                  go_wp2_with fail
                  go_roundw
                  case rel => exact ⟨a + 1, by omega, by go_num, HB2⟩
                  case measure => simp [intOf]; omega
                · go_wp2_with fail
                  go_roundw
                  case rel => exact ⟨a + 1, by omega, by go_num, HB2⟩
                  case measure => simp [intOf]; omega
    · obtain rfl : a = 5 := by omega
      have hne := nm_empty odd
      by_cases o1 : odd < 0
      · rw [show Sp.ok odd = false by rw [← Bool.not_eq_true, Sp.ok_iff]; omega] at hne
        go_wp2_with fail
        refine (name_any _ _).mono ?_
        rintro e w3 ⟨rfl, rfl⟩
        go_wp2_with fail
        go_ret
        exact ⟨by first | rfl | exact ret_bool (by simp; omega), HB.out⟩
      · by_cases o2 : 4 < odd
        · rw [show Sp.ok odd = false by rw [← Bool.not_eq_true, Sp.ok_iff]; omega] at hne
          go_wp2_with fail
          refine (name_any _ _).mono ?_
          rintro e w3 ⟨rfl, rfl⟩
          go_wp2_with fail
          go_ret
          exact ⟨by first | rfl | exact ret_bool (by simp; omega), HB.out⟩
        · rw [show Sp.ok odd = true by rw [Sp.ok_iff]; omega] at hne
          go_wp2_with fail
          refine (name_any _ _).mono ?_
          rintro e w3 ⟨rfl, rfl⟩
          go_wp2_with fail
          go_ret
          exact ⟨by first | rfl | exact ret_bool (by simp; omega), HB.out⟩
set_option maxRecDepth 100000 in
theorem lifted (os : Os) (started : os.Started) (H : Type) (enc : TypeId × Value → H) :
    ReturnsInHanded {} Try.checked os 4 .any (Rows.statusReachSpec.pre6 enc Try.prog Try.f4 Rows.statusReachRow.domain false) (Rows.statusReachSpec.post enc Try.prog Try.f4 false true false false) := by
  refine returnsInHanded_of_change (C := Try.checked) own started (by kernel_rfl) Try.func4
    (ChangeSpec.witness6 (enc := enc) (C := Try.checked) false ⟨#[], #[.int .i64 0], []⟩ 8 (by kernel_rfl) (by kernel_rfl) (by kernel_rfl) (by kernel_rfl)) ?_
  intro W base args ds gs before hval0 hW hcnd _
  have hval : ∀ (j : Nat) t v, Try.f4.params[j]? = some t → args[j]? = some v → Value.okWide Try.prog W .any base t v := hval0
  have hW' := hW
  obtain ⟨p, q, hA0, hV, rfl, hfz, hnd⟩ := hW
  have hA : DataW.TrodAll enc Try.prog W 0 (fun _ => true) true Try.f4.params.toList args.toList ds p := hA0
  rw [Try.params4] at hA hval
  obtain ⟨v0, vs0, d0, ds0, p0, q0, hargs, rfl, rfl, h0, r0⟩ := trodAll_cons hA
  obtain ⟨rfl, rfl, rfl⟩ := trodAll_nil r0
  obtain rfl : args = #[v0] := by cases args; simp_all
  obtain ⟨rfl, rfl⟩ := trodVars_none hV
  obtain ⟨a0, rfl, rfl, rfl, w0⟩ := open_int Try.underlying3 (hval 0 3 v0 rfl rfl) h0
  clear hA0 hval0
  refine (walk a0 W ).mono fun e W' ⟨he, bel⟩ => ?_
  subst he
  exact ⟨_, rfl, _, _, _, [], _, [], hW', trodAll_mk1 (shut_bool Try.underlying4 _), (trodAll_cons_mk (shut_int Try.underlying3 w0) trodAll_mk0), rfl, bel.frame _, fun h => by cases h⟩
theorem over : Rows.statusReachRow.holds Try.pinned (OpenSpec.ofChange Rows.statusReachSpec) :=
  OpenClaim.holds_of_wide 4 Try.f4 rfl rfl rfl rfl rfl rfl rfl ⟨rfl, rfl, rfl, rfl, rfl⟩ rfl rfl rfl rfl rfl (by kernel_rfl) Try.func4 (by kernel_rfl)
    (of_decide_eq_true (by kernel_rfl)) (by unfold Func.isWrapper; first | (rw [if_pos (by decide +kernel)]; kernel_rfl) | (rw [if_neg (by decide +kernel)]; exact ⟨rfl, rfl⟩))
    (fun os started H enc _ => lifted os started H enc)
theorem proved : Rows.StatusReachSaid := over
end Go.Proofs.Ytldehegoaofjnaa.statusReach

