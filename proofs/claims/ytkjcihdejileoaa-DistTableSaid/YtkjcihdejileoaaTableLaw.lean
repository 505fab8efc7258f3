/- DistTable: the table is how far all are from all: 0 of one and itself, the same both ways: the call answers true and changes nothing that was there; for every input. -/
import Derived.Test.YtkjcihdejileoaaShown
import Derived.Test.YtkjcihdejileoaaDNear
import Derived.Test.YtkjcihdejileoaaFrame
import Derived.Deep.RegionHeld3
namespace Go.Proofs.Ytkjcihdejileoaa.distTable
open Go.ChangeShapes Go.WideShapes Go.ChangeAt Go.RowKit
set_option linter.unusedVariables false

theorem table_at {vs : List (Int × Int)} {m a : Nat} (hm : Dp.procsN vs = m) (ha : a < m) : ∃ r, (table vs)[a]? = some r ∧ r.length = m ∧ ∀ b : Nat, b < m → r[b]? = some (Dp.far vs a b) := by
  refine ⟨(List.range m).map fun (b : Nat) => Dp.far vs a b, ?_, by simp, fun b hb => ?_⟩
  · unfold table
    rw [hm, List.getElem?_map, List.getElem?_range ha]; rfl
  · rw [List.getElem?_map, List.getElem?_range hb]; rfl
theorem table_length (vs : List (Int × Int)) : (table vs).length = Dp.procsN vs := by simp [table]
theorem below_undrew {w w' : World} (h : Below w.drew.heap.size w.drew w') : Below w.heap.size w w' := ⟨h.os, h.tape, h.output, h.size, h.block⟩
/-- What the table's numbers are like. -/
theorem far_like {vs : List (Int × Int)} {m a b : Nat} (hm : Dp.procsN vs = m) (ha : a < m) (hb : b < m) : Dp.far vs b a = Dp.far vs a b ∧ (Dp.far vs a b == 0) = decide (a = b) ∧ Dp.far vs a b ≤ 3 := by
  have hab : ¬ ((a : Int) < 0 ∨ (Dp.procsN vs : Int) ≤ (a : Int) ∨ (b : Int) < 0 ∨ (Dp.procsN vs : Int) ≤ (b : Int)) := by omega
  have hba : ¬ ((b : Int) < 0 ∨ (Dp.procsN vs : Int) ≤ (b : Int) ∨ (a : Int) < 0 ∨ (Dp.procsN vs : Int) ≤ (a : Int)) := by omega
  refine ⟨?_, ?_, (Dp.far_bounds vs a b).2⟩
  · rw [Dp.far_in hab, Dp.far_in hba]; exact Dp.farV_comm _ _ _
  · rw [Bool.eq_iff_iff, beq_iff_eq, decide_eq_true_eq]
    constructor
    · intro h
      rcases Nat.decEq b a with hne | e
      · have := Dp.far_ne_zero (vs := vs) (p := (a : Int)) (z := (b : Int)) (by omega) (by omega) (by omega) (by omega) (by omega)
        omega
      · exact e.symm
    · rintro rfl
      rw [Dp.far_in hab]; exact Dp.farV_self _ _

set_option maxHeartbeats 4000000 in
set_option maxRecDepth 100000 in
theorem walk (A : Option Addr) (n c : Nat) (vs : List (Int × Int)) (w : World)
    (hn : Hid (vs.length = n)) (hl : n ≤ 9223372036854775807) (hf : Hid (Fit vs)) (hv : VRow w w.heap.size A vs) :
    Calls Try.prog 4 #[.slice A n c] w fun e w' => e = .returned (.bool true) ∧ Below w.heap.size w w' := by
  go_enter Try.func4, Try.ntmps4
  go_wp2_with fail
  refine (shown_any _).mono ?_
  rintro e w1 ⟨rfl, hb1⟩
  by_cases h64 : n ≤ 64
  · have hv1 := (hv.below hb1).more hb1.size
    go_wp2_with fail
    refine (table_any _ n c vs _ hn hl hf hv1).mono ?_
    rintro e w2 ⟨A2, c2, rfl, hR2, hb2⟩
    have hbe2 := hb1.trans (hb2.mono hb1.size)
    have hv2 := (hv.below hbe2).more hbe2.size
    clear hb1 hb2 hv1
    go_wp2_with fail
    refine (refProcs_any _ n c vs _ hn hl hf hv2).mono ?_
    rintro e w3 ⟨rfl, hb3⟩
    have hbe3 := hbe2.trans (hb3.mono hbe2.size)
    have hR3 := Lib.hid ((hR2.below hb3).more hb3.size)
    rw [table_length]
    generalize hpn : Dp.procsN vs = m
    have HPN := Lib.hid hpn
    have hm64 : m ≤ 64 := by
      have h1 := those_len (levelP 3) vs
      have := hn.out
      rw [← hpn]
      unfold Dp.procsN
      split
      · exact Nat.le_trans h1 (by omega)
      · omega
    clear hpn hb3 hbe2 hv2 hR2
    have m0 : ((m : Int) != (m : Int)) = false := by simp
    go_wp2_with fail
    go_loopw [6] (fun q wr => ∃ k : Nat, k ≤ m ∧ q = .int .i64 k ∧ Below w3.heap.size w3 wr) (fun q _ => m - (intOf q).toNat)
    case atStart => exact ⟨0, by omega, rfl, Below.refl _ _⟩
    case round =>
      obtain ⟨a, ha, rfl, hbr⟩ := hrel
      have hbe := hbe3.trans (hbr.mono hbe3.size)
      by_cases ham : a < m
      · obtain ⟨ra, hra, hral, hraf⟩ := table_at HPN.out ham
        obtain ⟨rb, ro, hA, hrb, Aa, ca, hca, hIa⟩ := (hR3.out.below hbr) a ra hra
        subst hA
        obtain ⟨ab, ao, hAa, hab, hcaa⟩ := hIa a _ (hraf a ham)
        have hs0 : Dp.far vs a a = 0 := by have := (far_like HPN.out ham ham).2.1; simpa using this
        rw [hs0] at hcaa
        rw [hral] at hca
        subst hAa
        have HIA := Lib.hid hIa
        have HRAF := Lib.hid hraf
        clear hra hral hraf hs0 hIa
        obtain ⟨wo, rfl⟩ : ∃ wo : World, wo = wr := ⟨_, rfl⟩
        go_wp2_with fail
        go_loopw [7] (fun q wr => ∃ k : Nat, k ≤ m ∧ q = .int .i64 k ∧ Below w3.heap.size w3 wr) (fun q _ => m - (intOf q).toNat)
        case atStart => exact ⟨0, by omega, rfl, hbr⟩
        case round =>
          obtain ⟨b, hb, rfl, hbs⟩ := hrel
          by_cases hbm : b < m
          · have hbf := hbe3.trans (hbs.mono hbe3.size)
            have hvs := (hv.below hbf).more hbf.size
            obtain ⟨rA, hrA, hrAl, hrAf⟩ := table_at HPN.out ham
            obtain ⟨rB, hrB, hrBl, hrBf⟩ := table_at HPN.out hbm
            obtain ⟨x1, x2, hX, hrbs, Aa', ca', hca', hIa'⟩ := (hR3.out.below hbs) a rA hrA
            obtain ⟨y1, y2, hY, _, Ab, cb, hcb, hIb⟩ := (hR3.out.below hbs) b rB hrB
            injection hX with hX
            injection hX with e1 e2
            subst e1 e2
            injection hY with hY
            injection hY with e1 e2
            subst e1 e2
            obtain ⟨p1, p2, hAa', hp1, hcab⟩ := hIa' b _ (hrAf b hbm)
            obtain ⟨q1, q2, hAb, hq1, hcba⟩ := hIb a _ (hrBf a ham)
            obtain ⟨f1, f2, f3⟩ := far_like HPN.out ham hbm
            rw [f1] at hcba
            rw [hrAl] at hca'
            rw [hrBl] at hcb
            subst hAa' hAb
            have FF : Hid (Dp.far vs a b = Dp.far vs a b) := Lib.hid rfl
            have d1 : (0 : Int) ≤ (a : Int) := by omega
            have d2 : (a : Int) < (m : Int) := by omega
            have d3 : (0 : Int) ≤ (b : Int) := by omega
            have d4 : (b : Int) < (m : Int) := by omega
            have hs1 : rb < wr.heap.size := by have := hbs.size; omega
            have hs2 : p1 < wr.heap.size := by have := hbs.size; omega
            have hs3 : q1 < wr.heap.size := by have := hbs.size; omega
            generalize hfar : Dp.far vs a b = f at hcab hcba f2 f3
            have HF := Lib.hid hfar
            have HC : Hid (∀ W : World, VRow W W.heap.size A vs → Calls Try.prog 11 #[.slice A n c, .int .i64 a, .int .i64 b] W fun e w' => e = .returned (.int .i64 f) ∧ Below W.heap.size W w') :=
              Lib.hid (fun W hW => by rw [← HF.out]; exact far_any _ n c vs a b W hn hl hf hW)
            have g3 : decide (3 < f) = false := by simp; omega
            have g4 : (f != f) = false := by simp
            clear hrA hrAl hrAf hrB hrBl hrBf hIa' hIb hfar f1 FF hca hcaa
            by_cases hEq : a = b
            · subst hEq
              have g1 : (f == 0) = true := by rw [f2]; simp
              have g2 : ((a : Int) == (a : Int)) = true := by simp
              clear f2
              go_wp2_with fail
              go_region_held3 (fun w' => w'.cell? ⟨rb, ro + a, none⟩ = some (.slice (some ⟨p1, p2, none⟩) m ca') ∧ w'.cell? ⟨p1, p2 + a, none⟩ = some (.int .i64 f))
                (first | (go_split_ands; refine ⟨?_, ?_⟩ <;> (rw [hbX.cell (by simp; omega)]; assumption)) | go_keep)
                ((first
                  | (go_at_call 11; refine (HC.out _ (by exact hvs)).mono ?_; rintro e wX ⟨rfl, hbX'⟩; have hbX := below_undrew hbX')))
              go_wp2_with fail
              go_roundw
              case rel => exact ⟨a + 1, by omega, by go_num, hbs.trans (hbX.mono hbs.size)⟩
              case measure => simp [intOf]; omega
            · have g1 : (f == 0) = false := by rw [f2]; simpa using hEq
              have g2 : ((a : Int) == (b : Int)) = false := by rw [beq_eq_false_iff_ne]; omega
              clear f2
              go_wp2_with fail
              go_region_held3 (fun w' => w'.cell? ⟨rb, ro + a, none⟩ = some (.slice (some ⟨p1, p2, none⟩) m ca') ∧ w'.cell? ⟨p1, p2 + b, none⟩ = some (.int .i64 f) ∧ w'.cell? ⟨rb, ro + b, none⟩ = some (.slice (some ⟨q1, q2, none⟩) m cb) ∧ w'.cell? ⟨q1, q2 + a, none⟩ = some (.int .i64 f))
                (first | (go_split_ands; refine ⟨?_, ?_, ?_, ?_⟩ <;> (rw [hbX.cell (by simp; omega)]; assumption)) | go_keep)
                ((first
                  | (go_at_call 11; refine (HC.out _ (by exact hvs)).mono ?_; rintro e wX ⟨rfl, hbX'⟩; have hbX := below_undrew hbX')))
              go_wp2_with fail
              go_roundw
              case rel => exact ⟨b + 1, by omega, by go_num, hbs.trans (hbX.mono hbs.size)⟩
              case measure => simp [intOf]; omega
          · go_wp2_with fail
            go_roundw
            case rel => exact ⟨a + 1, by omega, by go_num, hbs⟩
            case measure => simp [intOf]; omega
      · go_wp2_with fail
        go_ret
        exact ⟨rfl, hbe⟩
  · go_wp2_with fail
    go_ret
    exact ⟨rfl, hb1⟩
set_option maxRecDepth 100000 in
theorem lifted (os : Os) (started : os.Started) (H : Type) (enc : TypeId × Value → H) :
    ReturnsInHanded {} Try.checked os 4 .any (Rows.distTableSpec.pre6 enc Try.prog Try.f4 Rows.distTableRow.domain false) (Rows.distTableSpec.post enc Try.prog Try.f4 false true false false) := by
  refine returnsInHanded_of_change (C := Try.checked) own started (by kernel_rfl) Try.func4
    (ChangeSpec.witness6 (enc := enc) (C := Try.checked) false ⟨#[], #[.slice none 0 0], []⟩ 8 (by kernel_rfl) (by kernel_rfl) (by kernel_rfl) (by kernel_rfl)) ?_
  intro W base args ds gs before hval0 hW hcnd _
  have hval : ∀ (j : Nat) t v, Try.f4.params[j]? = some t → args[j]? = some v → Value.okWide Try.prog W .any base t v := hval0
  have hW' := hW
  obtain ⟨p, q, hA0, hV, rfl, hfz, hnd⟩ := hW
  have hA : DataW.TrodAll enc Try.prog W 0 (fun _ => true) true Try.f4.params.toList args.toList ds p := hA0
  rw [Try.params4] at hA hval
  obtain ⟨v0, vs0, d0, ds0, p0, q0, hargs, rfl, rfl, h0, r0⟩ := trodAll_cons hA
  obtain ⟨rfl, rfl, rfl⟩ := trodAll_nil r0
  obtain rfl : args = #[v0] := by cases args; simp_all
  obtain ⟨rfl, rfl⟩ := trodVars_none hV
  obtain ⟨a0, len0, cap0, rfl⟩ := okWide_slice Try.underlying22 (hval 0 22 v0 rfl rfl)
  have k0 := h0
  have lt0 : ∀ x ∈ p0, x.block < W.heap.size := by obtain ⟨m, hm⟩ := k0; exact DataW.trod_lt m _ _ _ hm
  obtain ⟨hl0, hc0, z0, hn0, hf0, hr0⟩ : len0 ≤ 9223372036854775807 ∧ (len0 ≤ cap0 ∧ cap0 ≤ 9223372036854775807) ∧ ∃ vs : List (Int × Int), vs.length = len0 ∧ Fit vs ∧ VRow W W.heap.size a0 vs := by
    obtain ⟨fuel, hf⟩ := h0
    exact open_vs (by simpa [Value.cells] using hf)
  clear hA0 hval0
  refine (walk a0 len0 cap0 z0 W (Lib.hid hn0) hl0 (Lib.hid hf0) hr0).mono fun e W' ⟨he, bel⟩ => ?_
  subst he
  exact ⟨_, rfl, _, _, _, [], _, [], hW', trodAll_mk1 (shut_bool Try.underlying4 _), (trodAll_cons_mk (Below.trod laidOut (by kernel_rfl) (of_decide_eq_true (by kernel_rfl)) k0 bel lt0) trodAll_mk0), rfl, bel.frame _, fun h => by cases h⟩
theorem over : Rows.distTableRow.holds Try.pinned (OpenSpec.ofChange Rows.distTableSpec) :=
  OpenClaim.holds_of_wide 4 Try.f4 rfl rfl rfl rfl rfl rfl rfl ⟨rfl, rfl, rfl, rfl, rfl⟩ rfl rfl rfl rfl rfl (by kernel_rfl) Try.func4 (by kernel_rfl)
    (of_decide_eq_true (by kernel_rfl)) (by unfold Func.isWrapper; first | (rw [if_pos (by decide +kernel)]; kernel_rfl) | (rw [if_neg (by decide +kernel)]; exact ⟨rfl, rfl⟩))
    (fun os started H enc _ => lifted os started H enc)
theorem proved : Rows.DistTableSaid := over
end Go.Proofs.Ytkjcihdejileoaa.distTable

