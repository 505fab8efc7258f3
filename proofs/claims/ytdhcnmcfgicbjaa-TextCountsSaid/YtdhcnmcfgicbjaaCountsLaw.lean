/- TextCounts: a tree's text has a letter for each vertex, as many as there are of each level, and a pair of brackets for each that isn't a processor: the call answers true and changes nothing that was there; for every input. -/
import Derived.Test.YtdhcnmcfgicbjaaShown
import Derived.Test.YtdhcnmcfgicbjaaTRef
import Derived.Test.YtdhcnmcfgicbjaaTStr
import Derived.Deep.RegionHeld3
namespace Go.Proofs.Ytdhcnmcfgicbjaa.textCounts
open Go.ChangeShapes Go.WideShapes Go.ChangeAt Go.RowKit
set_option linter.unusedVariables false

/-- The six bytes of texts, and how many of each there are in the first k. -/
def six : Nat → UInt8 | 0 => 109 | 1 => 110 | 2 => 99 | 3 => 112 | 4 => 40 | _ => 41
theorem idx_six (i : Nat) (h : i < 6) (W : World) : (Instr.index 9 (.string ⟨#[109, 110, 99, 112, 40, 41]⟩) (.int .i64 (i : Int))).run Try.prog W = .ok (.int .u8 ((six i).toNat : Int)) W := by
  rcases (show i = 0 ∨ i = 1 ∨ i = 2 ∨ i = 3 ∨ i = 4 ∨ i = 5 by omega) with rfl | rfl | rfl | rfl | rfl | rfl <;> kernel_rfl
/-- The counters: of block X, the first m told already the k-th byte. -/
def Six (w : World) (X : Nat) (S : List UInt8) (k m : Nat) : Prop :=
  ∀ j, j < 6 → w.cell? ⟨X, j, none⟩ = some (.int .i64 (Tx.many (six j) (S.take (if j < m then k + 1 else k)))) ∧ w.frozen? ⟨X, j, none⟩ = false
theorem many_le (c : UInt8) (l : List UInt8) : Tx.many c l ≤ l.length := List.count_le_length
theorem take_one {S : List UInt8} {k : Nat} {c : UInt8} (h : S[k]? = some c) : S.take (k + 1) = S.take k ++ [c] := by rw [List.take_add_one, h]; rfl
theorem many_next {S : List UInt8} {k : Nat} {c d : UInt8} (h : S[k]? = some c) : Tx.many d (S.take (k + 1)) = Tx.many d (S.take k) + if c = d then 1 else 0 := by
  rw [take_one h, Tx.many_append, Tx.many_cons]
  rfl
theorem Six.miss {w : World} {X : Nat} {S : List UInt8} {k m : Nat} {c : UInt8} (h : Six w X S k m) (hk : S[k]? = some c) (hm : c ≠ six m) : Six w X S k (m + 1) := by
  intro j hj
  refine ⟨?_, (h j hj).2⟩
  rw [(h j hj).1]
  by_cases e : j = m
  · subst e
    rw [if_neg (by omega), if_pos (by omega), many_next hk, if_neg hm]; rfl
  · by_cases hl : j < m
    · rw [if_pos hl, if_pos (by omega)]
    · rw [if_neg hl, if_neg (by omega)]
theorem Six.hit {w : World} {X : Nat} {S : List UInt8} {k m : Nat} {c : UInt8} (h : Six w X S k m) (hk : S[k]? = some c) (hm : c = six m) (h6 : m < 6) (z : Int) (hz : z = (Tx.many (six m) (S.take k) : Nat) + 1) : Six (w.setCell ⟨X, m, none⟩ (.int .i64 z)) X S k (m + 1) := by
  intro j hj
  refine ⟨?_, by rw [World.frozen?_setCell]; exact (h j hj).2⟩
  by_cases e : j = m
  · subst e
    rw [World.cell?_setCell_same' _ _ _ (by rw [(h j hj).1]; rfl), if_pos (by omega), many_next hk, if_pos hm, hz]; rfl
  · rw [World.cell?_setCell_other _ _ _ _ (fun e' => by injection e' with _ e'; exact e e'.symm), (h j hj).1]
    by_cases hl : j < m
    · rw [if_pos hl, if_pos (by omega)]
    · rw [if_neg hl, if_neg (by omega)]
theorem Six.turn {w : World} {X : Nat} {S : List UInt8} {k : Nat} (h : Six w X S k 6) : Six w X S (k + 1) 0 := by
  intro j hj
  have := h j hj
  rw [if_pos hj] at this
  rw [if_neg (by omega)]
  exact this
theorem Six.drewN {w : World} {X : Nat} {S : List UInt8} {k m : Nat} (h : Six w X S k m) (q : Nat) : Six (w.drewN q) X S k m := h
theorem Six.start (w : World) (S : List UInt8) : Six (w.alloc (.cells #[.int .i64 0, .int .i64 0, .int .i64 0, .int .i64 0, .int .i64 0, .int .i64 0] 44)) w.heap.size S 0 0 := by
  intro j hj
  rw [World.cell?_alloc_at _ _ _ _ rfl, World.frozen?_alloc_at _ _ _ _ rfl]
  refine ⟨?_, rfl⟩
  rcases (show j = 0 ∨ j = 1 ∨ j = 2 ∨ j = 3 ∨ j = 4 ∨ j = 5 by omega) with rfl | rfl | rfl | rfl | rfl | rfl <;> rfl
theorem below_undrew {B : Nat} {a w : World} (h : Below B a.drew w) : Below B a w := ⟨h.os, h.tape, h.output, h.size, h.block⟩
theorem setCell_size (W : World) (a : Addr) (u : Value) : (W.setCell a u).heap.size = W.heap.size := by simp [World.setCell]
theorem those_lvl (vs : List (Int × Int)) (l : Nat) : Tp.those (levelP (l : Int)) vs = Tx.lvl l vs := rfl
set_option maxHeartbeats 4000000 in
set_option maxRecDepth 100000 in
theorem walk (A : Option Addr) (n c : Nat) (vs : List (Int × Int)) (w : World)
    (hn : Hid (vs.length = n)) (hl : n ≤ 9223372036854775807) (hf : Hid (Fit vs)) (hv : VRow w w.heap.size A vs) :
    Calls Try.prog 7 #[.slice A n c] w fun e w' => e = .returned (.bool true) ∧ Below w.heap.size w w' := by
  go_enter Try.func7, Try.ntmps7
  go_wp2_with fail
  refine (shown_any _).mono ?_
  rintro e w1 ⟨rfl, hb1⟩
  by_cases h64 : 64 < n
  · go_wp2_with fail
    go_ret
    exact ⟨rfl, hb1⟩
  · have hva := (hv.below hb1).more hb1.size
    have hd64 : decide (64 < (n : Int)) = false := by simp; omega
    go_wp2_with fail
    refine (refCheck_any A n c vs _ hn hl hf hva).mono ?_
    rintro e w2 ⟨rfl, hb2⟩
    have hbe2 := hb1.trans (hb2.mono hb1.size)
    have hvb := (hv.below hbe2).more hbe2.size
    clear hb1 hb2 hva
    cases hm : Tp.may vs
    · have HM := Lib.hid (show Tp.errno false = 2 from rfl)
      clear hm
      rw [HM.out]
      go_wp2_with fail
      go_ret
      exact ⟨rfl, hbe2⟩
    · have T := (Tp.tree_iff vs).1 hm
      have HC := Lib.hid (Tx.text_counts T)
      have HM := Lib.hid (show Tp.errno true = 0 from rfl)
      have HX := Lib.hid (show textR vs = (Tx.tx vs 3 0, 0) by unfold textR; rw [hm]; rfl)
      have hl731 := Tx.tx_fits T
      clear hm T
      rw [HM.out]
      obtain ⟨S, hS⟩ : ∃ S, S = Tx.tx vs 3 0 := ⟨_, rfl⟩
      rw [← hS] at HX hl731 HC
      clear hS
      have hsz := str_size S
      go_wp2_with fail
      refine (text_any A n c vs _ hn hl hf hvb).mono ?_
      rintro e w3 ⟨rfl, hb3⟩
      rw [HX.out]
      have hbe3 := hbe2.trans (hb3.mono hbe2.size)
      clear hbe2 hb3 hvb
      go_wp2_with fail
      have H0 := Lib.hid (Six.start w3 S)
      have hbs := hbe3.alloc hbe3.size (.cells #[.int .i64 0, .int .i64 0, .int .i64 0, .int .i64 0, .int .i64 0, .int .i64 0] 44)
      have hX := hbe3.size
      go_loopw [7] (fun i wr => ∃ k : Nat, k ≤ S.length ∧ i = .int .i64 k ∧ Hid (Six wr w3.heap.size S k 0) ∧ Below w.heap.size w wr ∧ w3.heap.size < wr.heap.size) (fun i _ => S.length - (intOf i).toNat)
      case atStart => exact ⟨0, Nat.zero_le _, rfl, H0, hbs, by simp⟩
      case round =>
        obtain ⟨k, hk, rfl, h6, hbe, hwX⟩ := hrel
        clear H0 hbs
        by_cases hlt : k < S.length
        · obtain ⟨ch, hch⟩ : ∃ ch, S[k]? = some ch := ⟨_, List.getElem?_eq_getElem hlt⟩
          have HCH := Lib.hid hch
          have hix := idx_str S k ch hch
          clear hch
          go_wp2_with fail
          obtain ⟨wo, rfl⟩ : ∃ wo : World, wo = wr := ⟨_, rfl⟩
          go_loopw [8] (fun i wr => ∃ m : Nat, m ≤ 6 ∧ i = .int .i64 m ∧ Hid (Six wr w3.heap.size S k m) ∧ Below w.heap.size w wr ∧ w3.heap.size < wr.heap.size) (fun i _ => 6 - (intOf i).toNat)
          case atStart => exact ⟨0, by omega, rfl, h6, hbe, hwX⟩
          case round =>
            obtain ⟨m, hm, rfl, h6', hbe', hwX'⟩ := hrel
            clear h6 hbe hwX
            by_cases hlm : m < 6
            · have hxs := idx_six m hlm
              have hdm : decide ((m : Int) < 6) = true := by simp; omega
              by_cases hc : ch = six m
              · have hcc : ((ch.toNat : Int) == ((six m).toNat : Int)) = true := by rw [byte_eq, hc]; simp
                obtain ⟨c1, c2⟩ := h6'.out m hlm
                rw [if_neg (by omega)] at c1
                have hle : Tx.many (six m) (S.take k) ≤ 731 := by have := many_le (six m) (S.take k); rw [List.length_take] at this; omega
                have HN := Lib.hid (h6'.out.hit HCH.out hc hlm ((Tx.many (six m) (S.take k) : Nat) + 1) rfl)
                obtain ⟨y, hy⟩ : ∃ y, Tx.many (six m) (S.take k) = y := ⟨_, rfl⟩
                rw [hy] at c1 hle HN
                clear hc hy
                go_wp2_with fail
                go_quiet (fail)
                go_wp2_with fail
                go_roundw
                case rel => exact ⟨m + 1, by omega, by go_num, HN, (below_drewN hbe' _).setCell hX _, by rw [setCell_size]; exact hwX'⟩
                case measure => simp [intOf]; omega
              · have hcc : ((ch.toNat : Int) == ((six m).toNat : Int)) = false := by rw [byte_eq, beq_eq_false_iff_ne]; exact hc
                have HN := Lib.hid (h6'.out.miss HCH.out hc)
                clear hc
                go_wp2_with fail
                go_quiet (fail)
                go_wp2_with fail
                go_roundw
                case rel => exact ⟨m + 1, by omega, by go_num, HN, below_drewN hbe' _, hwX'⟩
                case measure => simp [intOf]; omega
            · have hm6 : m = 6 := by omega
              subst hm6
              have HN := Lib.hid h6'.out.turn
              go_wp2_with fail
              go_roundw
              case rel => exact ⟨k + 1, by omega, by go_num, HN, hbe', hwX'⟩
              case measure => simp [intOf]; omega
        · have hkS : k = S.length := by omega
          subst hkS
          obtain ⟨b0, b1, b2, b3, b4, b5, b6⟩ := HC.out
          have hcell : ∀ j, j < 6 → wr.cell? ⟨w3.heap.size, j, none⟩ = some (.int .i64 (Tx.many (six j) S)) := fun j hj => by
            have := (h6.out j hj).1
            rw [if_neg (by omega), List.take_of_length_le (Nat.le_refl _)] at this
            exact this
          obtain ⟨L1, hL1⟩ : ∃ L1, L1 = (Tx.lvl 1 vs).length := ⟨_, rfl⟩
          obtain ⟨L2, hL2⟩ : ∃ L2, L2 = (Tx.lvl 2 vs).length := ⟨_, rfl⟩
          obtain ⟨L3, hL3⟩ : ∃ L3, L3 = (Tx.lvl 3 vs).length := ⟨_, rfl⟩
          rw [← hL1] at b1
          rw [← hL2] at b2
          rw [← hL3] at b3 b4 b5 b6
          rw [hn.out] at b4 b5 b6
          have hL3n : L3 ≤ n := by
            have := Tp.those_le (levelP 3) vs n
            rw [List.take_of_length_le (by rw [hn.out]; exact Nat.le_refl _)] at this
            rw [hL3]; exact this
          have c0 : wr.cell? ⟨w3.heap.size, 0, none⟩ = some (.int .i64 1) := by rw [hcell 0 (by omega)]; simp only [six]; rw [b0]; rfl
          have c1 : wr.cell? ⟨w3.heap.size, 1, none⟩ = some (.int .i64 (L1 : Int)) := by rw [hcell 1 (by omega)]; simp only [six]; rw [b1]
          have c2 : wr.cell? ⟨w3.heap.size, 2, none⟩ = some (.int .i64 (L2 : Int)) := by rw [hcell 2 (by omega)]; simp only [six]; rw [b2]
          have c3 : wr.cell? ⟨w3.heap.size, 3, none⟩ = some (.int .i64 (L3 : Int)) := by rw [hcell 3 (by omega)]; simp only [six]; rw [b3]
          have c4 : wr.cell? ⟨w3.heap.size, 4, none⟩ = some (.int .i64 ((n : Int) - (L3 : Int))) := by rw [hcell 4 (by omega)]; simp only [six]; rw [b4, Int.ofNat_sub hL3n]
          have c5 : wr.cell? ⟨w3.heap.size, 5, none⟩ = some (.int .i64 ((n : Int) - (L3 : Int))) := by rw [hcell 5 (by omega)]; simp only [six]; rw [b5, Int.ofNat_sub hL3n]
          have hva := (hv.below hbe).more hbe.size
          have HL1 := Lib.hid hL1
          have HL2 := Lib.hid hL2
          have HL3 := Lib.hid hL3
          have HB6 := Lib.hid b6
          have hnn : n * 8 ≤ 140737488351232 := by omega
          clear b0 b1 b2 b3 b4 b5 b6 hcell hL1 hL2 hL3 h6
          go_wp2_with fail
          refine (refOf_any A n c vs 3 _ hn hl hnn hva).mono ?_
          rintro e w7 ⟨A7, c7, rfl, _, hb7⟩
          have hbe7 := hbe.trans (hb7.mono hbe.size)
          rw [show (Tp.those (levelP 3) vs).length = L3 from HL3.out.symm]
          have g0 := (hb7.cell (p := ⟨w3.heap.size, 0, none⟩) hwX).trans c0
          have g1 := (hb7.cell (p := ⟨w3.heap.size, 1, none⟩) hwX).trans c1
          have g2 := (hb7.cell (p := ⟨w3.heap.size, 2, none⟩) hwX).trans c2
          have g3 := (hb7.cell (p := ⟨w3.heap.size, 3, none⟩) hwX).trans c3
          have g4 := (hb7.cell (p := ⟨w3.heap.size, 4, none⟩) hwX).trans c4
          have g5 := (hb7.cell (p := ⟨w3.heap.size, 5, none⟩) hwX).trans c5
          have hwX7 : w3.heap.size < w7.heap.size := Nat.lt_of_lt_of_le hwX hb7.size
          have hvb := (hv.below hbe7).more hbe7.size
          clear c0 c1 c2 c3 c4 c5 hva hb7 hbe hwX
          have s1 : IntKind.i64.wrap ((n : Int) - (L3 : Int)) = (n : Int) - (L3 : Int) := IntWalk.i64_in _ (by omega)
          have s2 : IntKind.i64.wrap (2 * ((n : Int) - (L3 : Int))) = 2 * ((n : Int) - (L3 : Int)) := IntWalk.i64_in _ (by omega)
          have s3 : IntKind.i64.wrap ((n : Int) + 2 * ((n : Int) - (L3 : Int))) = (n : Int) + 2 * ((n : Int) - (L3 : Int)) := IntWalk.i64_in _ (by omega)
          have s4 : ((S.length : Int) == (n : Int) + 2 * ((n : Int) - (L3 : Int))) = true := by rw [beq_iff_eq]; have := HB6.out; omega
          go_wp2_with fail
          go_region_held3 (fun w' => w'.cell? ⟨w3.heap.size, 0, none⟩ = some (.int .i64 1) ∧ w'.cell? ⟨w3.heap.size, 1, none⟩ = some (.int .i64 (L1 : Int)) ∧ w'.cell? ⟨w3.heap.size, 2, none⟩ = some (.int .i64 (L2 : Int)) ∧ w'.cell? ⟨w3.heap.size, 3, none⟩ = some (.int .i64 (L3 : Int)) ∧ w'.cell? ⟨w3.heap.size, 4, none⟩ = some (.int .i64 ((n : Int) - (L3 : Int))) ∧ w'.cell? ⟨w3.heap.size, 5, none⟩ = some (.int .i64 ((n : Int) - (L3 : Int))))
            (first | (go_split_ands; refine ⟨?_, ?_, ?_, ?_, ?_, ?_⟩ <;> (first | (rw [hbY.cell (by have := hbX.size; simp; omega)]; assumption) | (rw [hbX.cell (by simp; omega)]; assumption))) | go_keep)
            ((first
              | (go_at_call_of 17 (Value.int .i64 1); refine (refOf_any A n c vs 1 _ hn hl hnn (by exact hvb)).mono ?_; rintro e wX ⟨AX, cX, rfl, _, hbX'⟩; have hbX := below_undrew hbX'; rw [show (Tp.those (levelP 1) vs).length = L1 from HL1.out.symm])
              | (go_at_call_of 17 (Value.int .i64 2); refine (refOf_any A n c vs 2 _ hn hl hnn (by exact ((hvb.below hbX).more hbX.size))).mono ?_; rintro e wY ⟨AY, cY, rfl, _, hbY⟩; rw [show (Tp.those (levelP 2) vs).length = L2 from HL2.out.symm])))
          go_wp2_with fail
          go_ret
          exact ⟨rfl, hbe7.trans ((hbX.trans (hbY.mono hbX.size)).mono hbe7.size)⟩
set_option maxRecDepth 100000 in
theorem lifted (os : Os) (started : os.Started) (H : Type) (enc : TypeId × Value → H) :
    ReturnsInHanded {} Try.checked os 7 .any (Rows.textCountsSpec.pre6 enc Try.prog Try.f7 Rows.textCountsRow.domain false) (Rows.textCountsSpec.post enc Try.prog Try.f7 false true false false) := by
  refine returnsInHanded_of_change (C := Try.checked) own started (by kernel_rfl) Try.func7
    (ChangeSpec.witness6 (enc := enc) (C := Try.checked) false ⟨#[], #[.slice none 0 0], []⟩ 8 (by kernel_rfl) (by kernel_rfl) (by kernel_rfl) (by kernel_rfl)) ?_
  intro W base args ds gs before hval0 hW hcnd _
  have hval : ∀ (j : Nat) t v, Try.f7.params[j]? = some t → args[j]? = some v → Value.okWide Try.prog W .any base t v := hval0
  have hW' := hW
  obtain ⟨p, q, hA0, hV, rfl, hfz, hnd⟩ := hW
  have hA : DataW.TrodAll enc Try.prog W 0 (fun _ => true) true Try.f7.params.toList args.toList ds p := hA0
  rw [Try.params7] at hA hval
  obtain ⟨v0, vs0, d0, ds0, p0, q0, hargs, rfl, rfl, h0, r0⟩ := trodAll_cons hA
  obtain ⟨rfl, rfl, rfl⟩ := trodAll_nil r0
  obtain rfl : args = #[v0] := by cases args; simp_all
  obtain ⟨rfl, rfl⟩ := trodVars_none hV
  obtain ⟨a0, len0, cap0, rfl⟩ := okWide_slice Try.underlying22 (hval 0 22 v0 rfl rfl)
  have k0 := h0
  have lt0 : ∀ x ∈ p0, x.block < W.heap.size := by obtain ⟨m, hm⟩ := k0; exact DataW.trod_lt m _ _ _ hm
  obtain ⟨hl0, hc0, z0, hn0, hf0, hr0⟩ : len0 ≤ 9223372036854775807 ∧ (len0 ≤ cap0 ∧ cap0 ≤ 9223372036854775807) ∧ ∃ vs : List (Int × Int), vs.length = len0 ∧ Fit vs ∧ VRow W W.heap.size a0 vs := by
    obtain ⟨fuel, hf⟩ := h0
    exact open_vs (by simpa [Value.cells] using hf)
  clear hA0 hval0
  refine (walk a0 len0 cap0 z0 W (Lib.hid hn0) hl0 (Lib.hid hf0) hr0).mono fun e W' ⟨he, bel⟩ => ?_
  subst he
  exact ⟨_, rfl, _, _, _, [], _, [], hW', trodAll_mk1 (shut_bool Try.underlying4 _), (trodAll_cons_mk (Below.trod laidOut (by kernel_rfl) (of_decide_eq_true (by kernel_rfl)) k0 bel lt0) trodAll_mk0), rfl, bel.frame _, fun h => by cases h⟩
theorem over : Rows.textCountsRow.holds Try.pinned (OpenSpec.ofChange Rows.textCountsSpec) :=
  OpenClaim.holds_of_wide 7 Try.f7 rfl rfl rfl rfl rfl rfl rfl ⟨rfl, rfl, rfl, rfl, rfl⟩ rfl rfl rfl rfl rfl (by kernel_rfl) Try.func7 (by kernel_rfl)
    (of_decide_eq_true (by kernel_rfl)) (by unfold Func.isWrapper; first | (rw [if_pos (by decide +kernel)]; kernel_rfl) | (rw [if_neg (by decide +kernel)]; exact ⟨rfl, rfl⟩))
    (fun os started H enc _ => lifted os started H enc)
theorem proved : Rows.TextCountsSaid := over
end Go.Proofs.Ytdhcnmcfgicbjaa.textCounts

