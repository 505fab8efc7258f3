/- DistNodes: processors are of just one node each, and each node has one; of one core all are of one node: the call answers true and changes nothing that was there; for every input. -/
import Derived.Test.YtkjcihdejileoaaShown
import Derived.Test.YtkjcihdejileoaaDNear
import Derived.Test.YtkjcihdejileoaaFrame
namespace Go.Proofs.Ytkjcihdejileoaa.distNodes
open Go.ChangeShapes Go.WideShapes Go.ChangeAt Go.RowKit
set_option linter.unusedVariables false

/-- An array of numbers of the call's own, in a block of its own. -/
def Arr (w : World) (g : Nat) (cs : List Int) : Prop := ∀ i z, cs[i]? = some z → w.cell? ⟨g, i, none⟩ = some (.int .i64 z) ∧ w.frozen? ⟨g, i, none⟩ = false
theorem Arr.below {w w' : World} {g B : Nat} {cs : List Int} (h : Arr w g cs) (hb : Below B w w') (hg : g < B) : Arr w' g cs := fun i z hi =>
  ⟨(hb.cell (p := ⟨g, i, none⟩) hg).trans (h i z hi).1, (hb.frozen (p := ⟨g, i, none⟩) hg).trans (h i z hi).2⟩
theorem Arr.set_ {w : World} {g k : Nat} {cs : List Int} (h : Arr w g cs) (v : Int) : Arr (w.setCell ⟨g, k, none⟩ (.int .i64 v)) g (cs.set k v) := by
  intro i z hi
  by_cases e : k = i
  · subst e
    have hl : k < cs.length := by have := (List.getElem?_eq_some_iff.1 hi).1; simpa using this
    rw [List.getElem?_set_self hl] at hi
    injection hi with hi
    subst hi
    obtain ⟨u, hu⟩ : ∃ u, cs[k]? = some u := ⟨_, List.getElem?_eq_getElem hl⟩
    exact ⟨World.cell?_setCell_same _ _ _ (h k u hu).1, (World.frozen?_setCell _ _ _ _).trans (h k u hu).2⟩
  · rw [List.getElem?_set_ne e] at hi
    exact ⟨(World.cell?_setCell_other _ _ _ _ (by simp)).trans (h i z hi).1, (World.frozen?_setCell _ _ _ _).trans (h i z hi).2⟩
theorem Arr.new (w : World) (t : TypeId) (cs : List Int) (arr : Array Value) (h : arr = (cs.map (Value.int .i64)).toArray) : Arr (w.alloc (.cells arr t)) w.heap.size cs := by
  intro i z hi
  refine ⟨?_, World.frozen?_alloc_at _ _ _ _ rfl⟩
  rw [World.cell?_alloc_at _ _ _ _ rfl, h]
  simp [hi]
/-- Whoever was counted: each of the first k at its node; none more than k. -/
def Many (vs : List (Int × Int)) (k : Nat) (cs : List Int) : Prop := cs.length = 64 ∧ (∀ (i : Nat) (z : Int), cs[i]? = some z → 0 ≤ z ∧ z ≤ k) ∧ ∀ (q i : Nat) (z : Int), q < k → Dp.node vs q = i → cs[i]? = some z → 1 ≤ z
theorem Many.start (vs : List (Int × Int)) : Many vs 0 (List.replicate 64 0) := by
  refine ⟨by simp, fun i z hi => ?_, fun q i z hq => absurd hq (by omega)⟩
  rw [List.getElem?_replicate] at hi
  split at hi
  · injection hi with hi; omega
  · cases hi
theorem Many.step {vs : List (Int × Int)} {k i : Nat} {cs : List Int} {z : Int} (h : Many vs k cs) (hk : Dp.node vs k = i) (hz : cs[i]? = some z) : Many vs (k + 1) (cs.set i (z + 1)) := by
  obtain ⟨h1, h2, h3⟩ := h
  have hil := (List.getElem?_eq_some_iff.1 hz).1
  have hzb := h2 i z hz
  refine ⟨by simpa using h1, fun j u hj => ?_, fun q j u hq hn hj => ?_⟩
  · by_cases e : i = j
    · subst e
      rw [List.getElem?_set_self hil] at hj
      injection hj with hj
      omega
    · rw [List.getElem?_set_ne e] at hj
      have := h2 j u hj
      omega
  · by_cases e : i = j
    · subst e
      rw [List.getElem?_set_self hil] at hj
      injection hj with hj
      omega
    · rw [List.getElem?_set_ne e] at hj
      refine h3 q j u ?_ hn hj
      by_cases eq : q = k
      · subst eq
        rw [hk] at hn
        omega
      · omega

set_option maxHeartbeats 2000000 in
set_option maxRecDepth 100000 in
theorem walk (A : Option Addr) (n c : Nat) (vs : List (Int × Int)) (w : World)
    (hn : Hid (vs.length = n)) (hl : n ≤ 9223372036854775807) (hf : Hid (Fit vs)) (hv : VRow w w.heap.size A vs) :
    Calls Try.prog 7 #[.slice A n c] w fun e w' => e = .returned (.bool true) ∧ Below w.heap.size w w' := by
  go_enter Try.func7, Try.ntmps7
  go_wp2_with fail
  refine (shown_any _).mono ?_
  rintro e w1 ⟨rfl, hb1⟩
  have hv1 := (hv.below hb1).more hb1.size
  go_wp2_with fail
  refine (refProcs_any _ n c vs _ hn hl hf hv1).mono ?_
  rintro e w2 ⟨rfl, hb2⟩
  have hbe2 := hb1.trans (hb2.mono hb1.size)
  have hv2 := (hv.below hbe2).more hbe2.size
  clear hb1 hb2 hv1
  generalize hpn : Dp.procsN vs = m
  have HPN := Lib.hid hpn
  clear hpn
  by_cases h64 : n ≤ 64
  · by_cases hm0 : m = 0
    · subst hm0
      go_wp2_with fail
      go_ret
      exact ⟨rfl, hbe2⟩
    have T : Tp.Tree vs := Dp.tree_of_in (a := 0) (by omega) (by rw [HPN.out]; omega)
    have HT := Lib.hid T
    have hm64 : m ≤ 64 := by
      have := those_len (levelP 3) vs
      have e : (Tp.those (levelP 3) vs).length = m := by rw [← HPN.out, Dp.procsN_tree T]; rfl
      have := hn.out
      omega
    have s1 : ((m : Int) == 0) = false := by rw [beq_eq_false_iff_ne]; omega
    have hle := Tp.those_le (levelP 1) vs n
    rw [show vs.take n = vs from List.take_of_length_le (by have := hn.out; omega)] at hle
    clear T
    go_wp2_with fail
    refine (refOf_any A n c vs 1 _ hn hl (by omega) hv2).mono ?_
    rintro e w3 ⟨A3, c3, rfl, _, hb3⟩
    have hbe3 := hbe2.trans (hb3.mono hbe2.size)
    generalize hnn : (Tp.those (levelP 1) vs).length = nn at hle ⊢
    have HNN := Lib.hid hnn
    clear hnn hb3 hv2
    have hcore : Hid (∀ (a b : Nat), Dp.far vs a b = 1 → Dp.node vs b = Dp.node vs a) := Lib.hid (fun a b h => Dp.node_core h)
    go_wp2_with fail
    go_loopw [7] (fun q wr => ∃ (k : Nat) (cs : List Int), k ≤ m ∧ q = .int .i64 k ∧ Arr wr w3.heap.size cs ∧ Hid (Many vs k cs) ∧ Below w3.heap.size w3 wr ∧ w3.heap.size < wr.heap.size) (fun q _ => m - (intOf q).toNat)
    case atStart => exact ⟨0, List.replicate 64 0, by omega, rfl, Arr.new _ _ _ _ rfl, Lib.hid (Many.start vs), below1' _ _, by simp⟩
    case round =>
      obtain ⟨k, cs, hk, rfl, harr, hmany, hbr, hsz⟩ := hrel
      have hbe := hbe3.trans (hbr.mono hbe3.size)
      have hvr := (hv.below hbe).more hbe.size
      by_cases hkm : k < m
      · obtain ⟨i, hni, hil⟩ := Dp.node_range (vs := vs) (p := (k : Int)) (by omega) (by rw [HPN.out]; omega)
        have hinn : i < nn := by rw [← HNN.out]; exact hil
        obtain ⟨z, hz⟩ : ∃ z, cs[i]? = some z := ⟨_, List.getElem?_eq_getElem (by have := hmany.out.1; omega)⟩
        obtain ⟨z0, zk⟩ := hmany.out.2.1 i z hz
        have HM : Hid (Many vs (k + 1) (cs.set i (z + 1))) := Lib.hid (hmany.out.step hni hz)
        have HNI := Lib.hid hni
        have HZ := Lib.hid hz
        have i64 : i < 64 := by omega
        have i64' : (i : Int) < 64 := by omega
        have d1 : decide ((i : Int) < 0) = false := by simp
        have d2 : decide (nn ≤ i) = false := by simp; omega
        clear hni hil hz
        go_wp2_with fail
        refine (node_any _ n c vs k _ hn hl hf hvr).mono ?_
        rintro e w4 ⟨rfl, hb4⟩
        rw [HNI.out]
        have hbr4 := hbr.trans (hb4.mono hbr.size)
        have harr4 := harr.below hb4 hsz
        have hsz4 : w3.heap.size < w4.heap.size := Nat.lt_of_lt_of_le hsz hb4.size
        obtain ⟨hcz, hcf⟩ := harr4 i z HZ.out
        have harr5 := harr4.set_ (k := i) (z + 1)
        have hbr5 : Below w3.heap.size w3 (w4.setCell ⟨w3.heap.size, i, none⟩ (.int .i64 (z + 1))) := hbr4.setCell (Nat.le_refl _) _
        have hsz5 : w3.heap.size < (w4.setCell ⟨w3.heap.size, i, none⟩ (.int .i64 (z + 1))).heap.size := by simpa [World.setCell] using hsz4
        have HA5 := Lib.hid harr5
        clear hb4 hvr harr harr4 harr5 hbr4 hsz4 hbe
        go_wp2_with fail
        go_loopw [9] (fun q wr => ∃ (t : Nat), t ≤ m ∧ q = .int .i64 t ∧ Hid (Arr wr w3.heap.size (cs.set i (z + 1))) ∧ Below w3.heap.size w3 wr ∧ w3.heap.size < wr.heap.size) (fun q _ => m - (intOf q).toNat)
        case atStart => exact ⟨0, by omega, rfl, HA5, hbr5, hsz5⟩
        case round =>
          obtain ⟨t, ht, rfl, hat, hbt, hst⟩ := hrel
          have hbe6 := hbe3.trans (hbt.mono hbe3.size)
          have hv6 := (hv.below hbe6).more hbe6.size
          by_cases htm : t < m
          · go_wp2_with fail
            refine (far_any _ n c vs k t _ hn hl hf hv6).mono ?_
            rintro e w7 ⟨rfl, hb7⟩
            have hbt7 := hbt.trans (hb7.mono hbt.size)
            have ha7 := Lib.hid (hat.out.below hb7 hst)
            have hst7 : w3.heap.size < w7.heap.size := Nat.lt_of_lt_of_le hst hb7.size
            have hbe7 := hbe3.trans (hbt7.mono hbe3.size)
            have hv7 := (hv.below hbe7).more hbe7.size
            have hc := hcore.out k t
            generalize Dp.far vs k t = f at hc ⊢
            have HC := Lib.hid hc
            clear hc hb7 hv6 hbe6
            cases hf1 : (f == 1)
            · go_wp2_with fail
              go_roundw
              case rel => exact ⟨t + 1, by omega, by go_num, ha7, hbt7, hst7⟩
              case measure => simp [intOf]; omega
            · have hnt : Dp.node vs t = (i : Int) := by rw [HC.out (by simpa using hf1)]; exact HNI.out
              have HNT := Lib.hid hnt
              have e1 : ((i : Int) != i) = false := by simp
              clear hnt
              go_wp2_with fail
              refine (node_any _ n c vs t _ hn hl hf hv7).mono ?_
              rintro e w8 ⟨rfl, hb8⟩
              rw [HNT.out]
              have hbt8 := hbt7.trans (hb8.mono hbt7.size)
              have ha8 := Lib.hid (ha7.out.below hb8 hst7)
              have hst8 : w3.heap.size < w8.heap.size := Nat.lt_of_lt_of_le hst7 hb8.size
              go_wp2_with fail
              go_roundw
              case rel => exact ⟨t + 1, by omega, by go_num, ha8, hbt8, hst8⟩
              case measure => simp [intOf]; omega
          · go_wp2_with fail
            go_roundw
            case rel => exact ⟨k + 1, cs.set i (z + 1), by omega, by go_num, hat.out, HM, hbt, hst⟩
            case measure => simp [intOf]; omega
      · have hkk : k = m := by omega
        have hall : Hid (∀ i z, i < nn → cs[i]? = some z → 1 ≤ z) := Lib.hid (fun i z hi hz => by
          obtain ⟨q, hq, e⟩ := Dp.node_all HT.out (k := i) (by have := HNN.out; unfold Dp.nodes; exact Nat.lt_of_lt_of_eq hi this.symm)
          exact hmany.out.2.2 q i z (by rw [HPN.out] at hq; omega) e hz)
        have hcl : Hid (cs.length = 64) := Lib.hid hmany.out.1
        clear hmany hkk
        go_wp2_with fail
        go_loop [10] (fun q => ∃ t : Nat, t ≤ nn ∧ q = .int .i64 t) (fun q => nn - (intOf q).toNat)
        case atStart => exact ⟨0, by omega, rfl⟩
        case round =>
          obtain ⟨t, ht, rfl⟩ := hrel
          by_cases htn : t < nn
          · obtain ⟨z, hz⟩ : ∃ z, cs[t]? = some z := ⟨_, List.getElem?_eq_getElem (by have := hcl.out; omega)⟩
            have hz1 := hall.out t z htn hz
            obtain ⟨hcz, _⟩ := harr t z hz
            have q1 : (z == 0) = false := by rw [beq_eq_false_iff_ne]; omega
            have i64 : t < 64 := by omega
            have i64' : (t : Int) < 64 := by omega
            clear hz
            go_wp2_with fail
            go_round
            case rel => exact ⟨t + 1, by omega, by go_num⟩
            case measure => simp [intOf]; omega
          · go_wp2_with fail
            go_ret
            exact ⟨rfl, hbe⟩
  · go_wp2_with fail
    go_ret
    exact ⟨rfl, hbe2⟩
set_option maxRecDepth 100000 in
theorem lifted (os : Os) (started : os.Started) (H : Type) (enc : TypeId × Value → H) :
    ReturnsInHanded {} Try.checked os 7 .any (Rows.distNodesSpec.pre6 enc Try.prog Try.f7 Rows.distNodesRow.domain false) (Rows.distNodesSpec.post enc Try.prog Try.f7 false true false false) := by
  refine returnsInHanded_of_change (C := Try.checked) own started (by kernel_rfl) Try.func7
    (ChangeSpec.witness6 (enc := enc) (C := Try.checked) false ⟨#[], #[.slice none 0 0], []⟩ 8 (by kernel_rfl) (by kernel_rfl) (by kernel_rfl) (by kernel_rfl)) ?_
  intro W base args ds gs before hval0 hW hcnd _
  have hval : ∀ (j : Nat) t v, Try.f7.params[j]? = some t → args[j]? = some v → Value.okWide Try.prog W .any base t v := hval0
  have hW' := hW
  obtain ⟨p, q, hA0, hV, rfl, hfz, hnd⟩ := hW
  have hA : DataW.TrodAll enc Try.prog W 0 (fun _ => true) true Try.f7.params.toList args.toList ds p := hA0
  rw [Try.params7] at hA hval
  obtain ⟨v0, vs0, d0, ds0, p0, q0, hargs, rfl, rfl, h0, r0⟩ := trodAll_cons hA
  obtain ⟨rfl, rfl, rfl⟩ := trodAll_nil r0
  obtain rfl : args = #[v0] := by cases args; simp_all
  obtain ⟨rfl, rfl⟩ := trodVars_none hV
  obtain ⟨a0, len0, cap0, rfl⟩ := okWide_slice Try.underlying22 (hval 0 22 v0 rfl rfl)
  have k0 := h0
  have lt0 : ∀ x ∈ p0, x.block < W.heap.size := by obtain ⟨m, hm⟩ := k0; exact DataW.trod_lt m _ _ _ hm
  obtain ⟨hl0, hc0, z0, hn0, hf0, hr0⟩ : len0 ≤ 9223372036854775807 ∧ (len0 ≤ cap0 ∧ cap0 ≤ 9223372036854775807) ∧ ∃ vs : List (Int × Int), vs.length = len0 ∧ Fit vs ∧ VRow W W.heap.size a0 vs := by
    obtain ⟨fuel, hf⟩ := h0
    exact open_vs (by simpa [Value.cells] using hf)
  clear hA0 hval0
  refine (walk a0 len0 cap0 z0 W (Lib.hid hn0) hl0 (Lib.hid hf0) hr0).mono fun e W' ⟨he, bel⟩ => ?_
  subst he
  exact ⟨_, rfl, _, _, _, [], _, [], hW', trodAll_mk1 (shut_bool Try.underlying4 _), (trodAll_cons_mk (Below.trod laidOut (by kernel_rfl) (of_decide_eq_true (by kernel_rfl)) k0 bel lt0) trodAll_mk0), rfl, bel.frame _, fun h => by cases h⟩
theorem over : Rows.distNodesRow.holds Try.pinned (OpenSpec.ofChange Rows.distNodesSpec) :=
  OpenClaim.holds_of_wide 7 Try.f7 rfl rfl rfl rfl rfl rfl rfl ⟨rfl, rfl, rfl, rfl, rfl⟩ rfl rfl rfl rfl rfl (by kernel_rfl) Try.func7 (by kernel_rfl)
    (of_decide_eq_true (by kernel_rfl)) (by unfold Func.isWrapper; first | (rw [if_pos (by decide +kernel)]; kernel_rfl) | (rw [if_neg (by decide +kernel)]; exact ⟨rfl, rfl⟩))
    (fun os started H enc _ => lifted os started H enc)
theorem proved : Rows.DistNodesSaid := over
end Go.Proofs.Ytkjcihdejileoaa.distNodes

