/- The document's New, by its contract. -/
import Derived.Test.YtgloibgmaiadfaaDoorJMade
import Derived.Test.YtgloibgmaiadfaaDoorM4
namespace Go.Proofs.YtgloibgmaiadfaaDoor
open Go.RowKit
set_option linter.unusedVariables false

def pw (k : Nat) : Nat := 2 ^ k
theorem pow_up {k : Nat} (hk : k < 32) : IntKind.u64.wrap ((pm k : Int) + (pw k : Int)) = (pm (k + 1) : Int) ∧ IntKind.u64.wrap ((pw k : Int) * 2) = (pw (k + 1) : Int) := by
  have h1 : 2 ^ k ≤ 4294967296 := by
    have := Nat.pow_le_pow_right (n := 2) (by decide) (show k ≤ 32 by omega)
    simpa using this
  have h2 : 1 ≤ 2 ^ k := Nat.one_le_two_pow
  have h3 : 2 ^ (k + 1) = 2 ^ k * 2 := Nat.pow_succ ..
  unfold pm pw
  refine ⟨?_, ?_⟩
  · rw [show (((2 ^ k - 1 : Nat) : Int) + ((2 ^ k : Nat) : Int)) = ((2 ^ (k + 1) - 1 : Nat) : Int) by omega]
    exact wrap_nat _ (by omega) _ rfl
  · rw [show (((2 ^ k : Nat) : Int) * 2) = ((2 ^ (k + 1) : Nat) : Int) by omega]
    exact wrap_nat _ (by omega) _ rfl
set_option maxRecDepth 100000 in
set_option maxHeartbeats 4000000 in
theorem jrefNew_any {F : Nat → Prop} (A0 : Option Addr) (nt ct : Nat) (vs : List (Int × Int)) (size : Int) (w : World) (hn : Hid (vs.length = nt)) (hl : nt ≤ 9223372036854775807) (hf : Hid (Fit vs)) (hv : VRow w w.heap.size A0 vs) (hlie : vs ≠ [] → ∀ ad, A0 = some ad → F ad.block) (hF : ∀ b, F b → b < w.heap.size) (hs : In64 size) :
    Calls Tryd.prog 10 #[.slice A0 nt ct, .int .i64 size] w (TellJE F w (Jp.new vs size)) := by
  have HV := Lib.hid hv
  have HVR := Lib.hid hv
  have HFT := Lib.hid hf.out
  have HLI := Lib.hid hlie
  have HFW := Lib.hid hF
  have HSZ := Lib.hid hs
  have hz := C5.new w (.slice none 0 0) (.int .i64 0) (.slice none 0 0) (.slice none 0 0) (.int .u64 0) 35
  have hb := below_new w (.cells #[.slice none 0 0, .int .i64 0, .slice none 0 0, .slice none 0 0, .int .u64 0] 35)
  obtain ⟨V, hV⟩ : ∃ V, V = w.alloc (.cells #[.slice none 0 0, .int .i64 0, .slice none 0 0, .slice none 0 0, .int .u64 0] 35) := ⟨_, rfl⟩
  rw [← hV] at hz hb
  have E := Lib.hid hV
  have Z0 := Lib.hid hz
  have B0 := Lib.hid hb
  have HC := Lib.hid (refCheck_any A0 nt ct vs V hn hl hf ((hv.below hb).more hb.size))
  clear hV hz hb hv hlie hF hs
  go_enter Tryd.func10, Tryd.ntmps10
  go_wp2_with (rw [← E.out])
  clear E
  refine HC.out.mono ?_
  rintro e w1 ⟨rfl, hb1⟩
  have Z1 := Lib.hid (Z0.out.step hb1)
  have B1 := Lib.hid (held_trans B0.out hb1)
  clear hb1 HC Z0 B0
  by_cases hm : ¬ Tp.may vs = true
  · have hm' : Tp.may vs = false := by cases e : Tp.may vs; rfl; exact absurd e hm
    have HP := Lib.hid (show Jp.new vs size = (Jp.zero, 2) by unfold Jp.new; rw [if_pos hm'])
    rw [hm']
    have n0 : ((Tp.errno false : Int) != 0) = true := rfl
    obtain ⟨k0, k1, k2, k3, k4⟩ := put5_told Z1.out (.slice none 0 0) (.int .i64 0) (.slice none 0 0) (.slice none 0 0) (.int .u64 0)
    have HF := Lib.hid (TellJE.is (F := F) (w0 := w) (d := ⟨none, 0, 0, none, 0, 0, none, 0, 0⟩) (r := Jp.zero) (e := 2) (HP.out) (rm_zero (More F w) _) (below_put (b := w.heap.size) B1.out (Nat.le_refl _) (.slice none 0 0) (.int .i64 0) (.slice none 0 0) (.slice none 0 0) (.int .u64 0)))
    have y0 := Z1.out.b5.c0
    have y1 := Z1.out.b5.c1
    have y2 := Z1.out.b5.c2
    have y3 := Z1.out.b5.c3
    have y4 := Z1.out.b5.c4
    have g0 := Z1.out.f0
    have g1 := Z1.out.f1
    have g2 := Z1.out.f2
    have g3 := Z1.out.f3
    have g4 := Z1.out.f4
    unfold put5 at k0 k1 k2 k3 k4
    go_wp2_with fail
    refine bodyPost_ret ?_ rfl HF.out
    simp [results, Tryd.results10, go_sem, k0, k1, k2, k3, k4, jv, Jp.zero]
  have hm := Classical.not_not.1 hm
  have hmF : ¬ Tp.may vs = false := by rw [hm]; decide
  rw [hm]
  have n0 : ((Tp.errno true : Int) != 0) = false := rfl
  by_cases s1 : size < 2
  · have HP := Lib.hid (show Jp.new vs size = (Jp.zero, 1) by unfold Jp.new; rw [if_neg hmF, if_pos (.inl s1)])
    obtain ⟨k0, k1, k2, k3, k4⟩ := put5_told Z1.out (.slice none 0 0) (.int .i64 0) (.slice none 0 0) (.slice none 0 0) (.int .u64 0)
    have HF := Lib.hid (TellJE.is (F := F) (w0 := w) (d := ⟨none, 0, 0, none, 0, 0, none, 0, 0⟩) (r := Jp.zero) (e := 1) (HP.out) (rm_zero (More F w) _) (below_put (b := w.heap.size) B1.out (Nat.le_refl _) (.slice none 0 0) (.int .i64 0) (.slice none 0 0) (.slice none 0 0) (.int .u64 0)))
    have y0 := Z1.out.b5.c0
    have y1 := Z1.out.b5.c1
    have y2 := Z1.out.b5.c2
    have y3 := Z1.out.b5.c3
    have y4 := Z1.out.b5.c4
    have g0 := Z1.out.f0
    have g1 := Z1.out.f1
    have g2 := Z1.out.f2
    have g3 := Z1.out.f3
    have g4 := Z1.out.f4
    unfold put5 at k0 k1 k2 k3 k4
    go_wp2_with fail
    refine bodyPost_ret ?_ rfl HF.out
    simp [results, Tryd.results10, go_sem, k0, k1, k2, k3, k4, jv, Jp.zero]
  by_cases s2 : 16 < size
  · have HP := Lib.hid (show Jp.new vs size = (Jp.zero, 1) by unfold Jp.new; rw [if_neg hmF, if_pos (.inr s2)])
    obtain ⟨k0, k1, k2, k3, k4⟩ := put5_told Z1.out (.slice none 0 0) (.int .i64 0) (.slice none 0 0) (.slice none 0 0) (.int .u64 0)
    have HF := Lib.hid (TellJE.is (F := F) (w0 := w) (d := ⟨none, 0, 0, none, 0, 0, none, 0, 0⟩) (r := Jp.zero) (e := 1) (HP.out) (rm_zero (More F w) _) (below_put (b := w.heap.size) B1.out (Nat.le_refl _) (.slice none 0 0) (.int .i64 0) (.slice none 0 0) (.slice none 0 0) (.int .u64 0)))
    have y0 := Z1.out.b5.c0
    have y1 := Z1.out.b5.c1
    have y2 := Z1.out.b5.c2
    have y3 := Z1.out.b5.c3
    have y4 := Z1.out.b5.c4
    have g0 := Z1.out.f0
    have g1 := Z1.out.f1
    have g2 := Z1.out.f2
    have g3 := Z1.out.f3
    have g4 := Z1.out.f4
    unfold put5 at k0 k1 k2 k3 k4
    go_wp2_with fail
    refine bodyPost_ret ?_ rfl HF.out
    simp [results, Tryd.results10, go_sem, k0, k1, k2, k3, k4, jv, Jp.zero]
  have HP := Lib.hid (show Jp.new vs size = (Jp.made vs size, 0) by unfold Jp.new; rw [if_neg hmF, if_neg (by omega)])
  have TR := (Tp.tree_iff vs).1 hm
  have hnt : nt ≤ 64 := by have := TR.few; have := hn.out; omega
  have h32 : (Dp.procs vs).length ≤ 32 := by have := TR.procs; simpa [Dp.procs] using this
  have h64 : (Dp.nodes vs).length ≤ 64 := by
    have := Tp.those_le (fun x => x.2 == 1) vs nt
    rw [List.take_of_length_le (by have := hn.out; omega)] at this
    simp only [Dp.nodes]
    omega
  have hO := C5.new w1 (.slice A0 nt ct) (.int .i64 size) (.slice none 0 0) (.slice none 0 0) (.int .u64 0) 35
  have hb2 := below_new w1 (.cells #[.slice A0 nt ct, .int .i64 size, .slice none 0 0, .slice none 0 0, .int .u64 0] 35)
  obtain ⟨V0, hV0⟩ : ∃ V0, V0 = w1.alloc (.cells #[.slice A0 nt ct, .int .i64 size, .slice none 0 0, .slice none 0 0, .int .u64 0] 35) := ⟨_, rfl⟩
  have hsz0 : V0.heap.size = w1.heap.size + 1 := by rw [hV0]; simp
  rw [← hV0] at hO hb2
  have E0 := Lib.hid hV0
  have O0 := Lib.hid hO
  have Z0 := Lib.hid (Z1.out.step hb2)
  have B0 := Lib.hid (held_trans B1.out hb2)
  have SZ := Lib.hid hsz0
  have HX := Lib.hid (show w.heap.size < w1.heap.size from Z1.out.lt)
  obtain ⟨X, hX⟩ : ∃ X, X = w1.heap.size := ⟨_, rfl⟩
  rw [← hX] at O0 SZ HX
  have HXE := Lib.hid hX
  generalize hnp : (Dp.procs vs).length = np at *
  generalize hnn : (Dp.nodes vs).length = nn at *
  have HNP := Lib.hid (show (Tp.those (levelP 3) vs).length = np from hnp)
  have HNN := Lib.hid (show (Tp.those (levelP 1) vs).length = nn from hnn)
  have OF := Lib.hid (fun lv W (h : Below w.heap.size w W) => refOf_any A0 nt ct vs lv W hn (by omega) (by omega) ((HV.out.below h).more h.size))
  have HPN := Lib.hid hnp
  have HQN := Lib.hid hnn
  clear hV0 hO hb2 hsz0 hX hnp hnn Z1 B1 HV TR hm hmF n0 hf
  go_wp2_with (rw [← E0.out])
  rw [← HXE.out]
  clear E0 HXE
  go_loopw [7, 8] (fun b i wr => ∃ k : Nat, k ≤ np ∧ i = .int .i64 k ∧ b = .int .u64 (pw k : Nat) ∧ ∃ v, Hid (XO csG 2 65 V0.heap.size wr v k (List.replicate k noRing)) ∧ Hid (C5 wr X (.slice A0 nt ct) (.int .i64 size) v (.slice none 0 0) (.int .u64 (pm k : Nat))) ∧ Hid (C5 wr w.heap.size (.slice none 0 0) (.int .i64 0) (.slice none 0 0) (.slice none 0 0) (.int .u64 0)) ∧ Hid (Below w.heap.size w wr) ∧ Hid (V0.heap.size ≤ wr.heap.size)) (fun _ i _ => np - (intOf i).toNat)
  case atStart => exact ⟨0, Nat.zero_le _, rfl, rfl, _, Lib.hid (XO.none _ _), O0, Z0, B0, Lib.hid (Nat.le_refl _)⟩
  case round =>
    obtain ⟨k, hk, rfl, rfl, v, XK, OK, ZK, BK, HVB⟩ := hrel
    go_wp2_with fail
    refine (OF.out 3 _ BK.out).mono ?_
    rintro e w2 ⟨A2, c2, rfl, _, hb2⟩
    rw [HNP.out]
    have O2 := OK.out.step hb2
    have Z2 := ZK.out.step hb2
    have B2 := held_trans BK.out hb2
    have X2 := XK.out.step hb2
    have HVB2 := Nat.le_trans HVB.out hb2.size
    obtain ⟨vA, vc, rfl⟩ := own_form XK.out.own
    by_cases hlt : k < np
    · have o2 := O2.b5.c2
      have q2 := O2.f2
      obtain ⟨pu1, pu2⟩ := pow_up (k := k) (by omega)
      have hnews := one_new (T := 65) w2 noRing
      have hbn := below_new w2 (.cells #[.int .i64 0, .slice none 0 0] 65)
      have X3 := Lib.hid (X2.step hbn)
      have HN3 := Lib.hid (show ∀ j u, ([noRing].flatMap csG)[j]? = some u → (w2.alloc (.cells #[.int .i64 0, .slice none 0 0] 65)).cell? ((⟨w2.heap.size, 0, none⟩ : Addr).add j) = some u from hnews)
      have O3 := Lib.hid (O2.step hbn)
      have Z3 := Lib.hid (Z2.step hbn)
      have B3 := Lib.hid (held_trans B2 hbn)
      have HV3 := Lib.hid (Nat.le_trans HVB2 hbn.size)
      clear hnews hbn X2 O2 Z2 B2 hb2
      go_wp2_with (at_builtin; refine wpList_append_rring rfl _ _ rfl V0.heap.size (.slice vA k vc) k (List.replicate k noRing) X3.out rfl ⟨w2.heap.size, 0, none⟩ 1 1 [noRing] rfl rfl HN3.out (noRing_row _ 1) (noRing_apart _ 1) (by decide) (by omega) HV3.out ?_)
      intro g cap w' hx hg
      have hgk : ∀ j, (Value.slice vA k vc).ownBlock = some j → V0.heap.size ≤ j := fun j hj => (XK.out.own.lt j hj).1
      have hne : ∀ j, j ≤ X → some j ≠ (Value.slice vA k vc).ownBlock := fun j hj e => by
        have := hgk j e.symm
        have := SZ.out
        omega
      have hgb := hx.own.lt g rfl
      have O4 := O3.out.grown hg (hne _ (Nat.le_refl _))
      have Z4 := Z3.out.grown hg (hne _ (by have := HX.out; omega))
      have B4 := B3.out.grown hg B3.out.size (fun j hj => by have := hgk j hj; have := SZ.out; have := HX.out; omega)
      have o4 := O4.b5.c2
      have q4 := O4.f2
      have O5 := O4.set2 (.slice (some ⟨g, 0, none⟩) (k + 1) cap)
      have o5 := O5.b5.c4
      have q5 := O5.f4
      have O6 := Lib.hid (O5.set4 (.int .u64 (pm (k + 1) : Nat)))
      have Z6 := Lib.hid ((Z4.far (p := ⟨X, 2, none⟩) (u := .slice (some ⟨g, 0, none⟩) (k + 1) cap) (by have := HX.out; simp only; omega)).far (p := ⟨X, 4, none⟩) (u := .int .u64 (pm (k + 1) : Nat)) (by have := HX.out; simp only; omega))
      have B6 := Lib.hid ((B4.setCell (p := ⟨X, 2, none⟩) (by have := HX.out; simp only; omega) (.slice (some ⟨g, 0, none⟩) (k + 1) cap)).setCell (p := ⟨X, 4, none⟩) (by have := HX.out; simp only; omega) (.int .u64 (pm (k + 1) : Nat)))
      have hlie := noRing_lie (fun b => b ≠ X) (k + 1)
      rw [show List.replicate k noRing ++ [noRing] = List.replicate (k + 1) noRing from List.replicate_succ'.symm] at hx
      have XK6 := Lib.hid ((hx.far (X := X) (j := 2) (u := .slice (some ⟨g, 0, none⟩) (k + 1) cap) (by have := SZ.out; omega) hlie).far (X := X) (j := 4) (u := .int .u64 (pm (k + 1) : Nat)) (by have := SZ.out; omega) hlie)
      have HV6 := Lib.hid (show V0.heap.size ≤ ((w'.setCell ⟨X, 2, none⟩ (.slice (some ⟨g, 0, none⟩) (k + 1) cap)).setCell ⟨X, 4, none⟩ (.int .u64 (pm (k + 1) : Nat))).heap.size from by have := hgb; simp [World.setCell]; omega)
      clear hx hg hgk hne hgb O4 Z4 B4 O5 hlie X3 O3 Z3 B3 HV3 HN3 o2 q2
      go_wp2_with fail
      go_roundw
      case rel => exact ⟨k + 1, by omega, by go_num, rfl, _, XK6, O6, Z6, B6, HV6⟩
      case measure => simp [intOf]; omega
    · obtain rfl : np = k := by omega
      have XG := Lib.hid X2
      have OG := Lib.hid O2
      have ZG := Lib.hid Z2
      have BG := Lib.hid B2
      have HVG := Lib.hid HVB2
      have GVB := Lib.hid (show ∀ q, (Value.slice vA np vc).ownBlock = some q → q < w2.heap.size from fun q hq => (X2.own.lt q hq).2)
      obtain ⟨wo, rfl⟩ : ∃ wo : World, wo = w2 := ⟨_, rfl⟩
      clear X2 O2 Z2 B2 HVB2 XK OK ZK BK HVB hb2
      go_wp2_with fail
      obtain ⟨vG, hvG⟩ : ∃ vG, vG = Value.slice vA np vc := ⟨_, rfl⟩
      rw [← hvG] at XG OG GVB
      have GLO := Lib.hid (show ∀ q, vG.ownBlock = some q → X < q from fun q hq => by have h1 := (XG.out.own.lt q hq).1; have h2 := SZ.out; omega)
      obtain ⟨bG, RG0⟩ : ∃ bG, Hid (XO csG 2 65 bG wo vG np (List.replicate np noRing)) := ⟨_, XG⟩
      have XD := Lib.hid (show ∃ A c, vG = .slice A np c from ⟨vA, vc, hvG⟩)
      have SZ2 := Lib.hid (show X < wo.heap.size by have := SZ.out; have := HVG.out; omega)
      clear XG SZ HVG hvG
      obtain ⟨V1, hV1⟩ : ∃ V1, V1 = wo := ⟨_, rfl⟩
      have SZ := Lib.hid (show X < V1.heap.size by rw [hV1]; exact SZ2.out)
      have HV1 := Lib.hid (show V1.heap.size ≤ wo.heap.size by rw [hV1]; exact Nat.le_refl _)
      rw [← hV1] at GVB
      clear hV1 SZ2
      go_loopw [9] (fun i wr => ∃ k : Nat, k ≤ nn ∧ i = .int .i64 k ∧ ∃ v, Hid (XO csL 1 41 V1.heap.size wr v k (List.replicate k noRing)) ∧ Hid (C5 wr X (.slice A0 nt ct) (.int .i64 size) vG v (.int .u64 (pm np : Nat))) ∧ Hid (C5 wr w.heap.size (.slice none 0 0) (.int .i64 0) (.slice none 0 0) (.slice none 0 0) (.int .u64 0)) ∧ Hid (Below w.heap.size w wr) ∧ Hid (V1.heap.size ≤ wr.heap.size) ∧ Hid (XO csG 2 65 bG wr vG np (List.replicate np noRing))) (fun i _ => nn - (intOf i).toNat)
      case atStart => exact ⟨0, Nat.zero_le _, rfl, _, Lib.hid (XO.none _ _), OG, ZG, BG, HV1, RG0⟩
      case round =>
        clear OG ZG BG HV1 RG0
        obtain ⟨k, hk, rfl, v, XK, OK, ZK, BK, HVB, RG⟩ := hrel
        go_wp2_with fail
        refine (OF.out 1 _ BK.out).mono ?_
        rintro e w2 ⟨A2, c2, rfl, _, hb2⟩
        rw [HNN.out]
        have O2 := OK.out.step hb2
        have Z2 := ZK.out.step hb2
        have B2 := held_trans BK.out hb2
        have X2 := XK.out.step hb2
        have R2 := RG.out.step hb2
        have HVB2 := Nat.le_trans HVB.out hb2.size
        obtain ⟨vB, vd, rfl⟩ := own_form XK.out.own
        by_cases hlt : k < nn
        · have o2 := O2.b5.c3
          have q2 := O2.f3
          have hnews := one_new1 (T := 41) w2 noRing
          have hbn := below_new w2 (.cells #[.slice none 0 0] 41)
          have X3 := Lib.hid (X2.step hbn)
          have HN3 := Lib.hid (show ∀ j u, ([noRing].flatMap csL)[j]? = some u → (w2.alloc (.cells #[.slice none 0 0] 41)).cell? ((⟨w2.heap.size, 0, none⟩ : Addr).add j) = some u from hnews)
          have O3 := Lib.hid (O2.step hbn)
          have Z3 := Lib.hid (Z2.step hbn)
          have B3 := Lib.hid (held_trans B2 hbn)
          have R3 := Lib.hid (R2.step hbn)
          have HV3 := Lib.hid (Nat.le_trans HVB2 hbn.size)
          clear hnews hbn X2 O2 Z2 B2 hb2 R2
          go_wp2_with (at_builtin; refine wpList_append_rows rfl _ _ rfl V1.heap.size (.slice vB k vd) k (List.replicate k noRing) X3.out rfl ⟨w2.heap.size, 0, none⟩ 1 1 [noRing] rfl rfl HN3.out (noRing_row _ 1) (noRing_apart _ 1) (by decide) (by omega) HV3.out ?_)
          intro g cap w' hx hg
          have hgk : ∀ j, (Value.slice vB k vd).ownBlock = some j → V1.heap.size ≤ j := fun j hj => (XK.out.own.lt j hj).1
          have hne : ∀ j, j ≤ X → some j ≠ (Value.slice vB k vd).ownBlock := fun j hj e => by
            have := hgk j e.symm
            have := SZ.out
            omega
          have hgb := hx.own.lt g rfl
          have O4 := O3.out.grown hg (hne _ (Nat.le_refl _))
          have Z4 := Z3.out.grown hg (hne _ (by have := HX.out; omega))
          have B4 := B3.out.grown hg B3.out.size (fun j hj => by have := hgk j hj; have := SZ.out; have := HX.out; omega)
          have R4 := R3.out.grown hg (by
            cases e : vG.ownBlock with
            | none => exact .inl rfl
            | some q => exact .inr (fun e' => by have h1 := hgk q e'.symm; have h2 := GVB.out q e; omega)) (noRing_lie (fun b => (Value.slice vB k vd).ownBlock ≠ some b) np)
          have o4 := O4.b5.c3
          have q4 := O4.f3
          have O6 := Lib.hid (O4.set3 (.slice (some ⟨g, 0, none⟩) (k + 1) cap))
          have Z6 := Lib.hid (Z4.far (p := ⟨X, 3, none⟩) (u := .slice (some ⟨g, 0, none⟩) (k + 1) cap) (by have := HX.out; simp only; omega))
          have B6 := Lib.hid (B4.setCell (p := ⟨X, 3, none⟩) (by have := HX.out; simp only; omega) (.slice (some ⟨g, 0, none⟩) (k + 1) cap))
          have hlie := noRing_lie (fun b => b ≠ X) (k + 1)
          rw [show List.replicate k noRing ++ [noRing] = List.replicate (k + 1) noRing from List.replicate_succ'.symm] at hx
          have XK6 := Lib.hid (hx.far (X := X) (j := 3) (u := .slice (some ⟨g, 0, none⟩) (k + 1) cap) (by have := SZ.out; omega) hlie)
          have R6 := Lib.hid (R4.farv (X := X) (j := 3) (u := .slice (some ⟨g, 0, none⟩) (k + 1) cap) (fun e => by have := GLO.out _ e; omega) (noRing_lie (fun b => b ≠ X) np))
          have HV6 := Lib.hid (show V1.heap.size ≤ (w'.setCell ⟨X, 3, none⟩ (.slice (some ⟨g, 0, none⟩) (k + 1) cap)).heap.size from by have := hgb; simp [World.setCell]; omega)
          clear hx hg hgk hne hgb O4 Z4 B4 R4 hlie X3 O3 Z3 B3 R3 HV3 HN3 o2 q2
          go_wp2_with fail
          go_roundw
          case rel => exact ⟨k + 1, by omega, by go_num, _, XK6, O6, Z6, B6, HV6, R6⟩
          case measure => simp [intOf]; omega
        · obtain rfl : nn = k := by omega
          have t0 := O2.b5.c0
          have t1 := O2.b5.c1
          have t2 := O2.b5.c2
          have t3 := O2.b5.c3
          have t4 := O2.b5.c4
          have y0 := Z2.b5.c0
          have y1 := Z2.b5.c1
          have y2 := Z2.b5.c2
          have y3 := Z2.b5.c3
          have y4 := Z2.b5.c4
          have g0 := Z2.f0
          have g1 := Z2.f1
          have g2 := Z2.f2
          have g3 := Z2.f3
          have g4 := Z2.f4
          obtain ⟨A5, c5, e5, hx5, hf5⟩ := X2.xr csL_len (by decide)
          injection e5 with e51 _ e52
          subst e51 e52
          obtain ⟨A6, c6, hvg6⟩ := XD.out
          subst hvg6
          obtain ⟨A7, c7, e7, hx7, _⟩ := R2.xr csG_len (by decide)
          injection e7 with e71 _ e72
          subst e71 e72
          have hxx := HX.out
          have hss := SZ.out
          have B9 := below_put (b := w.heap.size) B2 (Nat.le_refl _) (.slice A0 nt ct) (.int .i64 size) (.slice A6 np c6) (.slice vB nn vd) (.int .u64 (pm np : Nat))
          have hgl : ∀ ad, A6 = some ad → X < ad.block := fun ad e => GLO.out _ (by rw [e]; rfl)
          have hlieG : LieE (More F w) A6 (List.replicate np noRing) := ⟨fun _ ad e => .inr (by have := hgl ad e; omega), noRing_lie _ np⟩
          have hlieL : LieE (More F w) vB (List.replicate nn noRing) := ⟨fun _ ad e => .inr (by have := hf5 ad e; omega), noRing_lie _ nn⟩
          have hXG : LieE (fun b => b ≠ w.heap.size) A6 (List.replicate np noRing) := ⟨fun _ ad e => by have := hgl ad e; omega, noRing_lie (fun b => b ≠ w.heap.size) np⟩
          have hXL : LieE (fun b => b ≠ w.heap.size) vB (List.replicate nn noRing) := ⟨fun _ ad e => by have := hf5 ad e; omega, noRing_lie (fun b => b ≠ w.heap.size) nn⟩
          have hx9 := ((((hx5.farj (j := 0) (u := .slice A0 nt ct) hXL).farj (j := 1) (u := .int .i64 size) hXL).farj (j := 2) (u := .slice A6 np c6) hXL).farj (j := 3) (u := .slice vB nn vd) hXL).farj (j := 4) (u := .int .u64 (pm np : Nat)) hXL
          have hy9 := ((((hx7.farj (j := 0) (u := .slice A0 nt ct) hXG).farj (j := 1) (u := .int .i64 size) hXG).farj (j := 2) (u := .slice A6 np c6) hXG).farj (j := 3) (u := .slice vB nn vd) hXG).farj (j := 4) (u := .int .u64 (pm np : Nat)) hXG
          have hpm : pm np < 18446744073709551616 := by
            have := Nat.pow_le_pow_right (n := 2) (by decide) (show np ≤ 32 by omega)
            unfold pm
            omega
          have HM : RM (More F w) (put5 w2 w.heap.size (.slice A0 nt ct) (.int .i64 size) (.slice A6 np c6) (.slice vB nn vd) (.int .u64 (pm np : Nat))) ⟨A0, nt, ct, A6, np, c6, vB, nn, vd⟩ (Jp.made vs size) :=
            ⟨hn.out, hl, HFT.out, (HVR.out.below B9).more B9.size, fun h1 ad h2 => .inl (HLI.out h1 ad h2), ⟨_, hy9, by unfold Jp.made; simp only; rw [HPN.out, List.map_replicate]; rfl, hlieG⟩, ⟨_, hx9, by unfold Jp.made; simp only; rw [HQN.out, List.map_replicate]; rfl, hlieL⟩, by unfold Jp.made; simp only; rw [HPN.out]; exact hpm, HSZ.out⟩
          have HF := Lib.hid (TellJE.is (F := F) (w0 := w) (d := ⟨A0, nt, ct, A6, np, c6, vB, nn, vd⟩) (r := Jp.made vs size) (e := 0) HP.out HM B9)
          obtain ⟨k0, k1, k2, k3, k4⟩ := put5_told Z2 (.slice A0 nt ct) (.int .i64 size) (.slice A6 np c6) (.slice vB nn vd) (.int .u64 (pm np : Nat))
          have HON := Lib.hid (show (Jp.made vs size).on = pm np from by unfold Jp.made pm; simp only; rw [HPN.out])
          have HSI := Lib.hid (show (Jp.made vs size).size = size from rfl)
          unfold put5 at k0 k1 k2 k3 k4
          clear B9 hlieG hlieL hXG hXL hx9 hy9 HM hx5 hx7 hf5 hgl X2 R2 O2 Z2 B2 hb2
          go_wp2_with fail
          refine bodyPost_ret ?_ rfl HF.out
          simp [results, Tryd.results10, go_sem, k0, k1, k2, k3, k4, jv, HON.out, HSI.out]
end Go.Proofs.YtgloibgmaiadfaaDoor

