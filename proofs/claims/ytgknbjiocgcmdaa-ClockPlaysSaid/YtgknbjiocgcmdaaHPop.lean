/- Len, First, Pop, by their contracts. -/
import Derived.Test.YtgknbjiocgcmdaaHPush
namespace Go.Proofs.Ytgknbjiocgcmdaa
open Go.RowKit
set_option linter.unusedVariables false
variable {R : Nat → Value → Prop}

theorem len_nil (w : World) : Calls Try.prog 32 #[.pointer none] w fun e w' => e = .returned (.int .i64 0) ∧ w' = w := by
  go_enter Try.func32, Try.ntmps32
  go_wp2_with fail
  go_ret
  exact ⟨rfl, rfl⟩
theorem len_any (b : Nat) (F : Nat → Prop) (l : List Hp.Tm) (w : World) (h : HM R w b F l) : Calls Try.prog 32 #[.pointer (some ⟨b, 0, none⟩)] w fun e w' => e = .returned (.int .i64 l.length) ∧ w' = w := by
  obtain ⟨A, c, h1, h2, h3⟩ := h.mem
  obtain ⟨n, hn⟩ : ∃ n, n = l.length := ⟨_, rfl⟩
  rw [← hn] at h1 ⊢
  clear h h2 h3 hn
  go_enter Try.func32, Try.ntmps32
  go_wp2_with fail
  go_ret
  exact ⟨rfl, rfl⟩
def tv (x : Hp.Tm) : Value := .agg #[.int .i64 x.1, .int .i64 x.2.1, .int .i64 x.2.2]
/-- Three cells of one block, written. -/
theorem told3 {W : World} {X : Nat} {a b c u v z : Value} (h0 : W.cell? ⟨X, 0, Option.none⟩ = some a) (h1 : W.cell? ⟨X, 1, Option.none⟩ = some b) (h2 : W.cell? ⟨X, 2, Option.none⟩ = some c) :
    (((W.setCell ⟨X, 0, Option.none⟩ u).setCell ⟨X, 1, Option.none⟩ v).setCell ⟨X, 2, Option.none⟩ z).cell? ⟨X, 0, Option.none⟩ = some u ∧ (((W.setCell ⟨X, 0, Option.none⟩ u).setCell ⟨X, 1, Option.none⟩ v).setCell ⟨X, 2, Option.none⟩ z).cell? ⟨X, 1, Option.none⟩ = some v ∧ (((W.setCell ⟨X, 0, Option.none⟩ u).setCell ⟨X, 1, Option.none⟩ v).setCell ⟨X, 2, Option.none⟩ z).cell? ⟨X, 2, Option.none⟩ = some z := by
  have oth : ∀ (W : World) o o' u, o ≠ o' → (W.setCell ⟨X, o', Option.none⟩ u).cell? ⟨X, o, Option.none⟩ = W.cell? ⟨X, o, Option.none⟩ := fun W o o' u hne => World.cell?_setCell_other _ _ _ _ (fun e => by injection e with _ e; omega)
  refine ⟨?_, ?_, ?_⟩
  · rw [oth _ _ _ _ (by omega), oth _ _ _ _ (by omega)]
    exact World.cell?_setCell_same' _ _ _ (by rw [h0]; rfl)
  · rw [oth _ _ _ _ (by omega)]
    exact World.cell?_setCell_same' _ _ _ (by rw [oth _ _ _ _ (by omega), h1]; rfl)
  · exact World.cell?_setCell_same' _ _ _ (by rw [oth _ _ _ _ (by omega), oth _ _ _ _ (by omega), h2]; rfl)
/-- A block of three cells, new. -/
theorem new3v (w : World) (x y z : Value) (T : TypeId) : ∃ W, W = w.alloc (.cells #[x, y, z] T) ∧ W.cell? ⟨w.heap.size, 0, none⟩ = some x ∧ W.cell? ⟨w.heap.size, 1, none⟩ = some y ∧ W.cell? ⟨w.heap.size, 2, none⟩ = some z ∧ (∀ o, W.frozen? ⟨w.heap.size, o, none⟩ = false) ∧ Below w.heap.size w W := by
  refine ⟨_, rfl, ?_, ?_, ?_, fun o => ?_, below_new _ _⟩
  · rw [World.cell?_alloc_at _ _ _ _ rfl]; rfl
  · rw [World.cell?_alloc_at _ _ _ _ rfl]; rfl
  · rw [World.cell?_alloc_at _ _ _ _ rfl]; rfl
  · rw [World.frozen?_alloc_at _ _ _ _ (by simp)]
theorem new3 (w : World) (T : TypeId) : ∃ W, W = w.alloc (.cells #[.int .i64 0, .int .i64 0, .int .i64 0] T) ∧ W.cell? ⟨w.heap.size, 0, none⟩ = some (.int .i64 0) ∧ W.cell? ⟨w.heap.size, 1, none⟩ = some (.int .i64 0) ∧ W.cell? ⟨w.heap.size, 2, none⟩ = some (.int .i64 0) ∧ (∀ o, W.frozen? ⟨w.heap.size, o, none⟩ = false) ∧ Below w.heap.size w W := new3v w _ _ _ T
theorem below_put3 {B : Nat} {w W : World} {X o : Nat} (u v z : Value) (h : Below B w W) (hX : B ≤ X) : Below B w (((W.setCell ⟨X, o, none⟩ u).setCell ⟨X, o + 1, none⟩ v).setCell ⟨X, o + 2, none⟩ z) := ((h.setCell (p := ⟨X, o, none⟩) hX u).setCell (p := ⟨X, o + 1, none⟩) hX v).setCell (p := ⟨X, o + 2, none⟩) hX z
/-- What First and Pop tell. -/
def told (l : List Hp.Tm) : Value := .tuple #[tv (l.headD (0, 0, 0)), .bool (decide (0 < l.length))]
set_option maxHeartbeats 1000000 in
theorem first_nil (w : World) : Calls Try.prog 30 #[.pointer none] w fun e w' => e = .returned (told []) ∧ Below w.heap.size w w' := by
  obtain ⟨W0, hW0, z0, z1, z2, zf, hb0⟩ := new3 w 62
  have f0 := zf 0
  have f1 := zf 1
  have f2 := zf 2
  have E0 := Lib.hid hW0
  have HB := Lib.hid hb0
  have hXs := Lib.hid (show w.heap.size + 1 = W0.heap.size by rw [hW0]; simp)
  clear hW0 hb0 zf
  go_enter Try.func30, Try.ntmps30
  go_wp2_with fail
  rw [← E0.out]
  refine (len_nil _).mono ?_
  rintro e w' ⟨rfl, rfl⟩
  obtain ⟨k0, k1, k2⟩ := told3 (u := .int .i64 0) (v := .int .i64 0) (z := .int .i64 0) z0 z1 z2
  have HK := Lib.hid (below_put3 (.int .i64 0) (.int .i64 0) (.int .i64 0) HB.out (Nat.le_refl w.heap.size) (o := 0))
  clear E0
  go_wp2_with fail
  refine bodyPost_ret (v := .tuple #[.agg #[.int .i64 0, .int .i64 0, .int .i64 0], .bool false]) ?_ rfl ?_
  · simp [results, Try.results30, go_sem, k0, k1, k2]
  exact ⟨rfl, HK.out⟩
set_option maxHeartbeats 1000000 in
theorem first_any (b : Nat) (F : Nat → Prop) (l : List Hp.Tm) (w : World) (h : HM R w b F l) (hl : l.length ≤ 1000000) : Calls Try.prog 30 #[.pointer (some ⟨b, 0, none⟩)] w fun e w' => e = .returned (told l) ∧ Below w.heap.size w w' := by
  obtain ⟨W0, hW0, z0, z1, z2, zf, hb0⟩ := new3 w 62
  have f0 := zf 0
  have f1 := zf 1
  have f2 := zf 2
  have E0 := Lib.hid hW0
  have HB := Lib.hid hb0
  have hXs := Lib.hid (show w.heap.size + 1 = W0.heap.size by rw [hW0]; simp)
  clear hW0 hb0 zf
  have hL := len_any b F l W0 (h.step HB.out)
  have HL := Lib.hid hL
  by_cases hn : l = []
  · subst hn
    clear h hL
    go_enter Try.func30, Try.ntmps30
    go_wp2_with fail
    rw [← E0.out]
    refine HL.out.mono ?_
    rintro e w' ⟨rfl, rfl⟩
    obtain ⟨k0, k1, k2⟩ := told3 (u := .int .i64 0) (v := .int .i64 0) (z := .int .i64 0) z0 z1 z2
    have HK := Lib.hid (below_put3 (.int .i64 0) (.int .i64 0) (.int .i64 0) HB.out (Nat.le_refl w.heap.size) (o := 0))
    clear E0 HL
    go_wp2_with fail
    refine bodyPost_ret (v := .tuple #[.agg #[.int .i64 0, .int .i64 0, .int .i64 0], .bool false]) ?_ rfl ?_
    · simp [results, Try.results30, go_sem, k0, k1, k2]
    exact ⟨rfl, HK.out⟩
  · obtain ⟨x, t, rfl⟩ : ∃ x t, l = x :: t := by cases l with
      | nil => exact absurd rfl hn
      | cons x t => exact ⟨x, t, rfl⟩
    obtain ⟨g, c, h1, _, _, h4, h5, _, h7⟩ := (h.step HB.out).cells (by simp)
    obtain ⟨p0, p1, p2⟩ := h7 0 x rfl
    obtain ⟨n, hnn⟩ : ∃ n, (x :: t).length = n := ⟨_, rfl⟩
    have hn0 : 0 < n := by rw [← hnn]; simp
    have hm0 : (0 : Int) < (n : Int) := by omega
    have ht := Lib.hid (show told (x :: t) = .tuple #[.agg #[.int .i64 x.1, .int .i64 x.2.1, .int .i64 x.2.2], .bool true] by simp [told, tv])
    rw [hnn] at h1 h4 HL hl
    obtain ⟨x1, x2, x3⟩ := x
    simp only [Nat.zero_mul, Nat.zero_add] at p0 p1 p2 ht
    have hne : ((n : Int) == 0) = false := by rw [beq_eq_false_iff_ne]; omega
    clear h hL h7 hn hnn
    go_enter Try.func30, Try.ntmps30
    go_wp2_with fail
    rw [← E0.out]
    refine HL.out.mono ?_
    rintro e w' ⟨rfl, rfl⟩
    obtain ⟨k0, k1, k2⟩ := told3 (u := .int .i64 x1) (v := .int .i64 x2) (z := .int .i64 x3) z0 z1 z2
    have HK := Lib.hid (below_put3 (.int .i64 x1) (.int .i64 x2) (.int .i64 x3) HB.out (Nat.le_refl w.heap.size) (o := 0))
    clear E0 HL
    go_wp2_with fail
    refine bodyPost_ret (v := .tuple #[.agg #[.int .i64 x1, .int .i64 x2, .int .i64 x3], .bool true]) ?_ rfl ?_
    · simp [results, Try.results30, go_sem, k0, k1, k2]
    exact ⟨by rw [ht.out], HK.out⟩
set_option maxHeartbeats 1000000 in
theorem pop_nil (w : World) : Calls Try.prog 31 #[.pointer none] w fun e w' => e = .returned (told []) ∧ Below w.heap.size w w' := by
  obtain ⟨W0, hW0, z0, z1, z2, zf, hb0⟩ := new3 w 62
  have f0 := zf 0
  have f1 := zf 1
  have f2 := zf 2
  have E0 := Lib.hid hW0
  have HB := Lib.hid hb0
  have hXs := Lib.hid (show w.heap.size + 1 = W0.heap.size by rw [hW0]; simp)
  clear hW0 hb0 zf
  go_enter Try.func31, Try.ntmps31
  go_wp2_with fail
  rw [← E0.out]
  clear E0
  refine (first_nil _).mono ?_
  rintro e w1 ⟨rfl, hb⟩
  have hs1 := hb.size
  have r0 := keepcell hb z0
  have r1 := keepcell hb z1
  have r2 := keepcell hb z2
  have g0 := keepfree hb z0 f0
  have g1 := keepfree hb z1 f1
  have g2 := keepfree hb z2 f2
  have HB1 := Lib.hid (HB.out.trans (hb.mono HB.out.size))
  clear hb z0 z1 z2 f0 f1 f2 HB
  obtain ⟨W2, hW2, y0, y1, y2, yf, hb2⟩ := new3 w1 62
  have q0 := keepcell hb2 r0
  have q1 := keepcell hb2 r1
  have q2 := keepcell hb2 r2
  have j0 := keepfree hb2 r0 g0
  have j1 := keepfree hb2 r1 g1
  have j2 := keepfree hb2 r2 g2
  have i0 := yf 0
  have i1 := yf 1
  have i2 := yf 2
  have HB2 := Lib.hid (HB1.out.trans (hb2.mono HB1.out.size))
  subst hW2
  clear r0 r1 r2 g0 g1 g2 hb2 HB1 yf
  obtain ⟨k0, k1, k2⟩ := told3 (u := .int .i64 0) (v := .int .i64 0) (z := .int .i64 0) q0 q1 q2
  have HK := Lib.hid (below_put3 (.int .i64 0) (.int .i64 0) (.int .i64 0) HB2.out (Nat.le_refl w.heap.size) (o := 0))
  unfold told tv
  go_wp2_with fail
  refine bodyPost_ret (v := .tuple #[.agg #[.int .i64 0, .int .i64 0, .int .i64 0], .bool false]) ?_ rfl ?_
  · simp [results, Try.results31, go_sem, k0, k1, k2]
  exact ⟨rfl, HK.out⟩
/-- The last one in the first one's place, and its own place cut off. -/
theorem HM.cut {w : World} {b g n c : Nat} {F : Nat → Prop} {l : List Hp.Tm} (h : HM R w b F l) (hb : w.cell? ⟨b, 0, none⟩ = some (.slice (some ⟨g, 0, none⟩) l.length c)) (k : Nat) (hk : k ≤ l.length) (hn : n = k) : HM R (w.setCell ⟨b, 0, none⟩ (.slice (some ⟨g, 0, none⟩) n c)) b F (l.take k) ∧ Kept F w (w.setCell ⟨b, 0, none⟩ (.slice (some ⟨g, 0, none⟩) n c)) := by
  subst hn
  obtain ⟨A, c', h1, h2, h3⟩ := h.mem
  rw [hb] at h1
  injection h1 with h1
  injection h1 with e1 e2 e3
  subst e1 e3
  obtain ⟨n1, n2⟩ := h3 _ rfl
  have hl : (l.take n).length = n := by rw [List.length_take]; omega
  refine ⟨⟨⟨some ⟨g, 0, none⟩, c, ?_, ?_, h3⟩, ?_, h.inb, fun j hj => ?_, Rest.head h.rest⟩, (Kept.refl F w).setCell _ h.inb _⟩
  · rw [hl]; exact World.cell?_setCell_same' _ _ _ (by rw [hb]; rfl)
  · rw [hl]
    exact own_keep (own_tcut h2 n hk) (fun k e => Below.heap_setCell w ⟨b, 0, none⟩ _ k (fun e' => by injection e with e; subst e; exact n1 e'))
  · rw [World.frozen?_setCell]; exact h.free
  · have := h.lt j hj
    simpa [World.setCell] using this
set_option maxHeartbeats 1000000 in
theorem pop_empty (b : Nat) (F : Nat → Prop) (w : World) (h : HM R w b F []) : Calls Try.prog 31 #[.pointer (some ⟨b, 0, none⟩)] w fun e w' => e = .returned (told []) ∧ Below w.heap.size w w' := by
  obtain ⟨W0, hW0, z0, z1, z2, zf, hb0⟩ := new3 w 62
  have f0 := zf 0
  have f1 := zf 1
  have f2 := zf 2
  have E0 := Lib.hid hW0
  have HB := Lib.hid hb0
  have hXs := Lib.hid (show w.heap.size + 1 = W0.heap.size by rw [hW0]; simp)
  clear hW0 hb0 zf
  have hL := first_any b F [] W0 (h.step HB.out) (by simp)
  have HL := Lib.hid hL
  clear h hL
  go_enter Try.func31, Try.ntmps31
  go_wp2_with fail
  rw [← E0.out]
  clear E0
  refine HL.out.mono ?_
  rintro e w1 ⟨rfl, hb⟩
  clear HL
  have hs1 := hb.size
  have r0 := keepcell hb z0
  have r1 := keepcell hb z1
  have r2 := keepcell hb z2
  have g0 := keepfree hb z0 f0
  have g1 := keepfree hb z1 f1
  have g2 := keepfree hb z2 f2
  have HB1 := Lib.hid (HB.out.trans (hb.mono HB.out.size))
  clear hb z0 z1 z2 f0 f1 f2 HB
  obtain ⟨W2, hW2, y0, y1, y2, yf, hb2⟩ := new3 w1 62
  have q0 := keepcell hb2 r0
  have q1 := keepcell hb2 r1
  have q2 := keepcell hb2 r2
  have j0 := keepfree hb2 r0 g0
  have j1 := keepfree hb2 r1 g1
  have j2 := keepfree hb2 r2 g2
  have i0 := yf 0
  have i1 := yf 1
  have i2 := yf 2
  have HB2 := Lib.hid (HB1.out.trans (hb2.mono HB1.out.size))
  subst hW2
  clear r0 r1 r2 g0 g1 g2 hb2 HB1 yf
  obtain ⟨k0, k1, k2⟩ := told3 (u := .int .i64 0) (v := .int .i64 0) (z := .int .i64 0) q0 q1 q2
  have HK := Lib.hid (below_put3 (.int .i64 0) (.int .i64 0) (.int .i64 0) HB2.out (Nat.le_refl w.heap.size) (o := 0))
  unfold told tv
  go_wp2_with fail
  refine bodyPost_ret (v := .tuple #[.agg #[.int .i64 0, .int .i64 0, .int .i64 0], .bool false]) ?_ rfl ?_
  · simp [results, Try.results31, go_sem, k0, k1, k2]
  exact ⟨rfl, HK.out⟩
set_option maxHeartbeats 2000000 in
theorem pop_any (b : Nat) (F : Nat → Prop) (l : List Hp.Tm) (x : Hp.Tm) (w : World) (h : HM R w b F l) (hh : Hid (Hp.Heap l)) (hx : l[0]? = some x) (hl : l.length ≤ 1000000) :
    Calls Try.prog 31 #[.pointer (some ⟨b, 0, none⟩)] w fun e w' => e = .returned (.tuple #[tv x, .bool true]) ∧ ∃ l', (x :: l').Perm l ∧ Hp.Heap l' ∧ HM R w' b F l' ∧ Kept F w w' := by
  obtain ⟨W0, hW0, z0, z1, z2, zf, hb0⟩ := new3 w 62
  have f0 := zf 0
  have f1 := zf 1
  have f2 := zf 2
  have E0 := Lib.hid hW0
  have HB := Lib.hid hb0
  have hXs := Lib.hid (show w.heap.size + 1 = W0.heap.size by rw [hW0]; simp)
  clear hW0 hb0 zf
  have hn0 : 0 < l.length := (List.getElem?_eq_some_iff.1 hx).1
  obtain ⟨r, z, hrz⟩ : ∃ r z, l = r ++ [z] := ⟨l.dropLast, l.getLast (by intro e; subst e; simp at hn0), (List.dropLast_concat_getLast _).symm⟩
  obtain ⟨n, hn⟩ : ∃ n, r.length = n := ⟨_, rfl⟩
  have hln : l.length = n + 1 := by rw [hrz]; simp [hn]
  have hz : l[n]? = some z := by rw [hrz, List.getElem?_append_right (by omega), hn, Nat.sub_self]; rfl
  have ht := Lib.hid (show told l = .tuple #[.agg #[.int .i64 x.1, .int .i64 x.2.1, .int .i64 x.2.2], .bool true] by
    cases l with
    | nil => simp at hx
    | cons y t => simp at hx; subst hx; simp [told, tv])
  have hL := first_any b F l W0 (h.step HB.out) hl
  rw [ht.out] at hL
  have HL := Lib.hid hL
  have H0 := Lib.hid (h.step HB.out)
  have HK0 := Lib.hid (Kept.of_below (F := F) HB.out)
  have HX := Lib.hid hx
  have HZ := Lib.hid hz
  have HRZ := Lib.hid hrz
  have hbw : b < w.heap.size := h.lt b h.inb
  obtain ⟨x1, x2, x3⟩ := x
  have hnF : ∀ j, w.heap.size ≤ j → ¬ F j := fun j hj f => by have := h.lt j f; omega
  have HNF := Lib.hid hnF
  clear h hL hz hrz ht hn0 hx hnF
  go_enter Try.func31, Try.ntmps31
  go_wp2_with fail
  rw [← E0.out]
  clear E0
  refine HL.out.mono ?_
  rintro e w1 ⟨rfl, hb⟩
  clear HL
  have hs1 := hb.size
  obtain ⟨W2, hW2, y0, y1, y2, yf, hb2⟩ := new3v w1 (.int .i64 x1) (.int .i64 x2) (.int .i64 x3) 62
  have hb3 := hb.trans (hb2.mono hb.size)
  have hXs' := hXs.out
  have hne : w1.heap.size ≠ w.heap.size := by omega
  have hw1 : w.heap.size ≤ w1.heap.size := by omega
  have r0 := keepcell hb3 z0
  have r1 := keepcell hb3 z1
  have r2 := keepcell hb3 z2
  have g0 := keepfree hb3 z0 f0
  have g1 := keepfree hb3 z1 f1
  have g2 := keepfree hb3 z2 f2
  have hbN1 : W2.heap.size = w1.heap.size + 1 := by rw [hW2]; simp
  have H2 := H0.out.step hb3
  have HK2 := Lib.hid (HK0.out.trans (Kept.of_below (F := F) hb3))
  obtain ⟨g, c, c0, gb, gF, hcap, hmost, hown, hc⟩ := H2.cells (by omega)
  obtain ⟨l0, l1, l2⟩ := hc 0 _ HX.out
  obtain ⟨e0, e1, e2⟩ := hc n _ HZ.out
  have fr := own_free hown
  have fr0 := fr 0
  have fr1 := fr 1
  have fr2 := fr 2
  have fb := H2.free
  have HH2 := Lib.hid H2
  rw [hln] at c0 hcap
  obtain ⟨u1, u2, u3⟩ := z
  simp only [Nat.zero_mul, Nat.zero_add] at l0 l1 l2
  have n1 : IntKind.i64.wrap (((n + 1 : Nat) : Int) - 1) = (n : Int) := by rw [show ((n + 1 : Nat) : Int) - 1 = n by omega]; exact IntWalk.i64_in _ (by omega)
  have n2 : ((n + 1 : Nat) : Int) - 1 = (n : Int) := by omega
  have n3 : (n : Int) < ((n + 1 : Nat) : Int) := by omega
  have n4 : (0 : Int) < ((n + 1 : Nat) : Int) := by omega
  clear hb hb2 hb3 hc hown fr yf H0 HK0 hs1 H2 z0 z1 z2 f0 f1 f2
  subst hW2
  go_wp2_with fail
  generalize w1.alloc (.cells #[.int .i64 x1, .int .i64 x2, .int .i64 x3] 62) = W2 at *
  go_region
  have c0' : W2.cell? ⟨b, 0, none⟩ = some (.slice (some ⟨g, 0, none⟩) l.length c) := by rw [hln]; exact c0
  have p1 := (HH2.out.put c0' 0 (by omega) (u1, u2, u3)).drewN 1
  have p2 : ((put3 W2 g (0 * 3) (u1, u2, u3)).drewN 1).cell? ⟨b, 0, none⟩ = some (.slice (some ⟨g, 0, none⟩) l.length c) := HM.put_cell (l := l) 0 (u1, u2, u3) c0' gb
  have p3 := (kept_put3 F HK2.out g (0 * 3) (u1, u2, u3) gF).drewN 1
  change HM R ((((W2.setCell ⟨g, 0, none⟩ (.int .i64 u1)).setCell ⟨g, 1, none⟩ (.int .i64 u2)).setCell ⟨g, 2, none⟩ (.int .i64 u3)).drew) b F (l.set 0 (u1, u2, u3)) at p1
  change ((((W2.setCell ⟨g, 0, none⟩ (.int .i64 u1)).setCell ⟨g, 1, none⟩ (.int .i64 u2)).setCell ⟨g, 2, none⟩ (.int .i64 u3)).drew).cell? ⟨b, 0, none⟩ = _ at p2
  change Kept F w ((((W2.setCell ⟨g, 0, none⟩ (.int .i64 u1)).setCell ⟨g, 1, none⟩ (.int .i64 u2)).setCell ⟨g, 2, none⟩ (.int .i64 u3)).drew) at p3
  have q := (kept_put3 F (Kept.refl F W2) g (0 * 3) (u1, u2, u3) gF).drewN 1
  change Kept F W2 ((((W2.setCell ⟨g, 0, none⟩ (.int .i64 u1)).setCell ⟨g, 1, none⟩ (.int .i64 u2)).setCell ⟨g, 2, none⟩ (.int .i64 u3)).drew) at q
  have y0 := q.cell y0 (HNF.out _ hw1)
  have y1 := q.cell y1 (HNF.out _ hw1)
  have y2 := q.cell y2 (HNF.out _ hw1)
  have g0 := q.free r0 (HNF.out _ (Nat.le_refl _)) g0
  have g1 := q.free r1 (HNF.out _ (Nat.le_refl _)) g1
  have g2 := q.free r2 (HNF.out _ (Nat.le_refl _)) g2
  have r0 := q.cell r0 (HNF.out _ (Nat.le_refl _))
  have r1 := q.cell r1 (HNF.out _ (Nat.le_refl _))
  have r2 := q.cell r2 (HNF.out _ (Nat.le_refl _))
  clear q c0 c0' l0 l1 l2 e0 e1 e2 HH2 HK2 fr0 fr1 fr2 fb
  generalize ((((W2.setCell ⟨g, 0, none⟩ (.int .i64 u1)).setCell ⟨g, 1, none⟩ (.int .i64 u2)).setCell ⟨g, 2, none⟩ (.int .i64 u3)).drew) = W3 at *
  have hls : (l.set 0 (u1, u2, u3)).length = n + 1 := by rw [List.length_set]; exact hln
  have c3 := p2
  rw [hln] at c3
  rw [← (show (l.set 0 (u1, u2, u3)).length = l.length from List.length_set)] at p2
  have fb := p1.free
  obtain ⟨p4, p5⟩ := p1.cut (n := n) p2 n (by omega) rfl
  have q := p5
  have HM4 := Lib.hid p4
  have HK4 := Lib.hid (p3.trans p5)
  have y0 := q.cell y0 (HNF.out _ hw1)
  have y1 := q.cell y1 (HNF.out _ hw1)
  have y2 := q.cell y2 (HNF.out _ hw1)
  have g0 := q.free r0 (HNF.out _ (Nat.le_refl _)) g0
  have g1 := q.free r1 (HNF.out _ (Nat.le_refl _)) g1
  have g2 := q.free r2 (HNF.out _ (Nat.le_refl _)) g2
  have r0 := q.cell r0 (HNF.out _ (Nat.le_refl _))
  have r1 := q.cell r1 (HNF.out _ (Nat.le_refl _))
  have r2 := q.cell r2 (HNF.out _ (Nat.le_refl _))
  clear q p1 p2 p3 p4 p5
  have hD := Hp.pop_down HRZ.out hh.out
  have hP := Hp.pop_perm HRZ.out HX.out
  rw [hn] at hD hP
  have hS := sink_any b F ((l.set 0 (u1, u2, u3)).take n) 0 0 (W3.setCell ⟨b, 0, none⟩ (.slice (some ⟨g, 0, none⟩) n c)) HM4.out (by omega) (by rw [List.length_take, hls]; omega) (Lib.hid hD)
  have HS := Lib.hid hS
  have HP := Lib.hid hP
  have e1 : (n : Int) ≤ ((n + 1 : Nat) : Int) := by omega
  have e2 : (n : Int) ≤ (c : Int) := by omega
  clear hS hD hP hls
  go_wp2_with fail
  refine HS.out.mono ?_
  rintro e w5 ⟨rfl, l', hp, hh', hm', hk'⟩
  have y0 := hk'.cell y0 (HNF.out _ hw1)
  have y1 := hk'.cell y1 (HNF.out _ hw1)
  have y2 := hk'.cell y2 (HNF.out _ hw1)
  have g0 := hk'.free r0 (HNF.out _ (Nat.le_refl _)) g0
  have g1 := hk'.free r1 (HNF.out _ (Nat.le_refl _)) g1
  have g2 := hk'.free r2 (HNF.out _ (Nat.le_refl _)) g2
  have r0 := hk'.cell r0 (HNF.out _ (Nat.le_refl _))
  have r1 := hk'.cell r1 (HNF.out _ (Nat.le_refl _))
  have r2 := hk'.cell r2 (HNF.out _ (Nat.le_refl _))
  obtain ⟨k0, k1, k2⟩ := told3 (u := .int .i64 x1) (v := .int .i64 x2) (z := .int .i64 x3) r0 r1 r2
  have nf := HNF.out _ (Nat.le_refl w.heap.size)
  have HME := Lib.hid (((hm'.setFar ⟨w.heap.size, 0, none⟩ nf (.int .i64 x1)).setFar ⟨w.heap.size, 1, none⟩ nf (.int .i64 x2)).setFar ⟨w.heap.size, 2, none⟩ nf (.int .i64 x3))
  have HKE := Lib.hid ((((HK4.out.trans hk').setNew ⟨w.heap.size, 0, none⟩ (Nat.le_refl _) (.int .i64 x1)).setNew ⟨w.heap.size, 1, none⟩ (Nat.le_refl _) (.int .i64 x2)).setNew ⟨w.heap.size, 2, none⟩ (Nat.le_refl _) (.int .i64 x3))
  have HPE := Lib.hid ((hp.cons (x1, x2, x3)).trans HP.out)
  have HHE := Lib.hid hh'
  clear hp hh' hm' hk' HS HP nf
  go_wp2_with fail
  refine bodyPost_ret (v := .tuple #[tv (x1, x2, x3), .bool true]) ?_ rfl ?_
  · simp [results, Try.results31, go_sem, k0, k1, k2, tv]
  exact ⟨rfl, l', HPE.out, HHE.out, HME.out, HKE.out⟩
end Go.Proofs.Ytgknbjiocgcmdaa

