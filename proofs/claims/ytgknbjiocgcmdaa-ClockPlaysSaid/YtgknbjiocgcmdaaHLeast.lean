/- least, by its contract: the place of the least one of a timer and those right below it. -/
import Derived.Test.YtgknbjiocgcmdaaHSwap
namespace Go.Proofs.Ytgknbjiocgcmdaa
open Go.RowKit
set_option linter.unusedVariables false
variable {R : Nat → Value → Prop}

/-- m is the place of the least one of the one at p and those below it up to k. -/
structure Lst (l : List Hp.Tm) (p k m : Nat) : Prop where
  place : m = p ∨ (2 * p + 1 ≤ m ∧ m < k ∧ m < l.length)
  least : ∀ (i : Nat) x y, i = p ∨ (2 * p + 1 ≤ i ∧ i < k) → l[i]? = some x → l[m]? = some y → Hp.Le y x
theorem Lst.start (l : List Hp.Tm) (p : Nat) : Lst l p (2 * p + 1) p :=
  ⟨.inl rfl, fun i x y hi hx hy => by
    obtain rfl : i = p := by omega
    rw [hx] at hy; injection hy with hy; subst hy; exact Hp.le_refl _⟩
theorem Lst.over {l : List Hp.Tm} {p k m : Nat} (h : Lst l p k m) (hk : k ≤ 2 * p + 3) (he : k = 2 * p + 3 ∨ l.length ≤ k) : Hp.Least l p m :=
  ⟨by have := h.place; omega, fun i x y hi hx hy => h.least i x y (by have := (List.getElem?_eq_some_iff.1 hx).1; omega) hx hy⟩
theorem Lst.new {l : List Hp.Tm} {p k m : Nat} {x y : Hp.Tm} (h : Lst l p k m) (h1 : 2 * p + 1 ≤ k) (hx : l[k]? = some x) (hy : l[m]? = some y) (hlt : Hp.Lt x y) : Lst l p (k + 1) k := by
  refine ⟨.inr ⟨h1, by omega, (List.getElem?_eq_some_iff.1 hx).1⟩, fun i a b hi ha hb => ?_⟩
  rw [hx] at hb; injection hb with hb; subst hb
  by_cases e : i = k
  · subst e; rw [hx] at ha; injection ha with ha; subst ha; exact Hp.le_refl _
  · exact Hp.le_trans (Hp.le_of_lt hlt) (h.least i a y (by omega) ha hy)
theorem Lst.old {l : List Hp.Tm} {p k m : Nat} {x y : Hp.Tm} (h : Lst l p k m) (h1 : 2 * p + 1 ≤ k) (hx : l[k]? = some x) (hy : l[m]? = some y) (hle : Hp.Le y x) : Lst l p (k + 1) m := by
  refine ⟨by have := h.place; omega, fun i a b hi ha hb => ?_⟩
  rw [hy] at hb; injection hb with hb; subst hb
  by_cases e : i = k
  · subst e; rw [hx] at ha; injection ha with ha; subst ha; exact hle
  · exact h.least i a y (by omega) ha hy
theorem Lst.lt {l : List Hp.Tm} {p k m : Nat} (h : Lst l p k m) (hk : k < l.length) (h1 : 2 * p + 1 ≤ k) : m < l.length := by have := h.place; omega
set_option maxHeartbeats 2000000 in
theorem least_any (b : Nat) (F : Nat → Prop) (l : List Hp.Tm) (p : Nat) (w : World) (h : HM R w b F l) (hp : p ≤ 1000000) (hl : l.length ≤ 1000000) :
    Calls Try.prog 41 #[.pointer (some ⟨b, 0, none⟩), .int .i64 p] w fun e w' => ∃ m : Nat, e = .returned (.int .i64 m) ∧ Hp.Least l p m ∧ Below w.heap.size w w' := by
  obtain ⟨A, c, h1, h2, h3⟩ := h.mem
  obtain ⟨A', c', e, hr, _⟩ := TR.of_own h2
  injection e with e1 e2 e3
  subst e1 e3
  obtain ⟨n, hn⟩ : ∃ n, n = l.length := ⟨_, rfl⟩
  rw [← hn] at h1 hr hl
  have HN := Lib.hid hn
  have H1 := Lib.hid h1
  have HR := Lib.hid hr
  have hcap := hr.cap
  have hmost := hr.most
  clear h h2 h3 hr hn
  go_enter Try.func41, Try.ntmps41
  go_wp2_with fail
  go_loopw [5, 6] (fun m k wr => ∃ a d : Nat, m = .int .i64 a ∧ k = .int .i64 (2 * (p : Int) + 1 + d) ∧ d ≤ 2 ∧ Hid (Lst l p (2 * p + 1 + d) a) ∧ Hid (Below w.heap.size w wr)) (fun _ k _ => (2 * (p : Int) + 3 - intOf k).toNat)
  case atStart => exact ⟨p, 0, rfl, by simp, by omega, Lib.hid (Lst.start l p), Lib.hid (Below.refl _ _)⟩
  case round =>
    obtain ⟨a, d, rfl, rfl, hd, HL, HW⟩ := hrel
    have c0 := keepcell HW.out H1.out
    have hlen := HN.out
    by_cases hd2 : d = 2
    · subst hd2
      have t1 : decide (2 * (p : Int) + 1 + ((2 : Nat) : Int) ≤ 2 * (p : Int) + 2) = false := decide_eq_false (by omega)
      go_wp2_with fail
      go_ret
      exact ⟨a, rfl, HL.out.over (by omega) (.inl (by omega)), HW.out⟩
    · have t1 : decide (2 * (p : Int) + 1 + (d : Int) ≤ 2 * (p : Int) + 2) = true := decide_eq_true (by omega)
      by_cases hk : 2 * p + 1 + d < n
      · have t2 : decide (2 * (p : Int) + 1 + (d : Int) < (n : Int)) = true := decide_eq_true (by omega)
        have ha := HL.out.lt (by omega) (by omega)
        obtain ⟨x, hx⟩ : ∃ x, l[2 * p + 1 + d]? = some x := ⟨_, List.getElem?_eq_getElem (by omega)⟩
        obtain ⟨y, hy⟩ : ∃ y, l[a]? = some y := ⟨_, List.getElem?_eq_getElem ha⟩
        obtain ⟨g, off, rfl, _, hc⟩ := HR.out.cells (by omega)
        obtain ⟨x0, x1, x2⟩ := hc _ x hx
        obtain ⟨y0, y1, y2⟩ := hc _ y hy
        have x0 := keepcell HW.out x0
        have x1 := keepcell HW.out x1
        have x2 := keepcell HW.out x2
        have y0 := keepcell HW.out y0
        have y1 := keepcell HW.out y1
        have y2 := keepcell HW.out y2
        have HC := Lib.hid (fun W => compare_any x y W)
        have HX := Lib.hid hx
        have HY := Lib.hid hy
        obtain ⟨k, hkk⟩ : ∃ k, 2 * p + 1 + d = k := ⟨_, rfl⟩
        have hki : 2 * (p : Int) + 1 + (d : Int) = (k : Int) := by omega
        rw [hkk] at x0 x1 x2
        rw [hki] at t1 t2 ⊢
        have k1 : (k : Int) < (n : Int) := by omega
        have a1 : (a : Int) < (n : Int) := by omega
        have w1 : IntKind.i64.wrap ((k : Int) + 1) = (k : Int) + 1 := IntWalk.i64_in _ (by omega)
        obtain ⟨xa, xb, xc⟩ := x
        obtain ⟨ya, yb, yc⟩ := y
        clear hc hx hy hlen h1
        simp only at x0 x1 x2 y0 y1 y2
        go_wp2_with fail
        go_region_held3 (fun w' => w'.cell? ⟨b, 0, none⟩ = some (.slice (some ⟨g, off, none⟩) n c) ∧ w'.cell? ⟨g, off + k * 3, none⟩ = some (.int .i64 xa) ∧ w'.cell? ⟨g, off + k * 3 + 1, none⟩ = some (.int .i64 xb) ∧ w'.cell? ⟨g, off + k * 3 + 2, none⟩ = some (.int .i64 xc) ∧ w'.cell? ⟨g, off + a * 3, none⟩ = some (.int .i64 ya) ∧ w'.cell? ⟨g, off + a * 3 + 1, none⟩ = some (.int .i64 yb) ∧ w'.cell? ⟨g, off + a * 3 + 2, none⟩ = some (.int .i64 yc))
          (first
            | (go_split_ands; refine ⟨keepcell hbX (by assumption), keepcell hbX (by assumption), keepcell hbX (by assumption), keepcell hbX (by assumption), keepcell hbX (by assumption), keepcell hbX (by assumption), keepcell hbX (by assumption)⟩)
            | go_keep)
          (first
            | (go_at_call 38; refine (HC.out _).mono ?_; rintro e w' ⟨rfl, hG⟩; have hbX := hG.below))
        have HV := Lib.hid (HW.out.trans ((below_of_drew hbX).mono HW.out.size))
        clear hbX hG
        obtain ⟨r, hr⟩ : ∃ r, r = Hp.cmp (xa, xb, xc) (ya, yb, yc) := ⟨_, rfl⟩
        rw [← hr]
        by_cases hlt : r < 0
        · have HL2 := Lib.hid (HL.out.new (by omega) HX.out HY.out (Hp.cmp_neg.1 (by omega)))
          clear hr
          go_wp2_with fail
          go_roundw
          case rel => exact ⟨k, d + 1, rfl, by simp; omega, by omega, by rw [← Nat.add_assoc, ← hkk]; exact HL2, HV⟩
          case measure => simp [intOf]; omega
        · have HL2 := Lib.hid (HL.out.old (by omega) HX.out HY.out (Hp.cmp_ge.1 (by omega)))
          have t3 : 0 ≤ r := by omega
          clear hr
          go_wp2_with fail
          go_roundw
          case rel => exact ⟨a, d + 1, rfl, by simp; omega, by omega, by rw [← Nat.add_assoc]; exact HL2, HV⟩
          case measure => simp [intOf]; omega
      · have t2 : decide (2 * (p : Int) + 1 + (d : Int) < (n : Int)) = false := decide_eq_false (by omega)
        go_wp2_with fail
        go_ret
        exact ⟨a, rfl, HL.out.over (by omega) (.inr (by omega)), HW.out⟩
end Go.Proofs.Ytgknbjiocgcmdaa

