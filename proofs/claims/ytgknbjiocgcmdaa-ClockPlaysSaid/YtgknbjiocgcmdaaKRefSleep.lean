/- The document's Sleep, by its contract: put in behind all that aren't to wake later. -/
import Derived.Test.YtgknbjiocgcmdaaKRefWake
namespace Go.Proofs.Ytgknbjiocgcmdaa
open Go.RowKit
set_option linter.unusedVariables false

theorem PR.take {w : World} {A : Option Addr} {n c : Nat} {vs : List (Int × Int)} (h : PR w A n c vs) (k : Nat) (hk : k ≤ n) : PR w A k c (vs.take k) := by
  refine ⟨by rw [List.length_take, h.len]; omega, by have := h.cap; omega, h.most, h.nil, fun i z hi => ?_⟩
  rw [List.getElem?_take] at hi
  split at hi
  · exact h.row i z hi
  · cases hi
theorem PR.empty (w : World) (A : Option Addr) (m c : Nat) (hm : m = 0) (hc : A = none → c = 0) (h2 : c ≤ 9223372036854775807) : PR w A m c [] := by
  subst hm
  exact ⟨rfl, by omega, h2, hc, fun i z h => by simp at h⟩
theorem PR.emptyL {L : List Kp.On} {k : Nat} (hL : L.drop k = []) {w : World} {A : Option Addr} {m c : Nat} (hm : m = 0) (hc : A ≠ none) (h2 : c ≤ 9223372036854775807) : PR w A m c (L.drop k) := by
  rw [hL]
  exact PR.empty w A m c hm (fun e => absurd e hc) h2
/-- The boxes: of the clock that came, of the one that is told, of the one who sleeps. -/
structure Sb (w W : World) (now : Int) (sl : Value) (g u : Int) : Prop where
  bx : Bx w W (.int .i64 now) sl (.int .i64 0) (.slice none 0 0)
  cel : Cel2 W (w.heap.size + 1 + 1) (.int .i64 g) (.int .i64 u)
theorem Sb.step {w W W' : World} {now g u : Int} {sl : Value} (h : Sb w W now sl g u) (hb : Below W.heap.size W W') : Sb w W' now sl g u := ⟨h.bx.step hb, h.cel.step hb⟩
theorem Sb.size {w W : World} {now g u : Int} {sl : Value} (h : Sb w W now sl g u) : w.heap.size + 3 ≤ W.heap.size := by have := h.cel.lt; omega
theorem Sb.grown {w W W' : World} {now g u : Int} {sl : Value} {row : Option Nat} (h : Sb w W now sl g u) (hg : W.grownBy W' row) (hr : ∀ k, row = some k → w.heap.size + 3 ≤ k) : Sb w W' now sl g u :=
  ⟨h.bx.grown hg (fun k e => by have := hr k e; omega), h.cel.grown hg (fun e => by have := hr _ e.symm; omega)⟩
/-- What is told: a clock of sleepers that lie beyond the boxes. -/
theorem Sb.told {w W : World} {now g u : Int} {sl : Value} {A : Option Addr} {n c : Nat} {M : List Kp.On} (h : Sb w W now sl g u) (hr : PR W A n c M) (hf : ∀ ad, A = some ad → ad.block ≠ w.heap.size + 1) :
    PR ((W.setCell ⟨w.heap.size + 1, 0, none⟩ (.int .i64 now)).setCell ⟨w.heap.size + 1, 1, none⟩ (.slice A n c)) A n c M ∧ Below w.heap.size w ((W.setCell ⟨w.heap.size + 1, 0, none⟩ (.int .i64 now)).setCell ⟨w.heap.size + 1, 1, none⟩ (.slice A n c)) :=
  ⟨(hr.far hf).far hf, (h.bx.below.setCell (p := ⟨w.heap.size + 1, 0, none⟩) (by simp only; omega) _).setCell (p := ⟨w.heap.size + 1, 1, none⟩) (by simp only; omega) _⟩
/-- A row that came in lies elsewhere than the boxes; without a member it matters not. -/
theorem Sb.back {w W : World} {now g u : Int} {sl : Value} {A : Option Addr} {n c : Nat} {M : List Kp.On} (h : Sb w W now sl g u) (hr : PR w A n c M) :
    PR ((W.setCell ⟨w.heap.size + 1, 0, none⟩ (.int .i64 now)).setCell ⟨w.heap.size + 1, 1, none⟩ (.slice A n c)) A n c M ∧ Below w.heap.size w ((W.setCell ⟨w.heap.size + 1, 0, none⟩ (.int .i64 now)).setCell ⟨w.heap.size + 1, 1, none⟩ (.slice A n c)) := by
  have hb := (h.bx.below.setCell (p := ⟨w.heap.size + 1, 0, none⟩) (by simp only; omega) (.int .i64 now)).setCell (p := ⟨w.heap.size + 1, 1, none⟩) (by simp only; omega) (.slice A n c)
  exact ⟨hr.below hb, hb⟩
theorem code_arg {S : List Kp.On} {now g n : Int} (h : g < 1 ∨ n < 1 ∨ 1000 < n) : Kp.code S g n = 1 ∧ Kp.slp S now g n = S := by
  unfold Kp.code Kp.slp
  rw [if_pos h, if_pos h]
  exact ⟨rfl, rfl⟩
theorem code_there {S : List Kp.On} {now g n : Int} (h : ¬ (g < 1 ∨ n < 1 ∨ 1000 < n)) (hh : Kp.has S g = true) : Kp.code S g n = 5 ∧ Kp.slp S now g n = S := by
  unfold Kp.code Kp.slp
  rw [if_neg h, if_neg h, if_pos hh, if_pos hh]
  exact ⟨rfl, rfl⟩
theorem code_ok {S : List Kp.On} {now g n : Int} (h : ¬ (g < 1 ∨ n < 1 ∨ 1000 < n)) (hh : Kp.has S g = false) : Kp.code S g n = 0 ∧ Kp.slp S now g n = Kp.ins S (g, now + n) := by
  unfold Kp.code Kp.slp
  rw [if_neg h, if_neg h, if_neg (by rw [hh]; simp), if_neg (by rw [hh]; simp)]
  exact ⟨rfl, rfl⟩
theorem ins_cut {S : List Kp.On} (h : Kp.Ends S) {g u : Int} {a : Nat} (ha : a = (Kp.upto S u).length) : Kp.ins S (g, u) = S.take a ++ [(g, u)] ++ S.drop a := by
  obtain ⟨e1, e2⟩ := Kp.take_upto h u
  subst ha
  unfold Kp.ins
  rw [e1, e2]
set_option maxRecDepth 100000 in
set_option maxHeartbeats 4000000 in
theorem refSleep_any (now : Int) (A : Option Addr) (n c : Nat) (S : List Kp.On) (g t : Int) (w : World) (h : PR w A n c S) (hl : n ≤ 100000) (hnow : 0 ≤ now ∧ now ≤ 1099511627776) (hE : Hid (Kp.Ends S)) :
    Calls Try.prog 11 #[.agg #[.int .i64 now, .slice A n c], .int .i64 g, .int .i64 t] w (TellW w A now (Kp.slp S now g t) (.int .i64 (Kp.code S g t))) := by
  have H := Lib.hid h
  have hlen := h.len
  have hcap := h.cap
  have hmost := h.most
  have hnil := h.nil
  clear h
  by_cases ha : g < 1 ∨ t < 1 ∨ 1000 < t
  · obtain ⟨W1, hW1, hX1⟩ := Bx.start w (.int .i64 now) (.slice A n c) (.int .i64 now) (.slice A n c) 32 32
    have E1 := Lib.hid hW1
    have k0 := hX1.r0
    have k1 := hX1.r1
    have HM := Lib.hid (show TellW w A now (Kp.slp S now g t) (.int .i64 (Kp.code S g t)) (.returned (.tuple #[.agg #[.int .i64 now, .slice A n c], .int .i64 1])) W1 from
      ⟨A, n, c, by rw [(code_arg (S := S) (now := now) ha).1], by rw [(code_arg (S := S) (now := now) ha).2]; exact H.out.below hX1.below, .inl rfl, hX1.below⟩)
    clear hX1 hW1
    by_cases h1 : g < 1
    · clear ha
      go_enter Try.func11, Try.ntmps11
      go_wp2_with fail
      rw [← E1.out]
      refine bodyPost_ret (v := .tuple #[.agg #[.int .i64 now, .slice A n c], .int .i64 1]) ?_ rfl ?_
      · simp [results, Try.results11, go_sem, k0, k1]
      exact HM.out
    · by_cases h2 : t < 1
      · clear ha
        go_enter Try.func11, Try.ntmps11
        go_wp2_with fail
        rw [← E1.out]
        refine bodyPost_ret (v := .tuple #[.agg #[.int .i64 now, .slice A n c], .int .i64 1]) ?_ rfl ?_
        · simp [results, Try.results11, go_sem, k0, k1]
        exact HM.out
      · have h3 : 1000 < t := by omega
        clear ha
        go_enter Try.func11, Try.ntmps11
        go_wp2_with fail
        rw [← E1.out]
        refine bodyPost_ret (v := .tuple #[.agg #[.int .i64 now, .slice A n c], .int .i64 1]) ?_ rfl ?_
        · simp [results, Try.results11, go_sem, k0, k1]
        exact HM.out
  · have h1 : ¬ g < 1 := fun e => ha (.inl e)
    have h2 : ¬ t < 1 := fun e => ha (.inr (.inl e))
    have h3 : ¬ 1000 < t := fun e => ha (.inr (.inr e))
    have HA := Lib.hid ha
    obtain ⟨u, hu⟩ : ∃ u, u = now + t := ⟨_, rfl⟩
    have wn : IntKind.i64.wrap (now + t) = u := by rw [hu]; exact IntWalk.i64_in _ (by omega)
    have eu : now + t = u := hu.symm
    have HU := Lib.hid eu
    obtain ⟨W0, hW0, hX0⟩ := Bx.start w (.int .i64 now) (.slice A n c) (.int .i64 0) (.slice none 0 0) 32 32
    have hs0 : W0.heap.size = w.heap.size + 2 := by rw [hW0]; simp
    have S0 := Lib.hid (show Sb w (W0.alloc (.cells #[.int .i64 g, .int .i64 u] 64)) now (.slice A n c) g u from
      ⟨hX0.step (below_new _ _), by have := Cel2.new W0 (.int .i64 g) (.int .i64 u) 64; rw [hs0] at this; exact this⟩)
    have E0 := Lib.hid hW0
    have x0 := hX0.c0
    clear hX0 hW0 hs0 hu ha
    go_enter Try.func11, Try.ntmps11
    go_wp2_with fail
    rw [← E0.out]
    generalize W0.alloc (.cells #[.int .i64 g, .int .i64 u] 64) = V at *
    clear E0 x0
    go_loopw [9, 10] (fun a i wr => ∃ (k p : Nat), k ≤ n ∧ p ≤ k ∧ i = .int .i64 k ∧ a = .int .i64 p ∧ Hid (p = (Kp.upto (S.take k) u).length) ∧ Hid (Kp.has (S.take k) g = false) ∧ Hid (Sb w wr now (.slice A n c) g u)) (fun _ i _ => n - (intOf i).toNat)
    case atStart => exact ⟨0, 0, Nat.zero_le _, Nat.zero_le _, rfl, rfl, Lib.hid rfl, Lib.hid rfl, S0⟩
    case round =>
      clear S0
      obtain ⟨k, p, hk, hp, rfl, rfl, HN, HF, SB⟩ := hrel
      have d0 := SB.out.bx.c0
      have d1 := SB.out.bx.c1
      have r0 := SB.out.bx.r0
      have r1 := SB.out.bx.r1
      have f0 := SB.out.bx.f0
      have f1 := SB.out.bx.f1
      have e0 := SB.out.cel.c0
      have e1 := SB.out.cel.c1
      by_cases hlt : k < n
      · obtain ⟨x, hx⟩ : ∃ x, S[k]? = some x := ⟨_, List.getElem?_eq_getElem (by omega)⟩
        obtain ⟨gb, off, rfl, _, hc⟩ := (H.out.below SB.out.bx.below).cells (by omega)
        obtain ⟨c0, c1⟩ := hc k x hx
        have hT := (without_take hx g).2
        have HX := Lib.hid hx
        obtain ⟨x1, x2⟩ := x
        simp only at c0 c1 hT
        have HT := Lib.hid hT
        have i0 : (0 : Int) ≤ (k : Int) := by omega
        have i1 : (k : Int) < (n : Int) := by omega
        have wk : IntKind.i64.wrap ((k : Int) + 1) = (k : Int) + 1 := IntWalk.i64_in _ (by omega)
        clear hc hx hT
        by_cases hq : x1 = g
        · have hq1 : (x1 == g) = true := by simp [hq]
          have hh : Kp.has S g = true := Kp.has_mem.2 (List.mem_map.2 ⟨_, List.mem_of_getElem? HX.out, hq⟩)
          obtain ⟨k0, k1⟩ := told2 (u := .int .i64 now) (v := .slice (some ⟨gb, off, none⟩) n c) r0 r1
          obtain ⟨y1, y2⟩ := SB.out.back H.out
          have HM := Lib.hid (show TellW w (some ⟨gb, off, none⟩) now (Kp.slp S now g t) (.int .i64 (Kp.code S g t)) (.returned (.tuple #[.agg #[.int .i64 now, .slice (some ⟨gb, off, none⟩) n c], .int .i64 5])) _ from ⟨_, _, _, by rw [(code_there (now := now) HA.out hh).1], by rw [(code_there HA.out hh).2]; exact y1, .inl rfl, y2⟩)
          clear hq hh y1 y2
          go_wp2_with fail
          refine bodyPost_ret (v := .tuple #[.agg #[.int .i64 now, .slice (some ⟨gb, off, none⟩) n c], .int .i64 5]) ?_ rfl ?_
          · simp [results, Try.results11, go_sem, k0, k1]
          exact HM.out
        · have hq1 : (x1 == g) = false := by simp [hq]
          have HF2 := Lib.hid (show Kp.has (S.take (k + 1)) g = false by rw [HT.out, HF.out]; simp [hq])
          clear hq
          by_cases ht : x2 ≤ u
          · have HN2 := Lib.hid (show k + 1 = (Kp.upto (S.take (k + 1)) u).length from (Kp.place_hit hE.out HX.out ht).symm)
            go_wp2_with fail
            go_quiet (fail)
            go_wp2_with fail
            have SB2 := Lib.hid (SB.out.step (below_drewN (Below.refl _ _) nq))
            go_roundw
            case rel => exact ⟨k + 1, k + 1, by omega, by omega, by go_num, by go_num, HN2, HF2, SB2⟩
            case measure => simp [intOf]; omega
          · have HN2 := Lib.hid (show p = (Kp.upto (S.take (k + 1)) u).length by rw [Kp.place_miss HX.out ht]; exact HN.out)
            go_wp2_with fail
            go_quiet (fail)
            go_wp2_with fail
            have SB2 := Lib.hid (SB.out.step (below_drewN (Below.refl _ _) nq))
            go_roundw
            case rel => exact ⟨k + 1, p, by omega, by omega, by go_num, rfl, HN2, HF2, SB2⟩
            case measure => simp [intOf]; omega
      · obtain rfl : k = n := by omega
        have hN := HN.out
        have hF := HF.out
        rw [List.take_of_length_le (by omega)] at hN hF
        have HPOS := Lib.hid hN
        have HH := Lib.hid hF
        have hTR := H.out.below SB.out.bx.below
        clear hN hF HF HN hlt hk d0 d1 r0 r1 f0 f1 e0 e1
        cases A with
        | none =>
          have hc0 := hnil rfl
          subst hc0
          obtain rfl : k = 0 := by omega
          obtain rfl : p = 0 := by omega
          have hLd : S.drop 0 = [] := List.drop_of_length_le (by omega)
          have hVs : w.heap.size + 3 ≤ wr.heap.size := SB.out.size
          have hO0 : (wr.alloc (.cells #[] 64)).ownsRow (w.heap.size + 3) 64 2 (.slice (some ⟨wr.heap.size, 0, none⟩) 0 0) 0 (vcells []) := World.ownsRow_made _ _ _ (by omega) (by unfold maxLen; omega) rfl
          have hb1 := below_new wr (.cells #[] 64)
          have TB := Lib.hid (hTR.take 0 (by omega))
          have T1 := Lib.hid (TB.out.step hb1)
          have HB1 := Lib.hid hb1
          have hk1 := (Nat.zero_le 0)
          have d1 := SB.out.bx.c1
          have dA := keepcell hb1 d1
          clear hb1
          go_wp2_with (first
            | (refine wpList_append_one (by rfl) _ _ (by rfl) (w.heap.size + 3) (.slice (some ⟨wr.heap.size, 0, none⟩) 0 0) 0 [] (by rfl) hO0 none 0 0 (S.take 0) (by rfl) T1.out (by omega) (by simp; omega) ?_; intro v1 z1 ho1 hg1; have HV1 := Lib.hid (HB1.out.grown hg1 (by simp) (fun k e => by simp [Value.ownBlock] at e; omega)); have S1 := Lib.hid (SB.out.step HV1.out); have g0 := S1.out.cel.c0; have g1 := S1.out.cel.c1; have ho1' : z1.ownsRow (w.heap.size + 3) 64 2 v1 0 (vcells (S.take 0)) := (by rw [List.nil_append, Nat.zero_add] at ho1; exact ho1); have HO1 := Lib.hid ho1'; obtain ⟨A1, q1, rfl, _, _⟩ := PR.of_own' ho1'; have hb3 := below_new z1 (.cells #[.int .i64 g, .int .i64 u] 64); have HB3 := Lib.hid hb3; have HO2 := Lib.hid (own_below HO1.out hb3); have S2 := Lib.hid (S1.out.step hb3); have hz1 := S1.out.size; clear ho1 hg1 ho1' hb3)
            | (refine wpList_append_one (by rfl) _ _ (by rfl) (w.heap.size + 3) (.slice A1 0 q1) 0 (S.take 0) (by rfl) HO2.out (some ⟨z1.heap.size, 0, none⟩) 1 1 [(g, u)] (by rfl) (pr_of_two z1 g u _) (by omega) (by simp; omega) ?_; intro v2 z2 ho2 hg2; have S3 := Lib.hid (S2.out.grown hg2 (fun k e => (HO2.out.lt k e).1)); have j1 := S3.out.bx.c1; have HO3 := Lib.hid ho2; have hz2 := S3.out.size; obtain ⟨A2, q2, rfl, _, _⟩ := PR.of_own' ho2; clear ho2 hg2)
            | (refine wpList_append_one (by rfl) _ _ (by rfl) (w.heap.size + 3) (.slice A2 (0 + 1) q2) (0 + 1) (S.take 0 ++ [(g, u)]) (by rfl) HO3.out none 0 0 (S.drop 0) (by rfl) (by rw [hLd]; exact PR.empty _ _ _ _ (by omega) (by intro e; rfl) (by omega)) (by omega) (by omega) ?_; intro v3 z3 ho3 hg3; have S4 := Lib.hid (S3.out.grown hg3 (fun k e => (HO3.out.lt k e).1)); obtain ⟨N3, ho4⟩ : ∃ N3, z3.ownsRow (w.heap.size + 3) 64 2 v3 N3 (vcells (S.take 0 ++ [(g, u)] ++ S.drop 0)) := ⟨_, ho3⟩; obtain ⟨A3, q3, rfl, hr3, hf3⟩ := PR.of_own' ho4; have l0 := S4.out.bx.c0; have r0 := S4.out.bx.r0; have r1 := S4.out.bx.r1; have f0 := S4.out.bx.f0; have f1 := S4.out.bx.f1; obtain ⟨k0, k1⟩ := told2 (u := .int .i64 now) (v := .slice A3 N3 q3) r0 r1; obtain ⟨y1, y2⟩ := S4.out.told hr3 (fun ad e => by have := hf3 ad e; omega); have HM := Lib.hid (show TellW w none now (Kp.slp S now g t) (.int .i64 (Kp.code S g t)) (.returned (.tuple #[.agg #[.int .i64 now, .slice A3 N3 q3], .int .i64 0])) _ from ⟨_, _, _, by rw [(code_ok (now := now) HA.out HH.out).1], by rw [(code_ok HA.out HH.out).2, HU.out, ins_cut hE.out HPOS.out]; exact y1, .inr (fun ad e => by have := new_of_own (w0 := w) ho4 (by omega) ad e; simpa [World.setCell] using this), y2⟩); clear ho3 ho4 hg3 hr3 hf3 y1 y2))
          refine bodyPost_ret ?_ rfl HM.out
          simp [results, Try.results11, go_sem, k0, k1]
        | some ad =>
          by_cases h0 : k = 0
          · subst h0
            obtain rfl : p = 0 := by omega
            have hLd : S.drop 0 = [] := List.drop_of_length_le (by omega)
            have hVs : w.heap.size + 3 ≤ wr.heap.size := SB.out.size
            have hO0 : (wr.alloc (.cells #[] 64)).ownsRow (w.heap.size + 3) 64 2 (.slice (some ⟨wr.heap.size, 0, none⟩) 0 0) 0 (vcells []) := World.ownsRow_made _ _ _ (by omega) (by unfold maxLen; omega) rfl
            have hb1 := below_new wr (.cells #[] 64)
            have TB := Lib.hid (hTR.take 0 (by omega))
            have T1 := Lib.hid (TB.out.step hb1)
            have HB1 := Lib.hid hb1
            have hk1 := (Nat.zero_le 0)
            have d1 := SB.out.bx.c1
            have dA := keepcell hb1 d1
            clear hb1
            go_wp2_with (first
              | (refine wpList_append_one (by rfl) _ _ (by rfl) (w.heap.size + 3) (.slice (some ⟨wr.heap.size, 0, none⟩) 0 0) 0 [] (by rfl) hO0 (some ad) 0 c (S.take 0) (by rfl) T1.out (by omega) (by simp; omega) ?_; intro v1 z1 ho1 hg1; have HV1 := Lib.hid (HB1.out.grown hg1 (by simp) (fun k e => by simp [Value.ownBlock] at e; omega)); have S1 := Lib.hid (SB.out.step HV1.out); have g0 := S1.out.cel.c0; have g1 := S1.out.cel.c1; have ho1' : z1.ownsRow (w.heap.size + 3) 64 2 v1 0 (vcells (S.take 0)) := (by rw [List.nil_append, Nat.zero_add] at ho1; exact ho1); have HO1 := Lib.hid ho1'; obtain ⟨A1, q1, rfl, _, _⟩ := PR.of_own' ho1'; have hb3 := below_new z1 (.cells #[.int .i64 g, .int .i64 u] 64); have HB3 := Lib.hid hb3; have HO2 := Lib.hid (own_below HO1.out hb3); have S2 := Lib.hid (S1.out.step hb3); have hz1 := S1.out.size; clear ho1 hg1 ho1' hb3)
              | (refine wpList_append_one (by rfl) _ _ (by rfl) (w.heap.size + 3) (.slice A1 0 q1) 0 (S.take 0) (by rfl) HO2.out (some ⟨z1.heap.size, 0, none⟩) 1 1 [(g, u)] (by rfl) (pr_of_two z1 g u _) (by omega) (by simp; omega) ?_; intro v2 z2 ho2 hg2; have S3 := Lib.hid (S2.out.grown hg2 (fun k e => (HO2.out.lt k e).1)); have j1 := S3.out.bx.c1; have HO3 := Lib.hid ho2; have hz2 := S3.out.size; obtain ⟨A2, q2, rfl, _, _⟩ := PR.of_own' ho2; clear ho2 hg2)
              | (refine wpList_append_one (by rfl) _ _ (by rfl) (w.heap.size + 3) (.slice A2 (0 + 1) q2) (0 + 1) (S.take 0 ++ [(g, u)]) (by rfl) HO3.out _ _ _ (S.drop 0) (by rfl) (PR.emptyL hLd (by omega) (by first | nofun | split <;> nofun) (by omega)) (by omega) (by omega) ?_; intro v3 z3 ho3 hg3; have S4 := Lib.hid (S3.out.grown hg3 (fun k e => (HO3.out.lt k e).1)); obtain ⟨N3, ho4⟩ : ∃ N3, z3.ownsRow (w.heap.size + 3) 64 2 v3 N3 (vcells (S.take 0 ++ [(g, u)] ++ S.drop 0)) := ⟨_, ho3⟩; obtain ⟨A3, q3, rfl, hr3, hf3⟩ := PR.of_own' ho4; have l0 := S4.out.bx.c0; have r0 := S4.out.bx.r0; have r1 := S4.out.bx.r1; have f0 := S4.out.bx.f0; have f1 := S4.out.bx.f1; obtain ⟨k0, k1⟩ := told2 (u := .int .i64 now) (v := .slice A3 N3 q3) r0 r1; obtain ⟨y1, y2⟩ := S4.out.told hr3 (fun ad e => by have := hf3 ad e; omega); have HM := Lib.hid (show TellW w (some ad) now (Kp.slp S now g t) (.int .i64 (Kp.code S g t)) (.returned (.tuple #[.agg #[.int .i64 now, .slice A3 N3 q3], .int .i64 0])) _ from ⟨_, _, _, by rw [(code_ok (now := now) HA.out HH.out).1], by rw [(code_ok HA.out HH.out).2, HU.out, ins_cut hE.out HPOS.out]; exact y1, .inr (fun ad e => by have := new_of_own (w0 := w) ho4 (by omega) ad e; simpa [World.setCell] using this), y2⟩); clear ho3 ho4 hg3 hr3 hf3 y1 y2))
            refine bodyPost_ret ?_ rfl HM.out
            simp [results, Try.results11, go_sem, k0, k1]
          · obtain ⟨b, off, e, _, _⟩ := hTR.cells (by omega)
            injection e with e
            subst e
            by_cases hpk : p = k
            · subst hpk
              have hLd : S.drop p = [] := List.drop_of_length_le (by omega)
              by_cases hci : c = p
              · subst hci
                have hVs : w.heap.size + 3 ≤ wr.heap.size := SB.out.size
                have hO0 : (wr.alloc (.cells #[] 64)).ownsRow (w.heap.size + 3) 64 2 (.slice (some ⟨wr.heap.size, 0, none⟩) 0 0) 0 (vcells []) := World.ownsRow_made _ _ _ (by omega) (by unfold maxLen; omega) rfl
                have hb1 := below_new wr (.cells #[] 64)
                have TB := Lib.hid (hTR.take c (by omega))
                have T1 := Lib.hid (TB.out.step hb1)
                have HB1 := Lib.hid hb1
                have hk1 := hp
                have d1 := SB.out.bx.c1
                have dA := keepcell hb1 d1
                clear hb1
                go_wp2_with (first
                  | (refine wpList_append_one (by rfl) _ _ (by rfl) (w.heap.size + 3) (.slice (some ⟨wr.heap.size, 0, none⟩) 0 0) 0 [] (by rfl) hO0 (some ⟨b, off, none⟩) c c (S.take c) (by rfl) T1.out (by omega) (by simp; omega) ?_; intro v1 z1 ho1 hg1; have HV1 := Lib.hid (HB1.out.grown hg1 (by simp) (fun k e => by simp [Value.ownBlock] at e; omega)); have S1 := Lib.hid (SB.out.step HV1.out); have g0 := S1.out.cel.c0; have g1 := S1.out.cel.c1; have ho1' : z1.ownsRow (w.heap.size + 3) 64 2 v1 c (vcells (S.take c)) := (by rw [List.nil_append, Nat.zero_add] at ho1; exact ho1); have HO1 := Lib.hid ho1'; obtain ⟨A1, q1, rfl, _, _⟩ := PR.of_own' ho1'; have hb3 := below_new z1 (.cells #[.int .i64 g, .int .i64 u] 64); have HB3 := Lib.hid hb3; have HO2 := Lib.hid (own_below HO1.out hb3); have S2 := Lib.hid (S1.out.step hb3); have hz1 := S1.out.size; clear ho1 hg1 ho1' hb3)
                  | (refine wpList_append_one (by rfl) _ _ (by rfl) (w.heap.size + 3) (.slice A1 c q1) c (S.take c) (by rfl) HO2.out (some ⟨z1.heap.size, 0, none⟩) 1 1 [(g, u)] (by rfl) (pr_of_two z1 g u _) (by omega) (by simp; omega) ?_; intro v2 z2 ho2 hg2; have S3 := Lib.hid (S2.out.grown hg2 (fun k e => (HO2.out.lt k e).1)); have j1 := S3.out.bx.c1; have HO3 := Lib.hid ho2; have hz2 := S3.out.size; obtain ⟨A2, q2, rfl, _, _⟩ := PR.of_own' ho2; clear ho2 hg2)
                  | (refine wpList_append_one (by rfl) _ _ (by rfl) (w.heap.size + 3) (.slice A2 (c + 1) q2) (c + 1) (S.take c ++ [(g, u)]) (by rfl) HO3.out _ _ _ (S.drop c) (by rfl) (PR.emptyL hLd (by omega) (by first | nofun | split <;> nofun) (by omega)) (by omega) (by omega) ?_; intro v3 z3 ho3 hg3; have S4 := Lib.hid (S3.out.grown hg3 (fun k e => (HO3.out.lt k e).1)); obtain ⟨N3, ho4⟩ : ∃ N3, z3.ownsRow (w.heap.size + 3) 64 2 v3 N3 (vcells (S.take c ++ [(g, u)] ++ S.drop c)) := ⟨_, ho3⟩; obtain ⟨A3, q3, rfl, hr3, hf3⟩ := PR.of_own' ho4; have l0 := S4.out.bx.c0; have r0 := S4.out.bx.r0; have r1 := S4.out.bx.r1; have f0 := S4.out.bx.f0; have f1 := S4.out.bx.f1; obtain ⟨k0, k1⟩ := told2 (u := .int .i64 now) (v := .slice A3 N3 q3) r0 r1; obtain ⟨y1, y2⟩ := S4.out.told hr3 (fun ad e => by have := hf3 ad e; omega); have HM := Lib.hid (show TellW w (some ⟨b, off, none⟩) now (Kp.slp S now g t) (.int .i64 (Kp.code S g t)) (.returned (.tuple #[.agg #[.int .i64 now, .slice A3 N3 q3], .int .i64 0])) _ from ⟨_, _, _, by rw [(code_ok (now := now) HA.out HH.out).1], by rw [(code_ok HA.out HH.out).2, HU.out, ins_cut hE.out HPOS.out]; exact y1, .inr (fun ad e => by have := new_of_own (w0 := w) ho4 (by omega) ad e; simpa [World.setCell] using this), y2⟩); clear ho3 ho4 hg3 hr3 hf3 y1 y2))
                refine bodyPost_ret ?_ rfl HM.out
                simp [results, Try.results11, go_sem, k0, k1]
              · have hci' : (c == p) = false := by rw [beq_eq_false_iff_ne]; exact hci
                have hci2 : p < c := by omega
                have hci3 : ¬ c - p = 0 := by omega
                have hVs : w.heap.size + 3 ≤ wr.heap.size := SB.out.size
                have hO0 : (wr.alloc (.cells #[] 64)).ownsRow (w.heap.size + 3) 64 2 (.slice (some ⟨wr.heap.size, 0, none⟩) 0 0) 0 (vcells []) := World.ownsRow_made _ _ _ (by omega) (by unfold maxLen; omega) rfl
                have hb1 := below_new wr (.cells #[] 64)
                have TB := Lib.hid (hTR.take p (by omega))
                have T1 := Lib.hid (TB.out.step hb1)
                have HB1 := Lib.hid hb1
                have hk1 := hp
                have d1 := SB.out.bx.c1
                have dA := keepcell hb1 d1
                clear hb1
                go_wp2_with (first
                  | (refine wpList_append_one (by rfl) _ _ (by rfl) (w.heap.size + 3) (.slice (some ⟨wr.heap.size, 0, none⟩) 0 0) 0 [] (by rfl) hO0 (some ⟨b, off, none⟩) p c (S.take p) (by rfl) T1.out (by omega) (by simp; omega) ?_; intro v1 z1 ho1 hg1; have HV1 := Lib.hid (HB1.out.grown hg1 (by simp) (fun k e => by simp [Value.ownBlock] at e; omega)); have S1 := Lib.hid (SB.out.step HV1.out); have g0 := S1.out.cel.c0; have g1 := S1.out.cel.c1; have ho1' : z1.ownsRow (w.heap.size + 3) 64 2 v1 p (vcells (S.take p)) := (by rw [List.nil_append, Nat.zero_add] at ho1; exact ho1); have HO1 := Lib.hid ho1'; obtain ⟨A1, q1, rfl, _, _⟩ := PR.of_own' ho1'; have hb3 := below_new z1 (.cells #[.int .i64 g, .int .i64 u] 64); have HB3 := Lib.hid hb3; have HO2 := Lib.hid (own_below HO1.out hb3); have S2 := Lib.hid (S1.out.step hb3); have hz1 := S1.out.size; clear ho1 hg1 ho1' hb3)
                  | (refine wpList_append_one (by rfl) _ _ (by rfl) (w.heap.size + 3) (.slice A1 p q1) p (S.take p) (by rfl) HO2.out (some ⟨z1.heap.size, 0, none⟩) 1 1 [(g, u)] (by rfl) (pr_of_two z1 g u _) (by omega) (by simp; omega) ?_; intro v2 z2 ho2 hg2; have S3 := Lib.hid (S2.out.grown hg2 (fun k e => (HO2.out.lt k e).1)); have j1 := S3.out.bx.c1; have HO3 := Lib.hid ho2; have hz2 := S3.out.size; obtain ⟨A2, q2, rfl, _, _⟩ := PR.of_own' ho2; clear ho2 hg2)
                  | (refine wpList_append_one (by rfl) _ _ (by rfl) (w.heap.size + 3) (.slice A2 (p + 1) q2) (p + 1) (S.take p ++ [(g, u)]) (by rfl) HO3.out _ _ _ (S.drop p) (by rfl) (PR.emptyL hLd (by omega) (by first | nofun | split <;> nofun) (by omega)) (by omega) (by omega) ?_; intro v3 z3 ho3 hg3; have S4 := Lib.hid (S3.out.grown hg3 (fun k e => (HO3.out.lt k e).1)); obtain ⟨N3, ho4⟩ : ∃ N3, z3.ownsRow (w.heap.size + 3) 64 2 v3 N3 (vcells (S.take p ++ [(g, u)] ++ S.drop p)) := ⟨_, ho3⟩; obtain ⟨A3, q3, rfl, hr3, hf3⟩ := PR.of_own' ho4; have l0 := S4.out.bx.c0; have r0 := S4.out.bx.r0; have r1 := S4.out.bx.r1; have f0 := S4.out.bx.f0; have f1 := S4.out.bx.f1; obtain ⟨k0, k1⟩ := told2 (u := .int .i64 now) (v := .slice A3 N3 q3) r0 r1; obtain ⟨y1, y2⟩ := S4.out.told hr3 (fun ad e => by have := hf3 ad e; omega); have HM := Lib.hid (show TellW w (some ⟨b, off, none⟩) now (Kp.slp S now g t) (.int .i64 (Kp.code S g t)) (.returned (.tuple #[.agg #[.int .i64 now, .slice A3 N3 q3], .int .i64 0])) _ from ⟨_, _, _, by rw [(code_ok (now := now) HA.out HH.out).1], by rw [(code_ok HA.out HH.out).2, HU.out, ins_cut hE.out HPOS.out]; exact y1, .inr (fun ad e => by have := new_of_own (w0 := w) ho4 (by omega) ad e; simpa [World.setCell] using this), y2⟩); clear ho3 ho4 hg3 hr3 hf3 y1 y2))
                refine bodyPost_ret ?_ rfl HM.out
                simp [results, Try.results11, go_sem, k0, k1]
            · have hpk2 : p < k := by omega
              have hci' : (c == p) = false := by rw [beq_eq_false_iff_ne]; omega
              have hci2 : p < c := by omega
              have hci3 : ¬ c - p = 0 := by omega
              have hVs : w.heap.size + 3 ≤ wr.heap.size := SB.out.size
              have hO0 : (wr.alloc (.cells #[] 64)).ownsRow (w.heap.size + 3) 64 2 (.slice (some ⟨wr.heap.size, 0, none⟩) 0 0) 0 (vcells []) := World.ownsRow_made _ _ _ (by omega) (by unfold maxLen; omega) rfl
              have hb1 := below_new wr (.cells #[] 64)
              have TB := Lib.hid (hTR.take p (by omega))
              have T1 := Lib.hid (TB.out.step hb1)
              have HB1 := Lib.hid hb1
              have hk1 := hp
              have d1 := SB.out.bx.c1
              have dA := keepcell hb1 d1
              clear hb1
              go_wp2_with (first
                | (refine wpList_append_one (by rfl) _ _ (by rfl) (w.heap.size + 3) (.slice (some ⟨wr.heap.size, 0, none⟩) 0 0) 0 [] (by rfl) hO0 (some ⟨b, off, none⟩) p c (S.take p) (by rfl) T1.out (by omega) (by simp; omega) ?_; intro v1 z1 ho1 hg1; have HV1 := Lib.hid (HB1.out.grown hg1 (by simp) (fun k e => by simp [Value.ownBlock] at e; omega)); have S1 := Lib.hid (SB.out.step HV1.out); have g0 := S1.out.cel.c0; have g1 := S1.out.cel.c1; have ho1' : z1.ownsRow (w.heap.size + 3) 64 2 v1 p (vcells (S.take p)) := (by rw [List.nil_append, Nat.zero_add] at ho1; exact ho1); have HO1 := Lib.hid ho1'; obtain ⟨A1, q1, rfl, _, _⟩ := PR.of_own' ho1'; have hb3 := below_new z1 (.cells #[.int .i64 g, .int .i64 u] 64); have HB3 := Lib.hid hb3; have HO2 := Lib.hid (own_below HO1.out hb3); have S2 := Lib.hid (S1.out.step hb3); have hz1 := S1.out.size; clear ho1 hg1 ho1' hb3)
                | (refine wpList_append_one (by rfl) _ _ (by rfl) (w.heap.size + 3) (.slice A1 p q1) p (S.take p) (by rfl) HO2.out (some ⟨z1.heap.size, 0, none⟩) 1 1 [(g, u)] (by rfl) (pr_of_two z1 g u _) (by omega) (by simp; omega) ?_; intro v2 z2 ho2 hg2; have S3 := Lib.hid (S2.out.grown hg2 (fun k e => (HO2.out.lt k e).1)); have j1 := S3.out.bx.c1; have HO3 := Lib.hid ho2; have hz2 := S3.out.size; obtain ⟨A2, q2, rfl, _, _⟩ := PR.of_own' ho2; clear ho2 hg2)
                | (refine wpList_append_one (by rfl) _ _ (by rfl) (w.heap.size + 3) (.slice A2 (p + 1) q2) (p + 1) (S.take p ++ [(g, u)]) (by rfl) HO3.out (some ⟨b, off + p * 2, none⟩) (k - p) (c - p) (S.drop p) (by rfl) ((H.out.below S3.out.bx.below).drop p (by omega)) (by omega) (by omega) ?_; intro v3 z3 ho3 hg3; have S4 := Lib.hid (S3.out.grown hg3 (fun k e => (HO3.out.lt k e).1)); obtain ⟨N3, ho4⟩ : ∃ N3, z3.ownsRow (w.heap.size + 3) 64 2 v3 N3 (vcells (S.take p ++ [(g, u)] ++ S.drop p)) := ⟨_, ho3⟩; obtain ⟨A3, q3, rfl, hr3, hf3⟩ := PR.of_own' ho4; have l0 := S4.out.bx.c0; have r0 := S4.out.bx.r0; have r1 := S4.out.bx.r1; have f0 := S4.out.bx.f0; have f1 := S4.out.bx.f1; obtain ⟨k0, k1⟩ := told2 (u := .int .i64 now) (v := .slice A3 N3 q3) r0 r1; obtain ⟨y1, y2⟩ := S4.out.told hr3 (fun ad e => by have := hf3 ad e; omega); have HM := Lib.hid (show TellW w (some ⟨b, off, none⟩) now (Kp.slp S now g t) (.int .i64 (Kp.code S g t)) (.returned (.tuple #[.agg #[.int .i64 now, .slice A3 N3 q3], .int .i64 0])) _ from ⟨_, _, _, by rw [(code_ok (now := now) HA.out HH.out).1], by rw [(code_ok HA.out HH.out).2, HU.out, ins_cut hE.out HPOS.out]; exact y1, .inr (fun ad e => by have := new_of_own (w0 := w) ho4 (by omega) ad e; simpa [World.setCell] using this), y2⟩); clear ho3 ho4 hg3 hr3 hf3 y1 y2))
              refine bodyPost_ret ?_ rfl HM.out
              simp [results, Try.results11, go_sem, k0, k1]
end Go.Proofs.Ytgknbjiocgcmdaa

