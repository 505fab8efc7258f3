/- ring.All and ring.Half, by their contracts. -/
import Derived.Test.YthbofkhlbkdboaaRPut
namespace Go.Proofs.Ythbofkhlbkdboaa
open Go.RowKit
set_option linter.unusedVariables false

set_option maxHeartbeats 1600000 in
theorem all_own (x : Int) (A : Option Addr) (n c : Nat) (zs : List Int) (w : World) (h : Row w A n c zs) (hn : n ≤ 100000) :
    Calls Try.prog 23 #[.agg #[.int .i64 x, .slice A n c]] w (MadeO w (Rp.all (x, zs))) := by
  have H := Lib.hid h
  clear h
  by_cases hx : x = 0
  · subst hx
    have hb := Lib.hid (below_new w (.cells #[.int .i64 0, .slice A n c] 26))
    have HR := Lib.hid (show Rp.all (0, zs) = zs from rfl)
    go_enter Try.func23, Try.ntmps23
    go_wp2_with fail
    refine (left_own A n c zs 0 _ (H.out.below hb.out) (by omega) (by omega)).mono ?_
    rintro e w2 ⟨v2, n2, rfl, ho2, hb2⟩
    rw [List.drop_zero] at ho2
    go_wp2_with fail
    go_ret
    exact ⟨v2, n2, rfl, by rw [HR.out]; exact own_base' ho2 hb.out.size, hb.out.trans (hb2.mono hb.out.size)⟩
  · have t1 : (x == 0) = false := by rw [beq_eq_false_iff_ne]; exact hx
    have HR := Lib.hid (show Rp.all (x, zs) = [x] ++ zs by unfold Rp.all; rw [if_neg hx]; rfl)
    have hb := Lib.hid (below_new w (.cells #[.int .i64 x, .slice A n c] 26))
    have hb1 := Lib.hid (below_new (w.alloc (.cells #[.int .i64 x, .slice A n c] 26)) (.cells #[.int .i64 x] 3))
    have hown := Lib.hid (own_lit (w.alloc (.cells #[.int .i64 x, .slice A n c] 26)) [x] w.heap.size (by simp) (by simp))
    go_enter Try.func23, Try.ntmps23
    go_wp2_with (at_builtin; refine wpList_append_row rfl (.tmp 11) (.tmp 13) rfl w.heap.size (.slice (some ⟨w.heap.size + 1, 0, none⟩) 1 1) 1 [x] rfl ?c1 A n c zs rfl ?c2 (by omega) ?c3 ?_)
    case c1 => simpa using hown.out
    case c2 => exact (H.out.below hb.out).below hb1.out
    case c3 => simp; omega
    intro v2 w2 hown2 hg2
    have hbe : Below w.heap.size w w2 := (hb.out.trans (hb1.out.mono hb.out.size)).grown hg2 (by simp; omega) (fun k hk => by simp [Value.ownBlock] at hk; omega)
    have ho2 : w2.ownsRow w.heap.size 3 1 v2 (1 + n) (([x] ++ zs).map (Value.int .i64)) := by simpa using hown2
    clear hown2
    go_wp2_with fail
    go_ret
    exact ⟨v2, _, rfl, by rw [HR.out]; exact ho2, hbe⟩
theorem all_any (x : Int) (A : Option Addr) (n c : Nat) (zs : List Int) (w : World) (h : Row w A n c zs) (hn : n ≤ 100000) :
    Calls Try.prog 23 #[.agg #[.int .i64 x, .slice A n c]] w (MadeR w (Rp.all (x, zs))) := (all_own x A n c zs w h hn).mono fun _ _ => MadeO.madeR
set_option maxHeartbeats 1600000 in
theorem half_any (x : Int) (A : Option Addr) (n c : Nat) (zs : List Int) (w : World) (h : Row w A n c zs) (hn : n ≤ 100000) :
    Calls Try.prog 21 #[.agg #[.int .i64 x, .slice A n c]] w (MadeRL w (Rp.half (x, zs))) := by
  have h1 := h.cap
  have h2 := h.most
  have H := Lib.hid h
  clear h
  obtain ⟨W0, hW0, hX0⟩ := Bx.start w (.int .i64 x) (.slice A n c) (.int .i64 0) (.slice none 0 0) 26 26
  have c0 := hX0.c0
  have c1 := hX0.c1
  have X0 := Lib.hid hX0
  have E0 := Lib.hid hW0
  clear hX0 hW0
  by_cases h0 : n = 0
  · subst h0
    have hz : zs = [] := List.length_eq_zero_iff.1 H.out.len
    subst hz
    have HR := Lib.hid (show Rp.half (x, []) = ((0, []), Rp.all (x, [])) from rfl)
    go_enter Try.func21, Try.ntmps21
    go_wp2_with fail
    rw [← E0.out]
    clear E0
    refine (all_any x A 0 c [] _ (H.out.below X0.out.below) (by omega)).mono ?_
    rintro e w2 ⟨A2, n2, c2, rfl, hr2, hf2, hb2⟩
    have X2 := X0.out.step hb2
    have HM := made_rl (r := ((0, []), Rp.all (x, []))) (x := 0) (n := 0) (c := 0) (A := none) (u := .int .i64 0) (v := .slice none 0 0) (w := w) rfl (Row.nothing _) (From.none _) hr2 (hf2.mono X0.out.size) X2.below
    rw [← HR.out] at HM
    have HM := Lib.hid HM
    have d2 := X2.r0
    have d3 := X2.r1
    have d4 := X2.f0
    have d5 := X2.f1
    obtain ⟨k0, k1⟩ := told2 (u := .int .i64 0) (v := .slice none 0 0) d2 d3
    clear hr2 hf2 hb2 HR
    go_wp2_with fail
    refine bodyPost_ret (v := .tuple #[.agg #[.int .i64 0, .slice none 0 0], .slice A2 n2 c2]) ?_ rfl ?_
    · simp [results, Try.results21, go_sem, k0, k1]
    exact HM.out
  · obtain ⟨k, hk⟩ : ∃ k, k = Rp.hf zs := ⟨_, rfl⟩
    have hkn : k = n - n / 2 := by rw [hk]; unfold Rp.hf; rw [H.out.len]
    have HR := Lib.hid (show Rp.half (x, zs) = ((x, zs.drop k), zs.take k) by unfold Rp.half; rw [if_neg (by rw [H.out.len]; exact h0), hk])
    have t0 : Int.tdiv (n : Int) 2 = ((n / 2 : Nat) : Int) := rfl
    have t9 : IntKind.i64.wrap ((n : Int) - (n : Int) / 2) = (k : Int) := by rw [IntWalk.i64_in _ (by omega)]; omega
    have t1 : (0 : Int) ≤ (k : Int) := by omega
    have t2 : (k : Int) ≤ (c : Int) := by omega
    have t4 : k ≤ n := by omega
    have tn : ((n : Int) == 0) = false := by rw [beq_eq_false_iff_ne]; omega
    have HK := Lib.hid hkn
    clear hk hkn
    go_enter Try.func21, Try.ntmps21
    go_wp2_with fail
    rw [← E0.out]
    clear E0
    go_region_held3 (fun w' => w'.cell? ⟨w.heap.size, 0, none⟩ = some (.int .i64 x) ∧ w'.cell? ⟨w.heap.size, 1, none⟩ = some (.slice A n c))
      (first | (refine ⟨?_, ?_⟩ <;> assumption) | go_keep)
      (first
        | ((fail_if_success (with_reducible apply Calls.mono (P := Try.prog) (f := 29) (args := #[.slice A k c, .int .i64 0]))); go_at_call 29; refine (left_any A n c zs k _ (by first | exact H.out.below (X0.out.drew).below | exact H.out.below XB.below) (by omega) (by omega)).mono ?_; rintro e wL ⟨AL, nL, cL, rfl, hrL, hfL, hbL⟩; have XL : Bx w wL (.int .i64 x) (.slice A n c) (.int .i64 0) (.slice none 0 0) := (by first | exact X0.out.drew.step hbL | exact XB.step hbL); have fL : From (w.heap.size + 2) AL := (by first | exact hfL.mono X0.out.size | exact hfL.mono XB.size); have l0 := XL.c0; have l1 := XL.c1; have l2 := XL.r0; have l3 := XL.r1; have l4 := XL.f0; have l5 := XL.f1)
        | ((fail_if_success (with_reducible apply Calls.mono (P := Try.prog) (f := 29) (args := #[.slice A n c, .int .i64 k]))); go_at_call 29; refine (left_at A k c (zs.take k) 0 _ _ rfl (by first | exact (H.out.below (X0.out.drew).below).take _ (by omega) | exact (H.out.below XL.below).take _ (by omega)) (by omega) (by omega)).mono ?_; rintro e wB ⟨AB, nB, cB, rfl, hrB, hfB, hbB⟩; have XB : Bx w wB (.int .i64 x) (.slice A n c) (.int .i64 0) (.slice none 0 0) := (by first | exact X0.out.drew.step hbB | exact XL.step hbB); have fB : From (w.heap.size + 2) AB := (by first | exact hfB.mono X0.out.size | exact hfB.mono XL.size); have b0 := XB.c0; have b1 := XB.c1; have b2 := XB.r0; have b3 := XB.r1; have b4 := XB.f0; have b5 := XB.f1))
    all_goals
      rw [List.drop_zero] at hrB
      first
        | (have HM := made_rl (r := ((x, zs.drop k), zs.take k)) (x := x) (u := .int .i64 x) (v := .slice AL nL cL) (w := w) rfl (hrL.below hbB) fL hrB fB XB.below; obtain ⟨k0, k1⟩ := told2 (u := .int .i64 x) (v := .slice AL nL cL) b2 b3)
        | (have HM := made_rl (r := ((x, zs.drop k), zs.take k)) (x := x) (u := .int .i64 x) (v := .slice AL nL cL) (w := w) rfl hrL fL (hrB.below hbL) fB XL.below; obtain ⟨k0, k1⟩ := told2 (u := .int .i64 x) (v := .slice AL nL cL) l2 l3)
      rw [← HR.out] at HM
      have HM := Lib.hid HM
      clear b0 b1 b2 b3 b4 b5 l0 l1 l2 l3 l4 l5 hrB hfB hbB hrL hfL hbL HR c0 c1
      go_wp2_with fail
      refine bodyPost_ret (v := .tuple #[.agg #[.int .i64 x, .slice AL nL cL], .slice AB nB cB]) ?_ rfl ?_
      · simp [results, Try.results21, go_sem, k0, k1]
      exact HM.out
end Go.Proofs.Ythbofkhlbkdboaa

