/- The document's comparison of semaphores, and the two ways between the program's and the document's, by their contracts. -/
import Derived.Test.YtlcgadcbeoljbaaSAcq
namespace Go.Proofs.Ytlcgadcbeoljbaa
open Go.RowKit
set_option linter.unusedVariables false

theorem same_any (x : Int) (A B : Option Addr) (n c d : Nat) (zs : List Int) (w : World) (h : Row w A n c zs) (hb : Row w B n d zs) :
    Calls Try.prog 14 #[.agg #[.int .i64 x, .slice A n c], .agg #[.int .i64 x, .slice B n d]] w fun e w' => e = .returned (.bool true) ∧ Below w.heap.size w w' := by
  have b1 := below_new w (.cells #[.int .i64 x, .slice A n c] 34)
  have b2 := b1.trans ((below_new _ (.cells #[.int .i64 x, .slice B n d] 34)).mono b1.size)
  have hm := h.most
  have hc := h.cap
  have B2 := Lib.hid b2
  have H := Lib.hid h
  have HB := Lib.hid hb
  clear b1 b2 h hb
  go_enter Try.func14, Try.ntmps14
  go_wp2_with fail
  refine (ints_same A B n c d zs _ (Lib.hid H.out.len) (by omega) (H.out.below B2.out).row (HB.out.below B2.out).row).mono ?_
  rintro e w3 ⟨rfl, hb3⟩
  go_wp2_with fail
  go_ret
  exact ⟨rfl, B2.out.trans (hb3.mono B2.out.size)⟩
/-- What a call leaves that tells a semaphore of given members. -/
def TellR (w0 : World) (r : Int × List Int) (e : Ending) (w' : World) : Prop :=
  ∃ A n c, e = .returned (.agg #[.int .i64 r.1, .slice A n c]) ∧ Row w' A n c r.2 ∧ Below w0.heap.size w0 w'
theorem told_r {w W2 : World} {r : Int × List Int} {A : Option Addr} {n c : Nat} {x : Int} {u v : Value} (ha : Row W2 A n c r.2) (fa : From (w.heap.size + 2) A) (hbe : Below w.heap.size w W2) (hx : x = r.1) :
    TellR w r (.returned (.agg #[.int .i64 x, .slice A n c])) ((W2.setCell ⟨w.heap.size + 1, 0, none⟩ u).setCell ⟨w.heap.size + 1, 1, none⟩ v) := by
  subst hx
  exact ⟨A, n, c, rfl, (ha.set fa).set fa, (hbe.setCell (by simp) _).setCell (by simp) _⟩
theorem real_any (x : Int) (A : Option Addr) (n c : Nat) (zs : List Int) (w : World) (h : Row w A n c zs) :
    Calls Try.prog 15 #[.agg #[.int .i64 x, .slice A n c]] w (TellR w (x, zs)) := by
  have b1 := below_new w (.cells #[.int .i64 x, .slice A n c] 26)
  have b2 := Lib.hid (b1.trans ((below_new _ (.cells #[.int .i64 x, .slice A n c] 34)).mono b1.size))
  have H := Lib.hid h
  clear b1 h
  go_enter Try.func15, Try.ntmps15
  go_wp2_with fail
  refine bodyPost_ret (v := .agg #[.int .i64 x, .slice A n c]) ?_ rfl ?_
  · simp [results, Try.results15, go_sem]
  exact ⟨A, n, c, rfl, H.out.below b2.out, b2.out⟩
set_option maxHeartbeats 1000000 in
theorem made_any (x : Int) (A : Option Addr) (n c : Nat) (zs : List Int) (w : World) (h : Row w A n c zs) (hn : n ≤ 100000) :
    Calls Try.prog 13 #[.agg #[.int .i64 x, .slice A n c]] w (TellR w (x, zs)) := by
  obtain ⟨W0, hW0, hX0⟩ := Bx.start w (.int .i64 x) (.slice A n c) (.int .i64 0) (.slice none 0 0) 34 26
  have c0 := hX0.c0
  have c1 := hX0.c1
  have X0 := Lib.hid hX0
  have E0 := Lib.hid hW0
  have H := Lib.hid h
  clear hX0 hW0 h
  go_enter Try.func13, Try.ntmps13
  go_wp2_with fail
  rw [← E0.out]
  clear E0
  have hown := Lib.hid (World.ownsRow_made (w := W0) (base := w.heap.size + 2) (e := 3) (size := 1) #[] 0 X0.out.size (by unfold maxLen; omega) rfl)
  go_region_held3 (fun w' => w'.cell? ⟨w.heap.size, 0, none⟩ = some (.int .i64 x) ∧ w'.cell? ⟨w.heap.size, 1, none⟩ = some (.slice A n c))
    (first | (refine ⟨?_, ?_⟩ <;> assumption) | go_keep)
    ((refine step_append_row (by rfl) (.tmp 5) (.tmp 7) (by rfl) (w.heap.size + 2) _ 0 [] (by rfl) hown.out.drew A n c zs (by rfl) (H.out.below (X0.out.below.alloc X0.out.below.size _).drew) (by omega) (by have := X0.out.size; simp; omega) ?_; intro v1 w1 ho1 hg1; have hb1 : Below W0.heap.size W0 w1 := (((Below.refl _ _).alloc (Nat.le_refl _) _).drew.grown hg1 (by simp) (fun k hk => by simp [Value.ownBlock] at hk; omega)); rw [Nat.zero_add, List.nil_append] at ho1; obtain ⟨A1, q1, rfl, hr1, hf1⟩ := Row.of_own' ho1; have X1 := X0.out.step hb1; have d0 := X1.c0; have d1 := X1.c1; have d2 := X1.r0; have d3 := X1.r1; have d4 := X1.f0; have d5 := X1.f1))
  obtain ⟨k0, k1⟩ := told2 (u := .int .i64 x) (v := .slice A1 n q1) d2 d3
  have HM := Lib.hid (told_r (u := .int .i64 x) (v := .slice A1 n q1) hr1 hf1 X1.below (show x = (x, zs).1 from rfl))
  clear hg1 hb1 ho1 hr1 d0 d1 d2 d3 d4 d5 c0 c1
  go_wp2_with fail
  refine bodyPost_ret (v := .agg #[.int .i64 x, .slice A1 n q1]) ?_ rfl ?_
  · simp [results, Try.results13, go_sem, k0, k1]
  exact HM.out
theorem ints_row (A B : Option Addr) (n m c d : Nat) (zs ys : List Int) (w : World) (he : zs = ys) (h : Row w A n c zs) (hb : Row w B m d ys) :
    Calls Try.prog 10 #[.slice A n c, .slice B m d] w fun e w' => e = .returned (.bool true) ∧ Below w.heap.size w w' := by
  subst he
  have e1 := h.len
  have e2 := hb.len
  obtain rfl : n = m := by omega
  have h1 := h.cap
  have h2 := h.most
  exact ints_same A B n c d zs w (Lib.hid e1) (by omega) h.row hb.row
/-- Two semaphores that are one. -/
theorem same_row (x y : Int) (A B : Option Addr) (n m c d : Nat) (zs ys : List Int) (w : World) (hx : x = y) (he : zs = ys) (h : Row w A n c zs) (hb : Row w B m d ys) :
    Calls Try.prog 14 #[.agg #[.int .i64 x, .slice A n c], .agg #[.int .i64 y, .slice B m d]] w fun e w' => e = .returned (.bool true) ∧ Below w.heap.size w w' := by
  subst hx he
  have e1 := h.len
  have e2 := hb.len
  obtain rfl : n = m := by omega
  exact same_any x A B n c d zs w h hb
end Go.Proofs.Ytlcgadcbeoljbaa

