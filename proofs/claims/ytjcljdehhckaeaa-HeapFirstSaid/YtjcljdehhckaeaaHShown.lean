/- A heap that a law makes for itself; the document's example at the head of all statements: it is as shown. -/
import Derived.Test.YtjcljdehhckaeaaHPop
namespace Go.Proofs.Ytjcljdehhckaeaa
open Go.RowKit
set_option linter.unusedVariables false

theorem HM.new (w : World) : HM (w.alloc (.cells #[.slice none 0 0] 27)) w.heap.size (fun k => k = w.heap.size) [] := by
  refine ⟨⟨none, 0, ?_, World.ownsRow_nil _ _ _ _, fun ad e => by cases e⟩, by rw [World.frozen?_alloc_at _ _ _ _ (by simp)], rfl, fun j hj => by subst hj; simp⟩
  rw [World.cell?_alloc_at _ _ _ _ rfl]
  rfl
/-- A heap in memory that a law made for itself, the law's own world being w0. -/
structure One (w0 w : World) (b : Nat) (l : List Hp.Tm) : Prop where
  mem : ∃ F, HM w b F l ∧ ∀ k, F k → w0.heap.size ≤ k
  heap : Hp.Heap l
  below : Below w0.heap.size w0 w
theorem One.new {w0 w : World} (h : Below w0.heap.size w0 w) : One w0 (w.alloc (.cells #[.slice none 0 0] 27)) w.heap.size [] :=
  ⟨⟨_, HM.new w, fun k hk => by subst hk; exact h.size⟩, Hp.heap_nil, h.trans ((below_new w _).mono h.size)⟩
theorem One.at {w0 w : World} {b : Nat} (h : Below w0.heap.size w0 w) (hb : w.heap.size = b) : One w0 (w.alloc (.cells #[.slice none 0 0] 27)) b [] := by
  subst hb
  exact One.new h
theorem One.step {w0 w w' : World} {b : Nat} {l : List Hp.Tm} (h : One w0 w b l) (hb : Below w.heap.size w w') : One w0 w' b l := by
  obtain ⟨F, hm, hF⟩ := h.mem
  exact ⟨⟨F, hm.step hb, hF⟩, h.heap, h.below.trans (hb.mono h.below.size)⟩
theorem one_push {w0 w : World} {b : Nat} {l : List Hp.Tm} (h : One w0 w b l) (hl : l.length ≤ 100000) (t1 t2 t3 : Int) :
    Calls Try.prog 10 #[.pointer (some ⟨b, 0, none⟩), .agg #[.int .i64 t1, .int .i64 t2, .int .i64 t3]] w fun e w' => e = .returned (.tuple #[]) ∧ ∃ l', l'.Perm (l ++ [(t1, t2, t3)]) ∧ One w0 w' b l' := by
  obtain ⟨F, hm, hF⟩ := h.mem
  refine (push_any b F l t1 t2 t3 w hm (Lib.hid h.heap) hl).mono ?_
  rintro e w' ⟨rfl, F', l', hp, hh, hm', hk, hf⟩
  exact ⟨rfl, l', hp, ⟨F', hm', fun k hk' => (hf k hk').elim (hF k) (fun e => Nat.le_trans h.below.size e)⟩, hh, hk.below h.below hF h.below.size⟩
theorem one_pop {w0 w : World} {b : Nat} {l : List Hp.Tm} {x : Hp.Tm} (h : One w0 w b l) (hx : l[0]? = some x) (hl : l.length ≤ 1000000) :
    Calls Try.prog 12 #[.pointer (some ⟨b, 0, none⟩)] w fun e w' => e = .returned (.tuple #[tv x, .bool true]) ∧ ∃ l', (x :: l').Perm l ∧ One w0 w' b l' := by
  obtain ⟨F, hm, hF⟩ := h.mem
  refine (pop_any b F l x w hm (Lib.hid h.heap) hx hl).mono ?_
  rintro e w' ⟨rfl, l', hp, hh, hm', hk⟩
  exact ⟨rfl, l', hp, ⟨F, hm', hF⟩, hh, hk.below h.below hF h.below.size⟩
theorem one_first {w0 w : World} {b : Nat} {l : List Hp.Tm} (h : One w0 w b l) (hl : l.length ≤ 1000000) :
    Calls Try.prog 16 #[.pointer (some ⟨b, 0, none⟩)] w fun e w' => e = .returned (told l) ∧ One w0 w' b l := by
  obtain ⟨F, hm, hF⟩ := h.mem
  refine (first_any b F l w hm hl).mono ?_
  rintro e w' ⟨rfl, hb⟩
  exact ⟨rfl, h.step hb⟩
theorem one_empty {w0 w : World} {b : Nat} (h : One w0 w b []) :
    Calls Try.prog 12 #[.pointer (some ⟨b, 0, none⟩)] w fun e w' => e = .returned (told []) ∧ One w0 w' b [] := by
  obtain ⟨F, hm, hF⟩ := h.mem
  refine (pop_empty b F w hm).mono ?_
  rintro e w' ⟨rfl, hb⟩
  exact ⟨rfl, h.step hb⟩
theorem one_len {w0 w : World} {b : Nat} {l : List Hp.Tm} (h : One w0 w b l) :
    Calls Try.prog 18 #[.pointer (some ⟨b, 0, none⟩)] w fun e w' => e = .returned (.int .i64 l.length) ∧ w' = w := by
  obtain ⟨F, hm, hF⟩ := h.mem
  exact len_any b F l w hm
theorem two_first {l1 l2 : List Hp.Tm} (h1 : l1.Perm ([] ++ [(5, 0, 1)])) (h2 : l2.Perm (l1 ++ [(3, 0, 2)])) (h : Hp.Heap l2) : ∃ y, l2 = [(3, 0, 2), y] := by
  have hp : l2.Perm [(5, 0, 1), (3, 0, 2)] := h2.trans (h1.append_right _)
  have hl := hp.length_eq
  have h0 : l2[0]? = some (3, 0, 2) := by
    obtain ⟨x, hx⟩ : ∃ x, l2[0]? = some x := ⟨_, List.getElem?_eq_getElem (by simp at hl; omega)⟩
    have hs : Hp.Sorted [(3, 0, 2), (5, 0, 1)] := by
      refine List.pairwise_cons.2 ⟨fun a ha => ?_, List.pairwise_singleton _ _⟩
      rw [List.mem_singleton] at ha
      subst ha
      decide
    have := Hp.head_first h hx hs ((List.Perm.swap _ _ _).trans hp.symm)
    rw [hx]
    exact this.symm
  match l2, hl, h0 with
  | [a, b], _, h0 => simp at h0; subst h0; exact ⟨b, rfl⟩
set_option maxHeartbeats 1000000 in
theorem shown_any (w : World) : Calls Try.prog 9 #[] w fun e w' => e = .returned (.bool true) ∧ Below w.heap.size w w' := by
  have O0 := Lib.hid (One.new (Below.refl w.heap.size w))
  go_enter Try.func9, Try.ntmps9
  go_wp2_with fail
  refine (one_push O0.out (by simp) 5 0 1).mono ?_
  rintro e w1 ⟨rfl, l1, hp1, hO1⟩
  have O1 := Lib.hid hO1
  have P1 := Lib.hid hp1
  clear hO1 hp1
  go_wp2_with fail
  refine (one_push O1.out (by rw [P1.out.length_eq]; simp) 3 0 2).mono ?_
  rintro e w2 ⟨rfl, l2, hp2, hO2⟩
  obtain ⟨y, rfl⟩ := two_first P1.out hp2 hO2.heap
  have O2 := Lib.hid hO2
  clear hO2 hp2 P1 O1
  go_wp2_with fail
  refine (one_first O2.out (by simp)).mono ?_
  rintro e w3 ⟨rfl, hO3⟩
  have hbn := below_new w3 (.cells #[.int .i64 3, .int .i64 0, .int .i64 2] 30)
  have O3 := Lib.hid (hO3.step hbn)
  clear hO3 O2 O0 hbn
  rw [show told [(3, 0, 2), y] = .tuple #[.agg #[.int .i64 3, .int .i64 0, .int .i64 2], .bool true] from by simp [told, tv]]
  go_wp2_with fail
  refine (one_len O3.out).mono ?_
  rintro e w4 ⟨rfl, rfl⟩
  rw [show ([(3, 0, 2), y] : List Hp.Tm).length = 2 from rfl]
  go_wp2_with fail
  go_ret
  exact ⟨rfl, O3.out.below⟩
end Go.Proofs.Ytjcljdehhckaeaa

