/- The document's arena: a struct of four words; a number's generation, who is taken, a list without a number, by their contracts. -/
import Derived.Test.YtncmliojndgoiaaVMem
import Derived.Test.YtncmliojndgoiaaRApp
import Derived.Deep.RegionLaw
namespace Go.Proofs.Ytncmliojndgoiaa
open Go.RowKit
set_option linter.unusedVariables false

/-- Block b holds four cells that may be written. -/
structure Cel8 (W : World) (b : Nat) (x0 x1 x2 x3 : Value) : Prop where
  c0 : W.cell? ⟨b, 0, none⟩ = some x0
  c1 : W.cell? ⟨b, 1, none⟩ = some x1
  c2 : W.cell? ⟨b, 2, none⟩ = some x2
  c3 : W.cell? ⟨b, 3, none⟩ = some x3
  z : ∀ o, W.frozen? ⟨b, o, none⟩ = false
theorem Cel8.lt {W : World} {b : Nat} {x0 x1 x2 x3 : Value} (h : Cel8 W b x0 x1 x2 x3) : b < W.heap.size := World.block_lt_of_cell? W ⟨b, 0, none⟩ h.c0
theorem Cel8.keep {W W' : World} {b : Nat} {x0 x1 x2 x3 : Value} (h : Cel8 W b x0 x1 x2 x3) (hk : W'.heap[b]? = W.heap[b]?) : Cel8 W' b x0 x1 x2 x3 :=
  ⟨(World.cell?_of_block (w := W) hk).trans h.c0, (World.cell?_of_block (w := W) hk).trans h.c1, (World.cell?_of_block (w := W) hk).trans h.c2, (World.cell?_of_block (w := W) hk).trans h.c3, fun o => (World.frozen?_of_block (w := W) hk).trans (h.z o)⟩
theorem Cel8.step {W W' : World} {b : Nat} {x0 x1 x2 x3 : Value} (h : Cel8 W b x0 x1 x2 x3) (hb : Below W.heap.size W W') : Cel8 W' b x0 x1 x2 x3 := h.keep (hb.block b h.lt)
theorem Cel8.new (w : World) (x0 x1 x2 x3 : Value) (T : TypeId) : Cel8 (w.alloc (.cells #[x0, x1, x2, x3] T)) w.heap.size x0 x1 x2 x3 :=
  ⟨by rw [World.cell?_alloc_at _ _ _ _ rfl]; rfl, by rw [World.cell?_alloc_at _ _ _ _ rfl]; rfl, by rw [World.cell?_alloc_at _ _ _ _ rfl]; rfl, by rw [World.cell?_alloc_at _ _ _ _ rfl]; rfl, fun o => by rw [World.frozen?_alloc_at _ _ _ _ rfl]⟩
/-- The four cells written anew. -/
def put4 (W : World) (b : Nat) (y0 y1 y2 y3 : Value) : World := (((W.setCell ⟨b, 0, none⟩ y0).setCell ⟨b, 1, none⟩ y1).setCell ⟨b, 2, none⟩ y2).setCell ⟨b, 3, none⟩ y3
theorem set_same {W : World} {b o : Nat} {v u : Value} (h : W.cell? ⟨b, o, none⟩ = some v) : (W.setCell ⟨b, o, none⟩ u).cell? ⟨b, o, none⟩ = some u := World.cell?_setCell_same' _ _ _ (by rw [h]; rfl)
theorem set_far {W : World} {b b' o o' : Nat} {v u : Value} (h : W.cell? ⟨b, o, none⟩ = some v) (hne : b ≠ b') : (W.setCell ⟨b', o', none⟩ u).cell? ⟨b, o, none⟩ = some v :=
  (World.cell?_setCell_other _ _ _ _ (fun e => by injection e with e; exact hne e.symm)).trans h
theorem Cel8.put {W : World} {b : Nat} {x0 x1 x2 x3 : Value} (h : Cel8 W b x0 x1 x2 x3) (y0 y1 y2 y3 : Value) : Cel8 (put4 W b y0 y1 y2 y3) b y0 y1 y2 y3 := by
  have a1 := raw_other (u := y0) h.c1 (show 1 ≠ 0 by omega)
  have a2 := raw_other (u := y1) (raw_other (u := y0) h.c2 (show 2 ≠ 0 by omega)) (show 2 ≠ 1 by omega)
  have a3 := raw_other (u := y2) (raw_other (u := y1) (raw_other (u := y0) h.c3 (show 3 ≠ 0 by omega)) (show 3 ≠ 1 by omega)) (show 3 ≠ 2 by omega)
  exact ⟨raw_other (raw_other (raw_other (set_same h.c0) (by omega)) (by omega)) (by omega), raw_other (raw_other (set_same a1) (by omega)) (by omega), raw_other (set_same a2) (by omega), set_same a3,
    fun o => by unfold put4; rw [World.frozen?_setCell, World.frozen?_setCell, World.frozen?_setCell, World.frozen?_setCell]; exact h.z o⟩
theorem put4_block (W : World) (b j : Nat) (y0 y1 y2 y3 : Value) (h : j ≠ b) : (put4 W b y0 y1 y2 y3).heap[j]? = W.heap[j]? := by
  unfold put4
  rw [Below.heap_setCell _ _ _ _ h, Below.heap_setCell _ _ _ _ h, Below.heap_setCell _ _ _ _ h, Below.heap_setCell _ _ _ _ h]
theorem put4_size (W : World) (b : Nat) (y0 y1 y2 y3 : Value) : (put4 W b y0 y1 y2 y3).heap.size = W.heap.size := by simp [put4, World.setCell]
theorem below_put4 {B : Nat} {w W : World} (h : Below B w W) {b : Nat} (hb : B ≤ b) (y0 y1 y2 y3 : Value) : Below B w (put4 W b y0 y1 y2 y3) :=
  (((h.setCell (p := ⟨b, 0, none⟩) hb y0).setCell (p := ⟨b, 1, none⟩) hb y1).setCell (p := ⟨b, 2, none⟩) hb y2).setCell (p := ⟨b, 3, none⟩) hb y3
/-- A row of numbers in blocks of which P holds (if it has a member). -/
def FromP (P : Nat → Prop) (A : Option Addr) (l : List Int) : Prop := ∀ ad, A = some ad → l ≠ [] → P ad.block
theorem FromP.nothing (P : Nat → Prop) (A : Option Addr) : FromP P A [] := fun _ _ h => absurd rfl h
theorem From.fromP {B : Nat} {P : Nat → Prop} {A : Option Addr} (h : From B A) (hP : ∀ b, B ≤ b → P b) (l : List Int) : FromP P A l := fun ad e _ => hP _ (h ad e)
theorem Row.keepP {W W' : World} {P : Nat → Prop} {A : Option Addr} {n c : Nat} {zs : List Int} (h : Row W A n c zs) (hf : FromP P A zs) (hs : W.heap.size ≤ W'.heap.size) (hk : ∀ j, j < W.heap.size → P j → W'.heap[j]? = W.heap[j]?) : Row W' A n c zs := by
  refine ⟨h.len, h.cap, h.most, h.nil, fun i z hi => ?_⟩
  obtain ⟨b', off, e, hb, hc⟩ := h.row i z hi
  have hp := hf _ e (by intro e0; rw [e0] at hi; cases hi)
  exact ⟨b', off, e, Nat.lt_of_lt_of_le hb hs, (World.cell?_of_block (w := W) (hk b' hb hp)).trans hc⟩
theorem FromP.imp {W : World} {P P' : Nat → Prop} {A : Option Addr} {n c : Nat} {zs : List Int} (h : FromP P A zs) (hr : Row W A n c zs) (hP : ∀ b, b < W.heap.size → P b → P' b) : FromP P' A zs := fun ad e hz => by
  cases zs with
  | nil => exact absurd rfl hz
  | cons z t =>
    obtain ⟨b', off, e', hb, _⟩ := hr.row 0 z rfl
    have := h ad e hz
    rw [e] at e'
    injection e' with e'
    subst e'
    exact hP _ hb this
/-- The document's arena's three lists. -/
structure X8 (W : World) (P : Nat → Prop) (A1 : Option Addr) (n1 c1 : Nat) (A2 : Option Addr) (n2 c2 : Nat) (A3 : Option Addr) (n3 c3 : Nat) (a : Vp.Ar) : Prop where
  l : Row W A1 n1 c1 a.live
  f : Row W A2 n2 c2 a.freed
  g : Row W A3 n3 c3 a.gens
  pl : FromP P A1 a.live
  pf : FromP P A2 a.freed
  pg : FromP P A3 a.gens
theorem X8.keep {W W' : World} {P P' : Nat → Prop} {A1 A2 A3 : Option Addr} {n1 c1 n2 c2 n3 c3 : Nat} {a : Vp.Ar} (h : X8 W P A1 n1 c1 A2 n2 c2 A3 n3 c3 a) (hs : W.heap.size ≤ W'.heap.size) (hk : ∀ j, j < W.heap.size → P j → W'.heap[j]? = W.heap[j]?) (hP : ∀ j, j < W.heap.size → P j → P' j) : X8 W' P' A1 n1 c1 A2 n2 c2 A3 n3 c3 a :=
  ⟨h.l.keepP h.pl hs hk, h.f.keepP h.pf hs hk, h.g.keepP h.pg hs hk, h.pl.imp h.l hP, h.pf.imp h.f hP, h.pg.imp h.g hP⟩
theorem X8.step {W W' : World} {P : Nat → Prop} {A1 A2 A3 : Option Addr} {n1 c1 n2 c2 n3 c3 : Nat} {a : Vp.Ar} (h : X8 W P A1 n1 c1 A2 n2 c2 A3 n3 c3 a) (hb : Below W.heap.size W W') : X8 W' P A1 n1 c1 A2 n2 c2 A3 n3 c3 a := h.keep hb.size (fun j hj _ => hb.block j hj) (fun _ _ h => h)

/-- A number's generation. -/
theorem refGen_any (r : Int) (v1 v2 : Value) (A : Option Addr) (n c : Nat) (a : Vp.Ar) (g : Int) (w : World) (h : Row w A n c a.gens) :
    Calls Try.prog 19 #[.agg #[.int .i64 r, v1, v2, .slice A n c], .int .i64 g] w fun e w' => e = .returned (.int .i64 (Vp.gen a g)) ∧ Below w.heap.size w w' := by
  have C := Cel8.new w (.int .i64 r) v1 v2 (.slice A n c) 29
  have B := Lib.hid (below_new w (.cells #[.int .i64 r, v1, v2, .slice A n c] 29))
  have c3 := C.c3
  have hl := h.len
  have hc := h.cap
  have hm := h.most
  by_cases g1 : g < 1
  · have HG := Lib.hid (show Vp.gen a g = 0 from if_pos (.inl g1))
    clear C h hl
    go_enter Try.func19, Try.ntmps19
    go_wp2_with fail
    go_ret
    exact ⟨ret_int HG.out.symm, B.out⟩
  · by_cases g2 : (n : Int) ≤ g
    · have HG := Lib.hid (show Vp.gen a g = 0 from if_pos (.inr (by omega)))
      clear C h hl
      go_enter Try.func19, Try.ntmps19
      go_wp2_with fail
      go_ret
      exact ⟨ret_int HG.out.symm, B.out⟩
    · obtain ⟨j, rfl⟩ : ∃ j : Nat, g = j := ⟨g.toNat, by omega⟩
      obtain ⟨x, hx⟩ : ∃ x, a.gens[j]? = some x := ⟨_, List.getElem?_eq_getElem (by omega)⟩
      have HG := Lib.hid (show Vp.gen a j = x by unfold Vp.gen; rw [if_neg (by omega), List.getD_eq_getElem?_getD, show ((j : Int)).toNat = j from rfl, hx]; rfl)
      obtain ⟨b', off, rfl, hb', hcs⟩ := h.cells (by omega)
      have cx := keepcell B.out (hcs j x hx)
      have hjn : (j : Int) < (n : Int) := by omega
      clear C h hl hcs hx
      go_enter Try.func19, Try.ntmps19
      go_wp2_with fail
      go_ret
      exact ⟨ret_int HG.out.symm, B.out⟩
/-- Who is taken. -/
theorem refPick_any (v3 : Value) (A1 : Option Addr) (n1 c1 : Nat) (A2 : Option Addr) (n2 c2 : Nat) (a : Vp.Ar) (w : World) (h1 : Row w A1 n1 c1 a.live) (h2 : Row w A2 n2 c2 a.freed) (hr : a.room ≤ 64) :
    Calls Try.prog 22 #[.agg #[.int .i64 a.room, .slice A1 n1 c1, .slice A2 n2 c2, v3]] w fun e w' => e = .returned (.int .i64 (Vp.pick a)) ∧ Below w.heap.size w w' := by
  have C := Lib.hid (Cel8.new w (.int .i64 a.room) (.slice A1 n1 c1) (.slice A2 n2 c2) v3 29)
  have B := Lib.hid (below_new w (.cells #[.int .i64 a.room, .slice A1 n1 c1, .slice A2 n2 c2, v3] 29))
  have hl := h2.len
  have hc := h2.cap
  have hm := h2.most
  by_cases hn : 0 < n2
  · obtain ⟨b', off, rfl, hb', hcs⟩ := h2.cells hn
    obtain ⟨x, hx⟩ : ∃ x, a.freed[n2 - 1]? = some x := ⟨_, List.getElem?_eq_getElem (by omega)⟩
    have HP := Lib.hid (show Vp.pick a = x by unfold Vp.pick; rw [List.getLast?_eq_getElem?, hl, hx])
    have cx := keepcell B.out (hcs _ x hx)
    have s1 : IntKind.i64.wrap ((n2 : Int) - 1) = (n2 : Int) - 1 := IntWalk.i64_in _ (by omega)
    have s2 : (0 : Int) ≤ (n2 : Int) - 1 := by omega
    have s3 : (n2 : Int) - 1 < (n2 : Int) := by omega
    have s4 : ((n2 : Int) - 1).toNat = n2 - 1 := by omega
    have d2 := C.out.c2
    clear h1 h2 hl hcs hx
    go_enter Try.func22, Try.ntmps22
    go_wp2_with fail
    go_ret
    exact ⟨ret_int HP.out.symm, B.out⟩
  · obtain rfl : n2 = 0 := by omega
    have hf : a.freed = [] := List.length_eq_zero_iff.1 hl
    have HP := Lib.hid (show Vp.pick a = Vp.least a.live a.room 1 by unfold Vp.pick; rw [hf]; rfl)
    have H1 := Lib.hid h1
    have hm1 := h1.most
    have hc1 := h1.cap
    clear h2 hl hf h1
    go_enter Try.func22, Try.ntmps22
    have d2 := C.out.c2
    go_wp2_with fail
    clear d2
    generalize w.alloc (.cells #[.int .i64 a.room, .slice A1 n1 c1, .slice A2 0 c2, v3] 29) = W at C B ⊢
    go_loopw [3] (fun i wr => ∃ k : Nat, k ≤ a.room ∧ i = .int .i64 (k + 1) ∧ wr = W ∧ Hid (∀ j : Nat, j < k → a.live.contains (1 + (j : Int)) = true)) (fun i _ => a.room + 1 - (intOf i).toNat)
    case atStart => exact ⟨0, Nat.zero_le _, rfl, rfl, Lib.hid (fun j hj => by omega)⟩
    case round =>
      obtain ⟨k, hk, rfl, rfl, HK⟩ := hrel
      have d0 := C.out.c0
      have d1 := C.out.c1
      have R1 := H1.out.below B.out
      have hsk := Lib.hid (Vp.least_skip a.room 1 k hk HK.out)
      by_cases hkn : k < a.room
      · cases hh : Tp.has a.live ((k : Int) + 1) with
        | true =>
          have HK2 := Lib.hid (show ∀ j : Nat, j < k + 1 → a.live.contains (1 + (j : Int)) = true from fun j hj => by
            by_cases e : j = k
            · subst e; rw [Int.add_comm]; exact hh
            · exact HK.out j (by omega))
          have HH := Lib.hid hh
          have R := Lib.hid R1
          clear hh R1
          go_wp2_with fail
          refine (in_any A1 n1 c1 a.live ((k : Int) + 1) wr wr.heap.size (Lib.hid R.out.len) (by omega) R.out.row).mono ?_
          rintro e w5 ⟨rfl, rfl⟩
          rw [HH.out]
          go_wp2_with fail
          go_roundw
          case rel => exact ⟨k + 1, by omega, by go_num, (by first | rfl | trivial), HK2⟩
          case measure => simp [intOf]; omega
        | false =>
          have HF := Lib.hid (show Vp.pick a = (k : Int) + 1 by
            obtain ⟨d, hd⟩ : ∃ d, a.room - k = d + 1 := ⟨a.room - k - 1, by omega⟩
            rw [HP.out, hsk.out, hd, Vp.least, if_neg (by rw [show (1 : Int) + (k : Int) = (k : Int) + 1 by omega]; unfold Tp.has at hh; rw [hh]; simp)]
            omega)
          have HH := Lib.hid hh
          have R := Lib.hid R1
          clear hh R1
          go_wp2_with fail
          refine (in_any A1 n1 c1 a.live ((k : Int) + 1) wr wr.heap.size (Lib.hid R.out.len) (by omega) R.out.row).mono ?_
          rintro e w5 ⟨rfl, rfl⟩
          rw [HH.out]
          go_wp2_with fail
          go_ret
          exact ⟨ret_int HF.out.symm, B.out⟩
      · have HF := Lib.hid (show Vp.pick a = 0 by rw [HP.out, hsk.out, show a.room - k = 0 by omega, Vp.least])
        have hkr : (k : Int) = (a.room : Int) := by omega
        clear R1
        go_wp2_with fail
        go_ret
        exact ⟨ret_int HF.out.symm, B.out⟩
theorem without_snoc_ne {l : List Int} {k : Nat} {x g : Int} (h : l[k]? = some x) (hx : (x != g) = true) : Vp.without (l.take (k + 1)) g = Vp.without (l.take k) g ++ [x] := by
  rw [List.take_add_one, h]; simp only [Option.toList_some, Vp.without, List.filter_append]; simp [hx]
theorem without_snoc_eq {l : List Int} {k : Nat} {x g : Int} (h : l[k]? = some x) (hx : (x != g) = false) : Vp.without (l.take (k + 1)) g = Vp.without (l.take k) g := by
  rw [List.take_add_one, h]; simp only [Option.toList_some, Vp.without, List.filter_append]; simp [hx]
theorem without_le (l : List Int) (g : Int) (k : Nat) : (Vp.without (l.take k) g).length ≤ k := by
  have := List.length_filter_le (fun z => z != g) (l.take k)
  unfold Vp.without
  rw [List.length_take] at this
  omega
/-- A list without a number. -/
theorem without_any (A : Option Addr) (n c : Nat) (l : List Int) (g : Int) (w : World) (h : Row w A n c l) (hn : n ≤ 1000) :
    Calls Try.prog 23 #[.slice A n c, .int .i64 g] w (MadeO w (Vp.without l g)) := by
  obtain ⟨i0, hi, hz0, hz1, hz2⟩ := info_parts info_int
  have H := Lib.hid h
  clear h
  go_enter Try.func23, Try.ntmps23
  go_wp2_with fail
  go_loopw [5, 6] (fun v i wr => ∃ (k q : Nat), k ≤ n ∧ q ≤ k ∧ i = .int .i64 k ∧ Hid (wr.ownsRow w.heap.size 3 1 v q ((Vp.without (l.take k) g).map (Value.int .i64))) ∧ Hid (Below w.heap.size w wr)) (fun _ i _ => n - (intOf i).toNat)
  case atStart => exact ⟨0, 0, Nat.zero_le _, Nat.le_refl _, rfl, Lib.hid (World.ownsRow_nil _ _ _ _), Lib.hid (Below.refl _ _)⟩
  case round =>
    obtain ⟨k, q, hk, hq, rfl, HO, HB⟩ := hrel
    by_cases hkn : k < n
    · obtain ⟨b', off, rfl, hb', hcs⟩ := H.out.cells (by omega)
      obtain ⟨x, hx⟩ : ∃ x, l[k]? = some x := ⟨_, List.getElem?_eq_getElem (by rw [H.out.len]; exact hkn)⟩
      have cx := keepcell HB.out (hcs k x hx)
      obtain ⟨Av, cv, hv⟩ := own_form HO.out
      subst hv
      cases hxg : (x != g) with
      | true =>
        have HN := Lib.hid (without_snoc_ne hx hxg)
        have ho := HO.out
        clear hx hcs
        go_wp2_with (at_builtin; refine wpList_append_own _ rfl _ _ 22 rfl w.heap.size 3 i0 (.int .i64 0) 1 8 Try.underlying22 hi hz0 hz1 hz2 rfl (by decide) _ _ _ rfl (ho.alloc _) ⟨wr.heap.size, 0, none⟩ 1 1 [.int .i64 x] rfl rfl ?c1 ?c2 ?c3 ?c4 ?c5 ?_)
        case c1 => exact cell_one_new _ _ _
        case c2 => exact ints_oneCell .i64 [x]
        case c3 => unfold maxLen; omega
        case c4 => omega
        case c5 => have := HB.out.size; simp; omega
        intro v' w2 ho2 hg2 _
        have HO2 := Lib.hid (show w2.ownsRow w.heap.size 3 1 v' (q + 1) ((Vp.without (l.take (k + 1)) g).map (Value.int .i64)) by rw [HN.out, List.map_append]; exact ho2)
        have HB2 := Lib.hid ((HB.out.alloc HB.out.size (.cells #[.int .i64 x] 3)).grown hg2 (by have := HB.out.size; simp; omega) (fun j e => (ho.lt j e).1))
        clear ho2 hg2 ho cx
        go_wp2_with fail
        go_roundw
        case rel => exact ⟨k + 1, q + 1, by omega, by omega, by go_num, HO2, HB2⟩
        case measure => simp [intOf]; omega
      | false =>
        have HO2 := Lib.hid (show wr.ownsRow w.heap.size 3 1 (.slice Av q cv) q ((Vp.without (l.take (k + 1)) g).map (Value.int .i64)) by rw [without_snoc_eq hx hxg]; exact HO.out)
        clear hx hcs
        go_wp2_with fail
        go_roundw
        case rel => exact ⟨k + 1, q, by omega, by omega, by go_num, HO2, HB⟩
        case measure => simp [intOf]; omega
    · obtain rfl : k = n := by omega
      obtain ⟨Av, cv, hv⟩ := own_form HO.out
      subst hv
      have ho := HO.out
      rw [List.take_of_length_le (by rw [H.out.len]; exact Nat.le_refl _)] at ho
      have HM := Lib.hid (show MadeO w (Vp.without l g) (.returned (.slice Av q cv)) wr from ⟨_, q, rfl, ho, HB.out⟩)
      clear ho
      go_wp2_with fail
      go_ret
      exact HM.out
end Go.Proofs.Ytncmliojndgoiaa

