/- Contracts and plain mathematics, put together by program (wip/merge.py) out of: JRefWhere ZRef ZRefWith ZLaid JFrame. -/
import Derived.Test.YtcoccegmkcdeiaaDoorM6
import Derived.Test.YtcoccegmkcdeiaaDoorM1
import Derived.Test.YtcoccegmkcdeiaaDoorZAll
import Derived.Test.YtcoccegmkcdeiaaDoorM0
import Derived.Test.YtcoccegmkcdeiaaDoorCards
import Derived.Test.YtcoccegmkcdeiaaDoorTie
import Derived.ChangeSlices
import Derived.Lib.SmallJoins
import Derived.Lib.LaidTab
import Derived.LaidMore
import Derived.SevenTiedAt
import Derived.Stop.Joined
import Derived.MakeChecks
/- The document's Where, On, by their contracts: the first ring, or else the first row, in which one stands; whether a processor is plugged. -/
namespace Go.Proofs.YtcoccegmkcdeiaaDoor
open Go.RowKit
set_option linter.unusedVariables false

theorem has_false {zs : List Int} {g : Int} (h : ¬ Tp.has zs g = true) : Tp.has zs g = false := by cases e : Tp.has zs g; rfl; exact absurd e h
/-- Is a processor plugged? -/
theorem jrefOn_any (d : Ad) (r : Jp.Rn) (p : Int) (w : World) (hon : r.on < 18446744073709551616) :
    Calls Tryd.prog 9 #[jv d r, .int .i64 p] w fun e w' => e = .returned (.bool (Jp.onP r p)) ∧ Below w.heap.size w w' := by
  obtain ⟨V, hV, hX, hB⟩ := B5.start w (.slice d.T d.nt d.ct) (.int .i64 r.size) (.slice d.R d.nr d.cr) (.slice d.S d.ns d.cs) (.int .u64 (r.on : Nat)) 27
  have E := Lib.hid hV
  have d4 := hX.c4
  have B0 := Lib.hid hB
  have HC := Lib.hid (zrefAll_any r.on V hon)
  clear hV hX hB
  unfold jv
  go_enter Tryd.func9, Tryd.ntmps9
  go_wp2_with fail
  rw [← E.out]
  refine HC.out.mono ?_
  rintro e w2 ⟨v, n, rfl, ho, hb2⟩
  obtain ⟨A2, c2, rfl, hr2, _⟩ := Row.of_own' ho
  have HN := Lib.hid (in_any A2 n c2 (Zp.mem r.on) p w2 w2.heap.size (Lib.hid hr2.len) (by have := hr2.cap; have := hr2.most; omega) hr2.row)
  have B2 := Lib.hid (B0.out.trans (hb2.mono B0.out.size))
  clear hr2 hb2 HC ho
  go_wp2_with fail
  refine HN.out.mono ?_
  rintro e w3 ⟨rfl, rfl⟩
  go_wp2_with fail
  go_ret
  exact ⟨rfl, B2.out⟩
end Go.Proofs.YtcoccegmkcdeiaaDoor


/- The document's Next, Without and With, by their contracts. -/
namespace Go.Proofs.YtcoccegmkcdeiaaDoor
open Go.RowKit
set_option linter.unusedVariables false

/-- A plain address, or none. -/
def Flat (A : Option Addr) : Prop := ∀ ad, A = some ad → ad.spot = none
/-- What a call leaves that tells a row. -/
def TellF (w0 : World) (zs : List Int) (e : Ending) (w' : World) : Prop :=
  ∃ A n c, e = .returned (.slice A n c) ∧ Row w' A n c zs ∧ Flat A ∧ Below w0.heap.size w0 w'
theorem Row.flat_own {w : World} {base n : Nat} {e : TypeId} {v : Value} {zs : List Int} (h : w.ownsRow base e 1 v n (zs.map (Value.int .i64))) : ∃ A c, v = .slice A n c ∧ Row w A n c zs ∧ Flat A := by
  obtain ⟨A, c, rfl, hr⟩ := Row.of_own h
  refine ⟨A, c, rfl, hr, fun ad e => ?_⟩
  subst e
  rcases h.2 with ⟨h0, _⟩ | ⟨g, cap, cur, e1, _⟩
  · cases h0
  · injection e1 with e1
    injection e1 with e1
    rw [e1]
theorem MadeO.tellF {w0 w' : World} {zs : List Int} {e : Ending} (h : MadeO w0 zs e w') : TellF w0 zs e w' := by
  obtain ⟨v, n, rfl, ho, hb⟩ := h
  obtain ⟨A, c, rfl, hr, hf⟩ := Row.flat_own ho
  exact ⟨A, n, c, rfl, hr, hf, hb⟩
theorem find_here {zs : List Int} {k : Nat} {x n : Int} (hx : zs[k]? = some x) (h0 : ∀ z ∈ zs.take k, z < n) (h : n ≤ x) : zs.find? (fun z => decide (n ≤ z)) = some x := by
  have hk := (List.getElem?_eq_some_iff.1 hx).1
  have e : zs = zs.take k ++ x :: zs.drop (k + 1) := by
    rw [← (List.getElem?_eq_some_iff.1 hx).2, List.getElem_cons_drop, List.take_append_drop]
  rw [e, List.find?_append, List.find?_eq_none.2 (fun z hz => by have := h0 z hz; simp; omega)]
  simp [h]
theorem find_none {zs : List Int} {n : Int} (h0 : ∀ z ∈ zs, z < n) : zs.find? (fun z => decide (n ≤ z)) = none :=
  List.find?_eq_none.2 (fun z hz => by have := h0 z hz; simp; omega)
theorem nextL_in {zs : List Int} {a n : Int} (ha : zs[0]? = some a) (h1 : 0 ≤ n) (h2 : n ≤ 63) : Zp.nextL zs n = (zs.find? fun z => decide (n ≤ z)).getD a := by
  cases zs with
  | nil => cases ha
  | cons b t =>
    injection ha with ha
    subst ha
    show (if n < 0 ∨ 63 < n then b else _) = _
    rw [if_neg (by omega)]
theorem nextL_out {zs : List Int} {a n : Int} (ha : zs[0]? = some a) (h : n < 0 ∨ 63 < n) : Zp.nextL zs n = a := by
  cases zs with
  | nil => cases ha
  | cons b t =>
    injection ha with ha
    subst ha
    show (if n < 0 ∨ 63 < n then b else _) = _
    rw [if_pos h]
theorem take_lt {zs : List Int} {k : Nat} {x n : Int} (hx : zs[k]? = some x) (h0 : ∀ z ∈ zs.take k, z < n) (h : x < n) : ∀ z ∈ zs.take (k + 1), z < n := by
  intro z hz
  rw [List.take_add_one, hx] at hz
  rcases List.mem_append.1 hz with hz | hz
  · exact h0 z hz
  · simp at hz; subst hz; exact h
theorem outL_hit {zs : List Int} {k : Nat} {n : Int} (hx : zs[k]? = some n) : Zp.outL (zs.take (k + 1)) n = Zp.outL (zs.take k) n := by
  rw [List.take_add_one, hx]; unfold Zp.outL; rw [List.filter_append]; simp
theorem outL_miss {zs : List Int} {k : Nat} {x n : Int} (hx : zs[k]? = some x) (h : x ≠ n) : Zp.outL (zs.take (k + 1)) n = Zp.outL (zs.take k) n ++ [x] := by
  rw [List.take_add_one, hx]; unfold Zp.outL; rw [List.filter_append]; simp [h]
theorem outL_le (zs : List Int) (k : Nat) (n : Int) : (Zp.outL (zs.take k) n).length ≤ k := by
  unfold Zp.outL
  have h1 := List.length_filter_le (fun x => x != n) (zs.take k)
  have h2 := List.length_take_le k zs
  omega
end Go.Proofs.YtcoccegmkcdeiaaDoor


/- The document's With, by its contract. -/
namespace Go.Proofs.YtcoccegmkcdeiaaDoor
open Go.RowKit
set_option linter.unusedVariables false

theorem takeWhile_step {zs : List Int} {k : Nat} {x n : Int} (hx : zs[k]? = some x) (h0 : zs.takeWhile (· < n) = zs.take k ++ (zs.drop k).takeWhile (· < n)) (h : x < n) :
    zs.takeWhile (· < n) = zs.take (k + 1) ++ (zs.drop (k + 1)).takeWhile (· < n) := by
  have hk := (List.getElem?_eq_some_iff.1 hx).1
  rw [h0, List.take_add_one, hx, List.drop_eq_getElem_cons hk, (List.getElem?_eq_some_iff.1 hx).2, List.takeWhile_cons_of_pos (by simpa using h)]
  simp
theorem takeWhile_stop {zs : List Int} {k : Nat} {x n : Int} (hx : zs[k]? = some x) (h0 : zs.takeWhile (· < n) = zs.take k ++ (zs.drop k).takeWhile (· < n)) (h : ¬ x < n) :
    zs.takeWhile (· < n) = zs.take k := by
  have hk := (List.getElem?_eq_some_iff.1 hx).1
  rw [h0, List.drop_eq_getElem_cons hk, (List.getElem?_eq_some_iff.1 hx).2, List.takeWhile_cons_of_neg (by simpa using h), List.append_nil]
theorem withL_at {zs : List Int} {k : Nat} {n : Int} (hk : k ≤ zs.length) (ht : zs.takeWhile (· < n) = zs.take k) (h0 : 0 ≤ n) (h1 : n ≤ 63) (h : n ∉ zs) : Zp.withL zs n = zs.take k ++ [n] ++ zs.drop k := by
  unfold Zp.withL
  rw [if_neg (by rintro (e | e | e); omega; omega; exact h e), ht, List.length_take, Nat.min_eq_left hk]
theorem has_of {zs : List Int} {n : Int} : Tp.has zs n = decide (n ∈ zs) := by
  unfold Tp.has; rw [Bool.eq_iff_iff, List.contains_iff_mem, decide_eq_true_eq]
theorem Row.flat {w : World} {A : Option Addr} {m c : Nat} {zs : List Int} (h : Row w A m c zs) (hf : Flat A) : (A = none ∧ m = 0 ∧ c = 0) ∨ ∃ b off, A = some ⟨b, off, none⟩ := by
  cases A with
  | none => have h0 := h.nil rfl; have h1 := h.cap; exact .inl ⟨rfl, by omega, h0⟩
  | some ad =>
    obtain ⟨b, off, sp⟩ := ad
    have := hf _ rfl
    simp only at this
    subst this
    exact .inr ⟨b, off, rfl⟩
theorem row_below_refl {w : World} {A : Option Addr} {m c : Nat} {zs : List Int} (h : Row w A m c zs) (hf : Flat A) : TellF w zs (.returned (.slice A m c)) w := ⟨A, m, c, rfl, h, hf, Below.refl _ _⟩
end Go.Proofs.YtcoccegmkcdeiaaDoor


/- The library's table of the listed variable; a slice of numbers that came in; a start that meets the condition. -/
namespace Go.Proofs.YtcoccegmkcdeiaaDoor
open Go.ChangeShapes Go.WideShapes Go.ChangeAt Go.RowKit
set_option linter.unusedVariables false

/-- The one listed variable. -/
def laidList : List (String × DataW Unit) := [("math/bits.deBruijn64tab", Rows.laid_math_bits_deBruijn64tab)]
theorem gTab : Tryd.prog.globalNamed "math/bits.deBruijn64tab" = some 0 := by kernel_rfl
theorem tTab : (Tryd.prog.globals[0]?).map (·.type) = some 104 := by kernel_rfl
theorem tab_of_laid {W : World} (h : laidMetH Tryd.prog laidList W) : Tab W := by
  rw [MakeChecks.laidMetH_plain _ _ _ (by kernel_rfl)] at h
  have h' : laidMet Tryd.prog [("math/bits.deBruijn64tab", Lib.tabData .u8 (Lib.deBruijn64tab.map fun k : Nat => (k : Int)))] W := h
  have ht := Lib.tabIs_of_head gTab tTab Tryd.underlying104 Tryd.underlying5 (by kernel_rfl) (by kernel_rfl) h'
  intro j hj
  have := ht.cell gTab j (by simpa [Lib.deBruijn64tab] using hj)
  rw [this]
  congr 2
  simp only [List.getD_eq_getElem?_getD, List.getElem?_map]
  cases Lib.deBruijn64tab[j]? <;> rfl
theorem door_met (os : Os) (args : Array Value) : laidMetH Tryd.prog laidList ((World.doorLaid Tryd.prog 14 os).forCall (fun _ _ => 0) ⟨#[], args, []⟩).memory :=
  laidMetH_of_parts3 (fuel := 8) (laidMet_of_run' 8 (by kernel_rfl) (by kernel_rfl)) (by kernel_rfl) (by kernel_rfl)
theorem of_wf64 {a : Int} (h : (Lit.int .u64 a).wf = true) : ∃ x : Nat, a = x ∧ x < 18446744073709551616 := by
  have : 0 ≤ a ∧ a ≤ 18446744073709551615 := by simpa [Lit.wf, IntKind.min, IntKind.max, IntKind.signed, IntKind.bits] using h
  exact ⟨a.toNat, by omega, by omega⟩
/-- A slice of numbers that came in. -/
theorem open_list {H : Type} {enc : TypeId × Value → H} {W : World} {base : Nat} {spare : Nat → Bool} {held : Bool} {v : Value} {x : DataW H × List MemPlace} {fuel : Nat}
    (h : DataW.trod enc Tryd.prog W base spare held fuel 42 [v] = some x) : ∃ A n c zs, v = .slice A n c ∧ Row W A n c zs := by
  rcases open_ints Tryd.underlying42 Tryd.underlying3 (by kernel_rfl) h with ⟨hcs, _⟩ | ⟨a, len, cap, zs, hcs, _, hl, hm, hz, _, hcell, hw⟩
  · simp at hcs
    subst hcs
    exact ⟨none, 0, 0, [], rfl, Row.nothing W⟩
  · simp only [List.cons.injEq, and_true] at hcs
    subst hcs
    have hzl : len ≤ zs.length := by rw [hz]; split <;> omega
    refine ⟨some a, len, cap, zs.take len, rfl, ⟨by rw [List.length_take]; omega, hl, by unfold maxLen at hm; omega, (fun e => by cases e), fun i z hi => ?_⟩⟩
    have hil : i < len := by have := (List.getElem?_eq_some_iff.1 hi).1; rw [List.length_take] at this; omega
    rw [List.getElem?_take, if_pos hil] at hi
    have hc := hcell i (by omega)
    rw [show zs.getD i 0 = z by rw [List.getD, hi]; rfl] at hc
    obtain ⟨ab, ao, sp⟩ := a
    have hs : sp = none := by
      have := World.cell?_spot (hcell 0 (by omega))
      simpa [Addr.add] using this
    subst hs
    rw [add_lit'] at hc
    exact ⟨ab, ao, rfl, World.block_lt_of_cell? _ _ hc, hc⟩
end Go.Proofs.YtcoccegmkcdeiaaDoor


/- Runs that came in, opened: a tree, a number, rings, rows, a set. -/
namespace Go.Proofs.YtcoccegmkcdeiaaDoor
open Go.ChangeShapes Go.WideShapes Go.ChangeAt Go.RowKit
set_option linter.unusedVariables false

theorem one_of_cells {W : World} {base : Nat} {a : Addr} {cs : List Value} (h : W.cells? base a 1 = some cs) : ∃ c, cs = [c] ∧ W.cell? a = some c := by
  unfold World.cells? at h
  split at h
  · have e0 : a.add 0 = a := by simp [Addr.add]
    simp only [List.range_succ, List.range_zero, List.nil_append, List.mapM_cons, List.mapM_nil, e0] at h
    cases hc : W.cell? a with
    | none => simp [hc] at h
    | some c => simp [hc] at h; exact ⟨c, h.symm, rfl⟩
  · cases h
theorem two_of_cells {W : World} {base : Nat} {a : Addr} {cs : List Value} (h : W.cells? base a 2 = some cs) : ∃ c d, cs = [c, d] ∧ W.cell? a = some c ∧ W.cell? (a.add 1) = some d := by
  unfold World.cells? at h
  split at h
  · have e0 : a.add 0 = a := by simp [Addr.add]
    simp only [List.range_succ, List.range_zero, List.nil_append, List.cons_append, List.mapM_cons, List.mapM_nil, e0] at h
    cases hc : W.cell? a with
    | none => simp [hc] at h
    | some c =>
      cases hd : W.cell? (a.add 1) with
      | none => simp [hc, hd] at h
      | some d => simp [hc, hd] at h; exact ⟨c, d, h.symm, rfl, rfl⟩
  · cases h
theorem row_block' {w : World} {A : Option Addr} {n c : Nat} {zs : List Int} (h : Row w A n c zs) (hne : zs ≠ []) {ad : Addr} (hA : A = some ad) : ad.block < w.heap.size := by
  have h4 : 0 < n := by rw [← h.len]; exact List.length_pos_iff.2 hne
  obtain ⟨b, off, e3, hb, _⟩ := h.cells h4
  rw [hA] at e3
  injection e3 with e3
  subst e3
  exact hb
instance : Inhabited El := ⟨⟨0, [], none, 0, 0⟩⟩
/-- A struct's cells, each read by itself. -/
theorem trod_two {H : Type} {enc : TypeId × Value → H} {P : Program} {W : World} {base : Nat} {spare : Nat → Bool} {held : Bool} {t : TypeId} {f0 f1 : Field} {c0 c1 : Value} {x : DataW H × List MemPlace} {fuel : Nat} (hs : P.underlying t = some (.struct #[f0, f1])) (hone : Go.Deep.oneCellFields P #[f0, f1] = true)
    (h : DataW.trod enc P W base spare held fuel t [c0, c1] = some x) : ∃ y0 y1 n, DataW.trod enc P W base spare held n f0.type [c0] = some y0 ∧ DataW.trod enc P W base spare held n f1.type [c1] = some y1 := by
  obtain ⟨xs, n, _, rfl, _, hlen, hf⟩ := DataW.trod_struct hs h
  obtain ⟨o0, k0⟩ := Go.Deep.hone_of hone 0 f0 rfl
  obtain ⟨o1, k1⟩ := Go.Deep.hone_of hone 1 f1 rfl
  match xs, hlen with
  | [y0, y1], _ => exact ⟨y0, y1, n, by simpa [o0, k0] using hf 0 f0 rfl, by simpa [o1, k1] using hf 1 f1 rfl⟩
theorem trod_five {H : Type} {enc : TypeId × Value → H} {P : Program} {W : World} {base : Nat} {spare : Nat → Bool} {held : Bool} {t : TypeId} {f0 f1 f2 f3 f4 : Field} {c0 c1 c2 c3 c4 : Value} {x : DataW H × List MemPlace} {fuel : Nat} (hs : P.underlying t = some (.struct #[f0, f1, f2, f3, f4])) (hone : Go.Deep.oneCellFields P #[f0, f1, f2, f3, f4] = true)
    (h : DataW.trod enc P W base spare held fuel t [c0, c1, c2, c3, c4] = some x) : ∃ y0 y1 y2 y3 y4 n, DataW.trod enc P W base spare held n f0.type [c0] = some y0 ∧ DataW.trod enc P W base spare held n f1.type [c1] = some y1 ∧ DataW.trod enc P W base spare held n f2.type [c2] = some y2 ∧ DataW.trod enc P W base spare held n f3.type [c3] = some y3 ∧ DataW.trod enc P W base spare held n f4.type [c4] = some y4 := by
  obtain ⟨xs, n, _, rfl, _, hlen, hf⟩ := DataW.trod_struct hs h
  obtain ⟨o0, k0⟩ := Go.Deep.hone_of hone 0 f0 rfl
  obtain ⟨o1, k1⟩ := Go.Deep.hone_of hone 1 f1 rfl
  obtain ⟨o2, k2⟩ := Go.Deep.hone_of hone 2 f2 rfl
  obtain ⟨o3, k3⟩ := Go.Deep.hone_of hone 3 f3 rfl
  obtain ⟨o4, k4⟩ := Go.Deep.hone_of hone 4 f4 rfl
  match xs, hlen with
  | [y0, y1, y2, y3, y4], _ => exact ⟨y0, y1, y2, y3, y4, n, by simpa [o0, k0] using hf 0 f0 rfl, by simpa [o1, k1] using hf 1 f1 rfl, by simpa [o2, k2] using hf 2 f2 rfl, by simpa [o3, k3] using hf 3 f3 rfl, by simpa [o4, k4] using hf 4 f4 rfl⟩
theorem array5 {α : Type} {cs : Array α} (h : cs.size = 5) : ∃ c0 c1 c2 c3 c4, cs = #[c0, c1, c2, c3, c4] := by
  obtain ⟨l⟩ := cs
  match l, h with
  | [c0, c1, c2, c3, c4], _ => exact ⟨c0, c1, c2, c3, c4, rfl⟩
/-- A ring's two cells. -/
theorem open_ring2 {H : Type} {enc : TypeId × Value → H} {W : World} {base : Nat} {spare : Nat → Bool} {held : Bool} {c d : Value} {x : DataW H × List MemPlace} {fuel : Nat}
    (h : DataW.trod enc Tryd.prog W base spare held fuel 53 [c, d] = some x) : ∃ z A n k zs, c = .int .i64 z ∧ d = .slice A n k ∧ Row W A n k zs ∧ ∀ x ∈ Rp.all (z, zs), In64 x := by
  obtain ⟨y0, y1, m, h0, h1⟩ := trod_two Tryd.underlying53 (by kernel_rfl) h
  obtain ⟨z, e0, _, wz⟩ := DataW.trod_int Tryd.underlying3 h0
  obtain ⟨A, n, k, zs, e1, hr, wr⟩ := open_row h1
  injection e0 with e0 _
  refine ⟨z, A, n, k, zs, e0, e1, hr, fun x hx => ?_⟩
  unfold Rp.all at hx
  split at hx
  · exact wr x hx
  · rcases List.mem_cons.1 hx with rfl | hx
    · exact in64_of_wf wz
    · exact wr x hx
theorem open_rings {H : Type} {enc : TypeId × Value → H} {W : World} {base : Nat} {spare : Nat → Bool} {held : Bool} {v : Value} {x : DataW H × List MemPlace} {fuel : Nat}
    (h : DataW.trod enc Tryd.prog W base spare held fuel 23 [v] = some x) : ∃ A n c es, v = .slice A n c ∧ XR csG 2 W A n c es ∧ LieE (fun b => b < W.heap.size) A es ∧ ∀ e ∈ es, ∀ x ∈ Rp.all (elG e), In64 x := by
  have hc1 : Tryd.prog.cellsOf 53 = 2 := by kernel_rfl
  rcases DataW.trod_slice Tryd.underlying23 h with ⟨hcs, _⟩ | ⟨a, len, cap, elems, rest, m, _, hcs, _, _, hl, hm, hel, hE, _⟩
  · injection hcs with hcs _
    exact ⟨none, 0, 0, [], hcs, XR.nothing W, ⟨fun h => absurd rfl h, fun e he => by simp at he⟩, fun e he => by simp at he⟩
  · injection hcs with hcs _
    have each : ∀ i, i < len → ∃ e : El, W.cell? (a.add (i * 2)) = some (.int .i64 e.x) ∧ W.cell? ((a.add (i * 2)).add 1) = some (.slice e.A e.n e.c) ∧ Row W e.A e.n e.c e.l ∧ ∀ x ∈ Rp.all (elG e), In64 x := by
      intro i hi
      have he := hE i hi
      rw [hc1] at he
      obtain ⟨y, hy⟩ : ∃ y, elems[i]? = some y := ⟨_, List.getElem?_eq_getElem (by omega)⟩
      rw [hy] at he
      obtain ⟨cs, h1, h2⟩ := Option.bind_eq_some_iff.1 he
      obtain ⟨c, d, rfl, h3, h4⟩ := two_of_cells h1
      obtain ⟨z, A, n, k, zs, rfl, rfl, hr, wx⟩ := open_ring2 h2
      exact ⟨⟨z, zs, A, n, k⟩, h3, h4, hr, wx⟩
    obtain ⟨f, hf⟩ := Go.Deep.choose_lt each
    refine ⟨some a, len, cap, (List.range len).map f, hcs, ⟨by simp, hl, by unfold maxLen at hm; omega, (fun e => by cases e), fun i e hi => ?_, fun e he => ?_⟩, ⟨fun hne ad hA => ?_, fun e he hne ad hA => ?_⟩, fun e he => ?_⟩
    · have hil : i < len := by have := (List.getElem?_eq_some_iff.1 hi).1; simpa using this
      have e1 : f i = e := by
        rw [List.getElem?_map, List.getElem?_range hil] at hi
        injection hi
      obtain ⟨h0, h1, _⟩ := hf i hil
      rw [e1] at h0 h1
      obtain ⟨ab, ao, sp⟩ := a
      have hs : sp = none := by
        have := World.cell?_spot (hf 0 (by omega)).1
        simpa [Addr.add] using this
      subst hs
      rw [add_lit', add_lit'] at h1
      rw [add_lit'] at h0
      refine ⟨ab, ao, rfl, World.block_lt_of_cell? (a := ⟨ab, ao + i * 2, none⟩) _ h0, fun j u hj => ?_⟩
      match j, hj with
      | 0, hj => simp [csG] at hj; subst hj; exact h0
      | 1, hj => simp [csG] at hj; subst hj; exact h1
    · obtain ⟨i, hir, rfl⟩ := List.mem_map.1 he
      exact (hf i (List.mem_range.1 hir)).2.2.1
    · injection hA with hA
      subst hA
      have hl0 : 0 < len := by
        rcases Nat.eq_zero_or_pos len with h0 | h0
        · subst h0; simp at hne
        · exact h0
      have := World.block_lt_of_cell? _ _ (hf 0 hl0).1
      simpa [Addr.add] using this
    · obtain ⟨i, hir, rfl⟩ := List.mem_map.1 he
      exact row_block' (hf i (List.mem_range.1 hir)).2.2.1 hne hA
    · obtain ⟨i, hir, rfl⟩ := List.mem_map.1 he
      exact (hf i (List.mem_range.1 hir)).2.2.2
theorem open_lists {H : Type} {enc : TypeId × Value → H} {W : World} {base : Nat} {spare : Nat → Bool} {held : Bool} {v : Value} {x : DataW H × List MemPlace} {fuel : Nat}
    (h : DataW.trod enc Tryd.prog W base spare held fuel 24 [v] = some x) : ∃ A n c es, v = .slice A n c ∧ XR csL 1 W A n c es ∧ LieE (fun b => b < W.heap.size) A es ∧ ∀ e ∈ es, ∀ x ∈ elL e, In64 x := by
  have hc1 : Tryd.prog.cellsOf 42 = 1 := by kernel_rfl
  rcases DataW.trod_slice Tryd.underlying24 h with ⟨hcs, _⟩ | ⟨a, len, cap, elems, rest, m, _, hcs, _, _, hl, hm, hel, hE, _⟩
  · injection hcs with hcs _
    exact ⟨none, 0, 0, [], hcs, XR.nothing W, ⟨fun h => absurd rfl h, fun e he => by simp at he⟩, fun e he => by simp at he⟩
  · injection hcs with hcs _
    have each : ∀ i, i < len → ∃ e : El, W.cell? (a.add i) = some (.slice e.A e.n e.c) ∧ Row W e.A e.n e.c e.l ∧ ∀ x ∈ elL e, In64 x := by
      intro i hi
      have he := hE i hi
      rw [hc1, Nat.mul_one] at he
      obtain ⟨y, hy⟩ : ∃ y, elems[i]? = some y := ⟨_, List.getElem?_eq_getElem (by omega)⟩
      rw [hy] at he
      obtain ⟨cs, h1, h2⟩ := Option.bind_eq_some_iff.1 he
      obtain ⟨c, rfl, h3⟩ := one_of_cells h1
      obtain ⟨A, n, k, zs, rfl, hr, wx⟩ := open_row h2
      exact ⟨⟨0, zs, A, n, k⟩, h3, hr, wx⟩
    obtain ⟨f, hf⟩ := Go.Deep.choose_lt each
    refine ⟨some a, len, cap, (List.range len).map f, hcs, ⟨by simp, hl, by unfold maxLen at hm; omega, (fun e => by cases e), fun i e hi => ?_, fun e he => ?_⟩, ⟨fun hne ad hA => ?_, fun e he hne ad hA => ?_⟩, fun e he => ?_⟩
    · have hil : i < len := by have := (List.getElem?_eq_some_iff.1 hi).1; simpa using this
      have e1 : f i = e := by
        rw [List.getElem?_map, List.getElem?_range hil] at hi
        injection hi
      obtain ⟨h0, _⟩ := hf i hil
      rw [e1] at h0
      obtain ⟨ab, ao, sp⟩ := a
      have hs : sp = none := by
        have := World.cell?_spot (hf 0 (by omega)).1
        simpa [Addr.add] using this
      subst hs
      rw [add_lit'] at h0
      refine ⟨ab, ao, rfl, World.block_lt_of_cell? (a := ⟨ab, ao + i, none⟩) _ h0, fun j u hj => ?_⟩
      match j, hj with
      | 0, hj => simp [csL] at hj; subst hj; rw [Nat.mul_one]; exact h0
    · obtain ⟨i, hir, rfl⟩ := List.mem_map.1 he
      exact (hf i (List.mem_range.1 hir)).2.1
    · injection hA with hA
      subst hA
      have hl0 : 0 < len := by
        rcases Nat.eq_zero_or_pos len with h0 | h0
        · subst h0; simp at hne
        · exact h0
      have := World.block_lt_of_cell? _ _ (hf 0 hl0).1
      simpa [Addr.add] using this
    · obtain ⟨i, hir, rfl⟩ := List.mem_map.1 he
      exact row_block' (hf i (List.mem_range.1 hir)).2.1 hne hA
    · obtain ⟨i, hir, rfl⟩ := List.mem_map.1 he
      exact (hf i (List.mem_range.1 hir)).2.2
set_option maxRecDepth 100000 in
/-- Runs that came in. -/
theorem open_runs {H : Type} {enc : TypeId × Value → H} {W : World} {base b0 : Nat} {spare : Nat → Bool} {held : Bool} {v : Value} {d : DataW H} {p : List MemPlace}
    (hv : Value.okWide Tryd.prog W .any b0 27 v) (h : DataW.Trod enc Tryd.prog W base spare held 27 v d p) :
    ∃ (a : Ad) (r : Jp.Rn), v = jv a r ∧ RMI (fun b => b < W.heap.size) W a r := by
  obtain ⟨cs, rfl, hsz⟩ := okWide_struct Tryd.underlying27 hv
  obtain ⟨c0, c1, c2, c3, c4, rfl⟩ := array5 (hsz.trans (by kernel_rfl : Tryd.prog.cellsOf 27 = 5))
  obtain ⟨fuel, hf⟩ := h
  simp only [Value.cells] at hf
  obtain ⟨y0, y1, y2, y3, y4, m, h0, h1, h2, h3, h4⟩ := trod_five Tryd.underlying27 (by kernel_rfl) hf
  obtain ⟨T, nt, ct, e0⟩ := Go.Joins.slice_form Tryd.underlying22 h0
  injection e0 with e0 _
  subst e0
  obtain ⟨ht1, ht2, vs, ht3, ht4, ht5⟩ := open_vs h0
  obtain ⟨z, e1, _, w1⟩ := DataW.trod_int Tryd.underlying3 h1
  injection e1 with e1 _
  subst e1
  obtain ⟨R, nr, cr, gs, rfl, hgs, hgl, wg⟩ := open_rings h2
  obtain ⟨S, ns, cs, ls, rfl, hls, hll, wl⟩ := open_lists h3
  obtain ⟨o, e4, _, w4⟩ := DataW.trod_int Tryd.underlying25 h4
  injection e4 with e4 _
  subst e4
  obtain ⟨on, rfl, hon⟩ := of_wf64 w4
  refine ⟨⟨T, nt, ct, R, nr, cr, S, ns, cs⟩, ⟨vs, z, gs.map elG, ls.map elL, on⟩, rfl, ⟨ht3, ht1, ht4, ht5, fun hne ad hA => ?_, ⟨gs, hgs, rfl, hgl⟩, ⟨ls, hls, rfl, hll⟩, hon, in64_of_wf w1⟩, fun z hz => ?_⟩
  · obtain ⟨x0, hx0⟩ : ∃ x, vs[0]? = some x := ⟨_, List.getElem?_eq_getElem (List.length_pos_iff.2 hne)⟩
    obtain ⟨b, off, e5, hb, _⟩ := ht5 0 x0 hx0
    simp only at hA
    rw [hA] at e5
    injection e5 with e5
    subst e5
    exact hb
  · rcases Jp.mem_all.1 hz with ⟨y, hy, hz⟩ | ⟨l, hl, hz⟩
    · obtain ⟨e, he, rfl⟩ := List.mem_map.1 hy
      exact wg e he z hz
    · obtain ⟨e, he, rfl⟩ := List.mem_map.1 hl
      exact wl e he z hz
end Go.Proofs.YtcoccegmkcdeiaaDoor

