/- slices.SortFunc at dist.Near's own closure: all others come to stand as the document says; nothing else turns. -/
import Derived.Test.YtkjcihdejileoaaDLay
import Derived.Test.YtkjcihdejileoaaDAhead
import Derived.Shelf.SlSortCmp.NoneTotal
namespace Go.Proofs.Ytkjcihdejileoaa
open Go.RowKit Go.Sort Go.Shelf Go.Lib
set_option linter.unusedVariables false

theorem cell_sortWorld {α : Type} [Inhabited α] (enc : α → Value) (w : World) (blk off m : Nat) (dk : Array α) (os : Array Obj) (a : Addr) (h : a.block ≠ blk) (hl : a.block < w.heap.size) : (sortWorld enc w blk off m dk os).cell? a = w.cell? a := by
  unfold sortWorld
  rw [cell?_grow _ _ _ (by rw [size_putRow]; exact hl), cell?_putRow_other enc _ blk off dk a (Or.inl h)]
  rfl
theorem heap_sortWorld {α : Type} [Inhabited α] (enc : α → Value) (w : World) (blk off m : Nat) (dk : Array α) (os : Array Obj) (k : Nat) (h : k ≠ blk) (hl : k < w.heap.size) : (sortWorld enc w blk off m dk os).heap[k]? = w.heap[k]? := by
  unfold sortWorld
  rw [heap_grow_old _ _ (by rw [size_putRow]; exact hl)]
  show ((Sort.ahead w m).heap.modify blk _)[k]? = _
  rw [Array.getElem?_modify, if_neg (by omega)]
  rfl
theorem below_sortWorld {α : Type} [Inhabited α] (enc : α → Value) (w : World) (blk off m : Nat) (dk : Array α) (os : Array Obj) (base : Nat) (h : base ≤ blk) (hl : blk < w.heap.size) : Below base w (sortWorld enc w blk off m dk os) :=
  ⟨rfl, rfl, rfl, by unfold sortWorld; rw [size_grow, size_putRow]; exact Nat.le_add_right _ _, fun k hk => heap_sortWorld enc w blk off m dk os k (by omega) (by omega)⟩
theorem Caps.keep {w w' : World} {B n c m c1 : Nat} {A A1 : Option Addr} {vs : List (Int × Int)} {p : Int} {bT bP bp bN bF bS blk : Nat} (K : Caps w B A A1 n c m c1 vs p bT bP bp bN bF bS)
    (hB : B ≤ blk) (hs : blk < w.heap.size) (hne : bT ≠ blk ∧ bP ≠ blk ∧ bp ≠ blk ∧ bN ≠ blk ∧ bF ≠ blk ∧ bS ≠ blk) (hlt : bT < w.heap.size ∧ bP < w.heap.size ∧ bp < w.heap.size ∧ bN < w.heap.size ∧ bF < w.heap.size ∧ bS < w.heap.size)
    (hc : ∀ a : Addr, a.block ≠ blk → a.block < w.heap.size → w'.cell? a = w.cell? a) : Caps w' B A A1 n c m c1 vs p bT bP bp bN bF bS where
  tv := K.tv.keep fun a ha => hc a (by omega) (by omega)
  ps := K.ps.keep fun a ha => hc a (by omega) (by omega)
  cT := (hc ⟨bT, 0, none⟩ hne.1 hlt.1).trans K.cT
  cP := (hc ⟨bP, 0, none⟩ hne.2.1 hlt.2.1).trans K.cP
  cp := (hc ⟨bp, 0, none⟩ hne.2.2.1 hlt.2.2.1).trans K.cp
  cN := (hc ⟨bN, 0, none⟩ hne.2.2.2.1 hlt.2.2.2.1).trans K.cN
  cF := (hc ⟨bF, 0, none⟩ hne.2.2.2.2.1 hlt.2.2.2.2.1).trans K.cF
  cS := (hc ⟨bS, 0, none⟩ hne.2.2.2.2.2 hlt.2.2.2.2.2).trans K.cS

theorem sort_near (A A1 : Option Addr) (n c m c1 L : Nat) (vs : List (Int × Int)) (p : Int) (bT bP bp bN bF bS : Nat) (w : World) (B base : Nat) (u : Value)
    (hn : Hid (vs.length = n)) (hl : n ≤ 9223372036854775807) (hm : Hid (Dp.procsN vs = m)) (hml : m ≤ 64) (K : Caps w B A A1 n c m c1 vs p bT bP bp bN bF bS) (p0 : 0 ≤ p) (p1 : p < m)
    (hB : B ≤ base) (hown : w.ownsRow base 3 1 u L ((Dp.othersTo p m).map (Value.int .i64)))
    (hne : ∀ blk, u.ownBlock = some blk → bT ≠ blk ∧ bP ≠ blk ∧ bp ≠ blk ∧ bN ≠ blk ∧ bF ≠ blk ∧ bS ≠ blk) (hlt : bT < w.heap.size ∧ bP < w.heap.size ∧ bp < w.heap.size ∧ bN < w.heap.size ∧ bF < w.heap.size ∧ bS < w.heap.size) :
    Calls Try.prog 32 #[u, .func (.func 33) #[] #[.pointer (some ⟨bF, 0, none⟩), .pointer (some ⟨bS, 0, none⟩)]] w fun e w' =>
      e = .returned (.tuple #[]) ∧ ∃ A' c', u = .slice A' (Dp.near vs p).length c' ∧ IRow w' w'.heap.size A' (Dp.near vs p) ∧ Below base w w' ∧ (Dp.near vs p).length ≤ c' ∧ c' ≤ 9223372036854775807 := by
  obtain ⟨m', rfl⟩ : ∃ m', m = m' + 1 := ⟨m - 1, by omega⟩
  have h1' : p < Dp.procsN vs := by rw [hm.out]; exact p1
  have hlen := (Dp.others_perm p0 h1').length_eq
  rw [hm.out] at hlen
  have hL := own_len hown
  have hle := Dp.othersTo_le p (m' + 1)
  rcases hown.2 with ⟨rfl, h0⟩ | ⟨blk, cap, cur, rfl, hbb, hh, hnc, hcm, _⟩
  · have hN : Dp.near vs p = [] := List.length_eq_zero_iff.1 (by omega)
    rw [hN]
    refine (AnyF.slices_SortFunc_none (P := Try.prog) (ρ := sortLaid_ren) { sortLaid with } none 0 _ w).mono ?_
    rintro e w' ⟨rfl, rfl⟩
    exact ⟨rfl, none, 0, rfl, fun i z hi => by simp at hi, Below.refl _ _, by simp, by omega⟩
  · have hblk : blk < w.heap.size := (Array.getElem?_eq_some_iff.1 hh).1
    obtain ⟨d, hd⟩ : ∃ d : Array (Fin (m' + 1)), d = ((Dp.othersTo p (m' + 1)).map Dp.toF).toArray := ⟨_, rfl⟩
    have hds : d.size = L := by rw [hd]; simp [hL]
    have hback := Dp.map_back (m := m') (l := Dp.othersTo p (m' + 1)) (fun z hz => by have := (Dp.mem_othersTo _).1 hz; omega)
    have hat : ∀ (l : List (Fin (m' + 1))) (zs : List Int), l.map Dp.val = zs → ∀ (j : Nat) (z : Int), zs[j]? = some z → Dp.val (l.toArray[j]!) = z := by
      intro l zs e j z hz
      rw [← e, List.getElem?_map] at hz
      cases h : l[j]? with
      | none => rw [h] at hz; cases hz
      | some y =>
        rw [h] at hz
        injection hz with hz
        rw [← hz]
        have : l.toArray[j]! = y := by
          have hj := (List.getElem?_eq_some_iff.1 h).1
          rw [getElem!_pos _ _ (by simpa using hj)]
          have := (List.getElem?_eq_some_iff.1 h).2
          simpa using this
        rw [this]
    have hne := hne blk rfl
    have hH : Holds (fun x : Fin (m' + 1) => Value.int .i64 (Dp.val x)) w blk 0 d := by
      intro j hj
      refine ⟨?_, ?_⟩
      · obtain ⟨z, hz⟩ : ∃ z, (Dp.othersTo p (m' + 1))[j]? = some z := ⟨_, List.getElem?_eq_getElem (by omega)⟩
        have e := hat _ _ hback j z hz
        rw [← hd] at e
        rw [Nat.zero_add, hown.cellAt j (by omega), List.getElem?_map, hz]
        show some (Value.int .i64 z) = some (Value.int .i64 (Dp.val d[j]!))
        rw [e]
      · rw [Nat.zero_add]; exact hown.frozenAt j
    have eg : ∀ args w, (callFunc 33 args).run Try.prog w = .ok (.enter 33 args) w := fun _ _ => by kernel_rfl
    have hcmp : CmpLays1 Try.prog 33 #[.pointer (some ⟨bF, 0, none⟩), .pointer (some ⟨bS, 0, none⟩)] (fun x : Fin (m' + 1) => Value.int .i64 (Dp.val x)) (Dp.cfF vs p) blk 0 d.size w := by
      intro mm os dk hdk x y
      have hx := Dp.val_range x
      have hy := Dp.val_range y
      exact ahead_any A A1 n c (m' + 1) c1 vs p (Dp.val x) (Dp.val y) bT bP bp bN bF bS _ B hn hl hm hml
        (Lib.hid (K.keep (blk := blk) (by omega) hblk hne hlt fun a h1 h2 => cell_sortWorld _ w blk 0 mm dk os a h1 h2)) p0 p1 hx.1 hx.2 hy.1 hy.2
    have hcon := Any.slices_SortFunc_total (P := Try.prog) sortLaid (fun x : Fin (m' + 1) => Value.int .i64 (Dp.val x)) (fun _ => rfl) (Dp.cfF vs p) (Dp.cf_order vs p) 33 #[.pointer (some ⟨bF, 0, none⟩), .pointer (some ⟨bS, 0, none⟩)] blk 0 cap d w eg hcmp hH hblk (by omega) (Dp.cf_total p0 p1)
    rw [hds] at hcon
    refine hcon.mono ?_
    rintro e w' ⟨rfl, nq, os, rfl⟩
    have hsn := Dp.sorted_near (m := m') hm.out p0 p1
    have hdl : d.toList = (Dp.othersTo p (m' + 1)).map Dp.toF := by rw [hd]
    rw [hdl]
    have hlN : (Dp.near vs p).length = L := by omega
    refine ⟨rfl, some ⟨blk, 0, none⟩, cap, by rw [hlN], ?_, below_sortWorld _ w blk 0 nq _ os base hbb hblk, by omega, by unfold maxLen at hcm; omega⟩
    have hR := holds_sortWorld (fun x : Fin (m' + 1) => Value.int .i64 (Dp.val x)) w blk 0 nq d ((((Dp.othersTo p (m' + 1)).map Dp.toF).mergeSort fun x y => !(ltOf (Dp.cfF vs p) y x)).toArray) os hblk hH (by simp [hds, hL])
    intro j z hz
    have hj : j < L := by have := (List.getElem?_eq_some_iff.1 hz).1; omega
    refine ⟨blk, 0, rfl, lt_sortWorld _ w blk 0 nq _ os hblk, ?_⟩
    rw [(hR j (by simp [hL]; omega)).1]
    show some (Value.int .i64 _) = _
    rw [hat _ _ hsn j z hz]
end Go.Proofs.Ytkjcihdejileoaa

