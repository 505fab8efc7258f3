/- Contracts and plain mathematics, put together by program (wip/merge.py) out of: DSorts DNearWalk Dist JRefWhere ZRef ZRefWith ZLaid JFrame. -/
import Derived.Test.YtmmgackmiemkhaaDoorM0
import Derived.Test.YtmmgackmiemkhaaDoorDAhead
import Derived.Shelf.SlSortCmp.NoneTotal
import Derived.Test.YtmmgackmiemkhaaDoorM3
import Derived.Test.YtmmgackmiemkhaaDoorM4
import Derived.Test.YtmmgackmiemkhaaDoorM1
import Derived.Test.YtmmgackmiemkhaaDoorZAll
import Derived.Test.YtmmgackmiemkhaaDoorCards
import Derived.Test.YtmmgackmiemkhaaDoorTie
import Derived.ChangeSlices
import Derived.Lib.SmallJoins
import Derived.Lib.LaidTab
import Derived.LaidMore
import Derived.SevenTiedAt
import Derived.Stop.Joined
import Derived.MakeChecks
/- slices.SortFunc at dist.Near's own closure: all others come to stand as the document says; nothing else turns. -/
namespace Go.Proofs.YtmmgackmiemkhaaDoor
open Go.RowKit Go.Sort Go.Shelf Go.Lib
set_option linter.unusedVariables false

theorem cell_sortWorld {α : Type} [Inhabited α] (enc : α → Value) (w : World) (blk off m : Nat) (dk : Array α) (os : Array Obj) (a : Addr) (h : a.block ≠ blk) (hl : a.block < w.heap.size) : (sortWorld enc w blk off m dk os).cell? a = w.cell? a := by
  unfold sortWorld
  rw [cell?_grow _ _ _ (by rw [size_putRow]; exact hl), cell?_putRow_other enc _ blk off dk a (Or.inl h)]
  rfl
theorem heap_sortWorld {α : Type} [Inhabited α] (enc : α → Value) (w : World) (blk off m : Nat) (dk : Array α) (os : Array Obj) (k : Nat) (h : k ≠ blk) (hl : k < w.heap.size) : (sortWorld enc w blk off m dk os).heap[k]? = w.heap[k]? := by
  unfold sortWorld
  rw [heap_grow_old _ _ (by rw [size_putRow]; exact hl)]
  show ((Sort.ahead w m).heap.modify blk _)[k]? = _
  rw [Array.getElem?_modify, if_neg (by omega)]
  rfl
theorem below_sortWorld {α : Type} [Inhabited α] (enc : α → Value) (w : World) (blk off m : Nat) (dk : Array α) (os : Array Obj) (base : Nat) (h : base ≤ blk) (hl : blk < w.heap.size) : Below base w (sortWorld enc w blk off m dk os) :=
  ⟨rfl, rfl, rfl, by unfold sortWorld; rw [size_grow, size_putRow]; exact Nat.le_add_right _ _, fun k hk => heap_sortWorld enc w blk off m dk os k (by omega) (by omega)⟩
theorem Caps.keep {w w' : World} {B n c m c1 : Nat} {A A1 : Option Addr} {vs : List (Int × Int)} {p : Int} {bT bP bp bN bF bS blk : Nat} (K : Caps w B A A1 n c m c1 vs p bT bP bp bN bF bS)
    (hB : B ≤ blk) (hs : blk < w.heap.size) (hne : bT ≠ blk ∧ bP ≠ blk ∧ bp ≠ blk ∧ bN ≠ blk ∧ bF ≠ blk ∧ bS ≠ blk) (hlt : bT < w.heap.size ∧ bP < w.heap.size ∧ bp < w.heap.size ∧ bN < w.heap.size ∧ bF < w.heap.size ∧ bS < w.heap.size)
    (hc : ∀ a : Addr, a.block ≠ blk → a.block < w.heap.size → w'.cell? a = w.cell? a) : Caps w' B A A1 n c m c1 vs p bT bP bp bN bF bS where
  tv := K.tv.keep fun a ha => hc a (by omega) (by omega)
  ps := K.ps.keep fun a ha => hc a (by omega) (by omega)
  cT := (hc ⟨bT, 0, none⟩ hne.1 hlt.1).trans K.cT
  cP := (hc ⟨bP, 0, none⟩ hne.2.1 hlt.2.1).trans K.cP
  cp := (hc ⟨bp, 0, none⟩ hne.2.2.1 hlt.2.2.1).trans K.cp
  cN := (hc ⟨bN, 0, none⟩ hne.2.2.2.1 hlt.2.2.2.1).trans K.cN
  cF := (hc ⟨bF, 0, none⟩ hne.2.2.2.2.1 hlt.2.2.2.2.1).trans K.cF
  cS := (hc ⟨bS, 0, none⟩ hne.2.2.2.2.2 hlt.2.2.2.2.2).trans K.cS

theorem sort_near (A A1 : Option Addr) (n c m c1 L : Nat) (vs : List (Int × Int)) (p : Int) (bT bP bp bN bF bS : Nat) (w : World) (B base : Nat) (u : Value)
    (hn : Hid (vs.length = n)) (hl : n ≤ 9223372036854775807) (hm : Hid (Dp.procsN vs = m)) (hml : m ≤ 64) (K : Caps w B A A1 n c m c1 vs p bT bP bp bN bF bS) (p0 : 0 ≤ p) (p1 : p < m)
    (hB : B ≤ base) (hown : w.ownsRow base 3 1 u L ((Dp.othersTo p m).map (Value.int .i64)))
    (hne : ∀ blk, u.ownBlock = some blk → bT ≠ blk ∧ bP ≠ blk ∧ bp ≠ blk ∧ bN ≠ blk ∧ bF ≠ blk ∧ bS ≠ blk) (hlt : bT < w.heap.size ∧ bP < w.heap.size ∧ bp < w.heap.size ∧ bN < w.heap.size ∧ bF < w.heap.size ∧ bS < w.heap.size) :
    Calls Tryd.prog 41 #[u, .func (.func 42) #[] #[.pointer (some ⟨bF, 0, none⟩), .pointer (some ⟨bS, 0, none⟩)]] w fun e w' =>
      e = .returned (.tuple #[]) ∧ ∃ A' c', u = .slice A' (Dp.near vs p).length c' ∧ IRow w' w'.heap.size A' (Dp.near vs p) ∧ Below base w w' ∧ (Dp.near vs p).length ≤ c' ∧ c' ≤ 9223372036854775807 := by
  obtain ⟨m', rfl⟩ : ∃ m', m = m' + 1 := ⟨m - 1, by omega⟩
  have h1' : p < Dp.procsN vs := by rw [hm.out]; exact p1
  have hlen := (Dp.others_perm p0 h1').length_eq
  rw [hm.out] at hlen
  have hL := own_len hown
  have hle := Dp.othersTo_le p (m' + 1)
  rcases hown.2 with ⟨rfl, h0⟩ | ⟨blk, cap, cur, rfl, hbb, hh, hnc, hcm, _⟩
  · have hN : Dp.near vs p = [] := List.length_eq_zero_iff.1 (by omega)
    rw [hN]
    refine (AnyF.slices_SortFunc_none (P := Tryd.prog) (ρ := sortLaid_ren) { sortLaid with } none 0 _ w).mono ?_
    rintro e w' ⟨rfl, rfl⟩
    exact ⟨rfl, none, 0, rfl, fun i z hi => by simp at hi, Below.refl _ _, by simp, by omega⟩
  · have hblk : blk < w.heap.size := (Array.getElem?_eq_some_iff.1 hh).1
    obtain ⟨d, hd⟩ : ∃ d : Array (Fin (m' + 1)), d = ((Dp.othersTo p (m' + 1)).map Dp.toF).toArray := ⟨_, rfl⟩
    have hds : d.size = L := by rw [hd]; simp [hL]
    have hback := Dp.map_back (m := m') (l := Dp.othersTo p (m' + 1)) (fun z hz => by have := (Dp.mem_othersTo _).1 hz; omega)
    have hat : ∀ (l : List (Fin (m' + 1))) (zs : List Int), l.map Dp.val = zs → ∀ (j : Nat) (z : Int), zs[j]? = some z → Dp.val (l.toArray[j]!) = z := by
      intro l zs e j z hz
      rw [← e, List.getElem?_map] at hz
      cases h : l[j]? with
      | none => rw [h] at hz; cases hz
      | some y =>
        rw [h] at hz
        injection hz with hz
        rw [← hz]
        have : l.toArray[j]! = y := by
          have hj := (List.getElem?_eq_some_iff.1 h).1
          rw [getElem!_pos _ _ (by simpa using hj)]
          have := (List.getElem?_eq_some_iff.1 h).2
          simpa using this
        rw [this]
    have hne := hne blk rfl
    have hH : Holds (fun x : Fin (m' + 1) => Value.int .i64 (Dp.val x)) w blk 0 d := by
      intro j hj
      refine ⟨?_, ?_⟩
      · obtain ⟨z, hz⟩ : ∃ z, (Dp.othersTo p (m' + 1))[j]? = some z := ⟨_, List.getElem?_eq_getElem (by omega)⟩
        have e := hat _ _ hback j z hz
        rw [← hd] at e
        rw [Nat.zero_add, hown.cellAt j (by omega), List.getElem?_map, hz]
        show some (Value.int .i64 z) = some (Value.int .i64 (Dp.val d[j]!))
        rw [e]
      · rw [Nat.zero_add]; exact hown.frozenAt j
    have eg : ∀ args w, (callFunc 42 args).run Tryd.prog w = .ok (.enter 42 args) w := fun _ _ => by kernel_rfl
    have hcmp : CmpLays1 Tryd.prog 42 #[.pointer (some ⟨bF, 0, none⟩), .pointer (some ⟨bS, 0, none⟩)] (fun x : Fin (m' + 1) => Value.int .i64 (Dp.val x)) (Dp.cfF vs p) blk 0 d.size w := by
      intro mm os dk hdk x y
      have hx := Dp.val_range x
      have hy := Dp.val_range y
      exact ahead_any A A1 n c (m' + 1) c1 vs p (Dp.val x) (Dp.val y) bT bP bp bN bF bS _ B hn hl hm hml
        (Lib.hid (K.keep (blk := blk) (by omega) hblk hne hlt fun a h1 h2 => cell_sortWorld _ w blk 0 mm dk os a h1 h2)) p0 p1 hx.1 hx.2 hy.1 hy.2
    have hcon := Any.slices_SortFunc_total (P := Tryd.prog) sortLaid (fun x : Fin (m' + 1) => Value.int .i64 (Dp.val x)) (fun _ => rfl) (Dp.cfF vs p) (Dp.cf_order vs p) 42 #[.pointer (some ⟨bF, 0, none⟩), .pointer (some ⟨bS, 0, none⟩)] blk 0 cap d w eg hcmp hH hblk (by omega) (Dp.cf_total p0 p1)
    rw [hds] at hcon
    refine hcon.mono ?_
    rintro e w' ⟨rfl, nq, os, rfl⟩
    have hsn := Dp.sorted_near (m := m') hm.out p0 p1
    have hdl : d.toList = (Dp.othersTo p (m' + 1)).map Dp.toF := by rw [hd]
    rw [hdl]
    have hlN : (Dp.near vs p).length = L := by omega
    refine ⟨rfl, some ⟨blk, 0, none⟩, cap, by rw [hlN], ?_, below_sortWorld _ w blk 0 nq _ os base hbb hblk, by omega, by unfold maxLen at hcm; omega⟩
    have hR := holds_sortWorld (fun x : Fin (m' + 1) => Value.int .i64 (Dp.val x)) w blk 0 nq d ((((Dp.othersTo p (m' + 1)).map Dp.toF).mergeSort fun x y => !(ltOf (Dp.cfF vs p) y x)).toArray) os hblk hH (by simp [hds, hL])
    intro j z hz
    have hj : j < L := by have := (List.getElem?_eq_some_iff.1 hz).1; omega
    refine ⟨blk, 0, rfl, lt_sortWorld _ w blk 0 nq _ os hblk, ?_⟩
    rw [(hR j (by simp [hL]; omega)).1]
    show some (Value.int .i64 _) = _
    rw [hat _ _ hsn j z hz]
end Go.Proofs.YtmmgackmiemkhaaDoor


/- dist.Near, by its contract: who is near, in new memory. -/
namespace Go.Proofs.YtmmgackmiemkhaaDoor
open Go.RowKit Go.Sort
set_option linter.unusedVariables false

set_option maxHeartbeats 4000000 in
set_option maxRecDepth 100000 in
theorem near_cap (A : Option Addr) (n c : Nat) (vs : List (Int × Int)) (p : Int) (w : World)
    (hn : Hid (vs.length = n)) (hl : n ≤ 9223372036854775807) (hf : Hid (Fit vs)) (hv : VRow w w.heap.size A vs) :
    Calls Tryd.prog 25 #[.slice A n c, .int .i64 p] w (MadeC w (Dp.near vs p)) := by
  obtain ⟨i0, hi, hz0, hz1, hz2⟩ := info_parts info_int
  go_enter Tryd.func25, Tryd.ntmps25
  go_wp2_with fail
  have hb0 : Below w.heap.size w ((w.alloc (Obj.cells #[Value.slice A n c] 22)).alloc (Obj.cells #[Value.int IntKind.i64 p] 3)) := ((Below.refl _ _).alloc (Nat.le_refl _) _).alloc (by simp) _
  have cT0 : ((w.alloc (Obj.cells #[Value.slice A n c] 22)).alloc (Obj.cells #[Value.int IntKind.i64 p] 3)).cell? ⟨w.heap.size, 0, none⟩ = some (.slice A n c) := by simp
  have cp0 : ((w.alloc (Obj.cells #[Value.slice A n c] 22)).alloc (Obj.cells #[Value.int IntKind.i64 p] 3)).cell? ⟨w.heap.size + 1, 0, none⟩ = some (.int .i64 p) := by simp
  have hs0 : ((w.alloc (Obj.cells #[Value.slice A n c] 22)).alloc (Obj.cells #[Value.int IntKind.i64 p] 3)).heap.size = w.heap.size + 2 := by simp
  generalize hw0 : (w.alloc (Obj.cells #[Value.slice A n c] 22)).alloc (Obj.cells #[Value.int IntKind.i64 p] 3) = w0 at hb0 cT0 cp0 hs0 ⊢
  clear hw0
  refine (procsOf_any A n c vs w0 hn hl hf ((hv.below hb0).more hb0.size)).mono ?_
  rintro e w1 ⟨A1, c1, rfl, hI1, hb1⟩
  rw [procsIf_length]
  have h64 := procsN_few vs
  have hm := procsN_fits vs n hn hl
  have cT1 := (hb1.cell (p := ⟨w.heap.size, 0, none⟩) (by simp; omega)).trans cT0
  have cp1 := (hb1.cell (p := ⟨w.heap.size + 1, 0, none⟩) (by simp; omega)).trans cp0
  have hbw1 : Below w.heap.size w w1 := hb0.trans (hb1.mono hb0.size)
  have hs1 : w.heap.size + 2 ≤ w1.heap.size := by have := hb1.size; omega
  generalize hpn : Dp.procsN vs = m at h64 hm ⊢
  have HPN := Lib.hid hpn
  clear hpn hb0 hb1 cT0 cp0 hs0
  have cT2 : (w1.alloc (Obj.cells #[Value.slice A1 m c1] 47)).cell? ⟨w.heap.size, 0, none⟩ = some (.slice A n c) := by rw [World.cell?_alloc_lt _ _ _ (by simp; omega)]; exact cT1
  have cp2 : (w1.alloc (Obj.cells #[Value.slice A1 m c1] 47)).cell? ⟨w.heap.size + 1, 0, none⟩ = some (.int .i64 p) := by rw [World.cell?_alloc_lt _ _ _ (by simp; omega)]; exact cp1
  have hb2 : Below w.heap.size w (w1.alloc (Obj.cells #[Value.slice A1 m c1] 47)) := hbw1.alloc hbw1.size _
  have hI2 : IRow (w1.alloc (Obj.cells #[Value.slice A1 m c1] 47)) w1.heap.size A1 (procsIf vs) := hI1.below ((Below.refl _ _).alloc (Nat.le_refl _) _)
  have cP2 : (w1.alloc (Obj.cells #[Value.slice A1 m c1] 47)).cell? ⟨w1.heap.size, 0, none⟩ = some (.slice A1 m c1) := by rw [World.cell?_alloc_new]; rfl
  have hs2 : (w1.alloc (Obj.cells #[Value.slice A1 m c1] 47)).heap.size = w1.heap.size + 1 := by simp
  go_wp2_with fail
  generalize hw2 : w1.alloc (Obj.cells #[Value.slice A1 m c1] 47) = w2 at cT2 cp2 hb2 hI2 cP2 hs2 ⊢
  generalize hsz1 : w1.heap.size = s1 at hs1 hI2 cP2 hs2 ⊢
  clear hw2 cT1 cp1 hI1 hbw1 hsz1
  refine (among_any A1 m c1 p _ hm).mono ?_
  rintro e w2' ⟨rfl, rfl⟩
  cases ha : isP p m
  · have M := Lib.hid (show MadeC w (Dp.near vs p) (.returned (.slice none 0 0)) w2' from by
      rw [Dp.near_out (by rw [HPN.out]; exact isP_not.1 ha)]
      exact ⟨none, 0, rfl, fun i z hi => by simp at hi, hb2, Nat.le_refl _, by omega⟩)
    clear ha
    go_wp2_with fail
    go_ret
    exact M.out
  have HA := Lib.hid (isP_iff.1 ha)
  clear ha
  have cT3 : (w2'.alloc (Obj.cells #[Value.int .i64 m] 3)).cell? ⟨w.heap.size, 0, none⟩ = some (.slice A n c) := by rw [World.cell?_alloc_lt _ _ _ (by simp; omega)]; exact cT2
  have cp3 : (w2'.alloc (Obj.cells #[Value.int .i64 m] 3)).cell? ⟨w.heap.size + 1, 0, none⟩ = some (.int .i64 p) := by rw [World.cell?_alloc_lt _ _ _ (by simp; omega)]; exact cp2
  have cP3 : (w2'.alloc (Obj.cells #[Value.int .i64 m] 3)).cell? ⟨s1, 0, none⟩ = some (.slice A1 m c1) := by rw [World.cell?_alloc_lt _ _ _ (by simp; omega)]; exact cP2
  have cN3 : (w2'.alloc (Obj.cells #[Value.int .i64 m] 3)).cell? ⟨s1 + 1, 0, none⟩ = some (.int .i64 m) := by rw [World.cell?_alloc_at _ _ _ _ hs2.symm]; rfl
  have hb3 : Below w.heap.size w (w2'.alloc (Obj.cells #[Value.int .i64 m] 3)) := hb2.alloc hb2.size _
  have hI3 : IRow (w2'.alloc (Obj.cells #[Value.int .i64 m] 3)) (s1 + 2) A1 (procsIf vs) := (hI2.more (by omega)).below ((Below.refl (s1 + 1) _).alloc (by omega) _) |>.more (by omega)
  have hs3 : (w2'.alloc (Obj.cells #[Value.int .i64 m] 3)).heap.size = s1 + 2 := by simp [hs2]
  go_wp2_with fail
  generalize hw3 : w2'.alloc (Obj.cells #[Value.int .i64 m] 3) = w3 at cT3 cp3 cP3 cN3 hb3 hI3 hs3 ⊢
  clear hw3 cT2 cp2 cP2 hb2 hI2 hs2
  go_loopw [7, 20] (fun u i wr => ∃ k : Nat, k ≤ m ∧ i = .int .i64 k ∧ wr.ownsRow w3.heap.size 3 1 u (Dp.othersTo p k).length ((Dp.othersTo p k).map (Value.int .i64)) ∧ Below w3.heap.size w3 wr) (fun _ i _ => m - (intOf i).toNat)
  case atStart => exact ⟨0, by omega, rfl, World.ownsRow_nil _ _ _ _, Below.refl _ _⟩
  case round =>
    obtain ⟨k, hk, rfl, hown, hbe⟩ := hrel
    by_cases hkm : k < m
    · have cpr : wr.cell? ⟨w.heap.size + 1, 0, none⟩ = some (.int .i64 p) := (hbe.cell (p := ⟨w.heap.size + 1, 0, none⟩) (by simp; omega)).trans cp3
      have hle := Dp.othersTo_le p k
      by_cases hkp : (k : Int) = p
      · have H : Hid (Dp.othersTo p (k + 1) = Dp.othersTo p k) := Lib.hid (by rw [Dp.othersTo, if_pos hkp, List.append_nil])
        have q1 : ((k : Int) != p) = false := by simp [hkp]
        clear hkp hle
        go_wp2_with fail
        go_roundw
        case rel => exact ⟨k + 1, by omega, by go_num, by rw [H.out]; exact hown, hbe⟩
        case measure => simp [intOf]; omega
      · have H : Hid (Dp.othersTo p (k + 1) = Dp.othersTo p k ++ [(k : Int)]) := Lib.hid (by rw [Dp.othersTo, if_neg hkp])
        have q1 : ((k : Int) != p) = true := by simp [hkp]
        clear hkp
        go_wp2_with (at_builtin; refine wpList_append_own _ rfl _ _ 47 rfl w3.heap.size 3 i0 (.int .i64 0) 1 8 Tryd.underlying47 hi hz0 hz1 hz2 rfl (by decide) _ _ _ rfl (hown.alloc _) ⟨wr.heap.size, 0, none⟩ 1 1 [.int .i64 (k : Int)] rfl rfl ?c1 ?c2 ?c3 ?c4 ?c5 ?_)
        case c1 => exact one_cell _ _ _
        case c2 => intro u hu; simp at hu; subst hu; rfl
        case c3 => unfold maxLen; omega
        case c4 => omega
        case c5 => have := hbe.size; simp; omega
        intro v' w5 hown5 hg _
        go_wp2_with fail
        go_roundw
        case rel =>
          refine ⟨k + 1, by omega, by go_num, ?_, (hbe.alloc hbe.size _).grown hg (by have := hbe.size; simp; omega) (fun j hj => (hown.lt j hj).1)⟩
          rw [H.out, List.length_append, List.map_append, hs3]; exact hown5
        case measure => simp [intOf]; omega
    · have hkn : k = m := by omega
      subst hkn
      have hmf := hmf
      have hst := fun (a : Addr) (fn : Fn) (cb : Array Value) (W : World) => run_store Tryd.prog W a (.func fn #[] cb) .plain rfl
      obtain ⟨oF, hoF⟩ : ∃ oF, oF = Obj.cells #[Value.func (.func 39) #[] #[.pointer (some ⟨w.heap.size, 0, none⟩), .pointer (some ⟨s1, 0, none⟩), .pointer (some ⟨w.heap.size + 1, 0, none⟩)]] 65 := ⟨_, rfl⟩
      obtain ⟨oS, hoS⟩ : ∃ oS, oS = Obj.cells #[Value.func (.func 40) #[] #[.pointer (some ⟨w.heap.size + 1, 0, none⟩), .pointer (some ⟨s1 + 1, 0, none⟩)]] 65 := ⟨_, rfl⟩
      have hb4 : Below w3.heap.size w3 ((wr.alloc oF).alloc oS) := (hbe.alloc hbe.size _).alloc (by have := hbe.size; simp; omega) _
      have hbs := hbe.size
      have hsz4 : ((wr.alloc oF).alloc oS).heap.size = wr.heap.size + 2 := by simp
      have hK : Caps ((wr.alloc oF).alloc oS) w3.heap.size A A1 n c k c1 vs p w.heap.size s1 (w.heap.size + 1) (s1 + 1) wr.heap.size (wr.heap.size + 1) :=
        { tv := (hv.below (hb3.trans (hb4.mono hb3.size))).more hb3.size
          ps := (hI3.more (by omega)).below hb4
          cT := (hb4.cell (p := ⟨w.heap.size, 0, none⟩) (by simp; omega)).trans cT3
          cP := (hb4.cell (p := ⟨s1, 0, none⟩) (by simp; omega)).trans cP3
          cp := (hb4.cell (p := ⟨w.heap.size + 1, 0, none⟩) (by simp; omega)).trans cp3
          cN := (hb4.cell (p := ⟨s1 + 1, 0, none⟩) (by simp; omega)).trans cN3
          cF := by rw [hoF, World.cell?_alloc2_first]; rfl
          cS := by rw [hoS, World.cell?_alloc2_new]; rfl }
      have hsort := sort_near A A1 n c k c1 _ vs p w.heap.size s1 (w.heap.size + 1) (s1 + 1) wr.heap.size (wr.heap.size + 1) ((wr.alloc oF).alloc oS) w3.heap.size w3.heap.size u7 hn hl HPN h64 hK HA.out.1 HA.out.2 (Nat.le_refl _) ((hown.alloc _).alloc _)
        (fun blk hb => by have := hown.lt blk hb; omega) (by rw [hsz4]; omega)
      rw [hoF, hoS] at hsort hb4
      have HS := Lib.hid hsort
      have HB4 := Lib.hid hb4
      clear hsort hK hoF hoS hsz4 hb4 hown cT3 cp3 cP3 cN3
      go_wp2_with fail
      refine HS.out.mono ?_
      rintro e w6 ⟨rfl, A', c', rfl, hI6, hb6, hc1, hc2⟩
      have M := Lib.hid (show MadeC w (Dp.near vs p) (.returned (.slice A' (Dp.near vs p).length c')) w6 from
        ⟨A', c', rfl, hI6, hb3.trans ((HB4.out.trans hb6).mono hb3.size), hc1, hc2⟩)
      clear hst hmf
      go_wp2_with fail
      go_ret
      exact M.out
end Go.Proofs.YtmmgackmiemkhaaDoor


/- dist's four calls, by contracts: they answer as the document says, and turn nothing that was there. -/
namespace Go.Proofs.YtmmgackmiemkhaaDoor
open Go.RowKit
theorem near_any (A : Option Addr) (n c : Nat) (vs : List (Int × Int)) (p : Int) (w : World)
    (hn : Hid (vs.length = n)) (hl : n ≤ 9223372036854775807) (hf : Hid (Fit vs)) (hv : VRow w w.heap.size A vs) :
    Calls Tryd.prog 25 #[.slice A n c, .int .i64 p] w (Made w (Dp.near vs p)) := (near_cap A n c vs p w hn hl hf hv).mono fun _ _ h => h.made
end Go.Proofs.YtmmgackmiemkhaaDoor


/- The document's Where, On, by their contracts: the first ring, or else the first row, in which one stands; whether a processor is plugged. -/
namespace Go.Proofs.YtmmgackmiemkhaaDoor
open Go.RowKit
set_option linter.unusedVariables false

theorem has_false {zs : List Int} {g : Int} (h : ¬ Tp.has zs g = true) : Tp.has zs g = false := by cases e : Tp.has zs g; rfl; exact absurd e h
/-- Is a processor plugged? -/
theorem jrefOn_any (d : Ad) (r : Jp.Rn) (p : Int) (w : World) (hon : r.on < 18446744073709551616) :
    Calls Tryd.prog 14 #[jv d r, .int .i64 p] w fun e w' => e = .returned (.bool (Jp.onP r p)) ∧ Below w.heap.size w w' := by
  obtain ⟨V, hV, hX, hB⟩ := B5.start w (.slice d.T d.nt d.ct) (.int .i64 r.size) (.slice d.R d.nr d.cr) (.slice d.S d.ns d.cs) (.int .u64 (r.on : Nat)) 27
  have E := Lib.hid hV
  have d4 := hX.c4
  have B0 := Lib.hid hB
  have HC := Lib.hid (zrefAll_any r.on V hon)
  clear hV hX hB
  unfold jv
  go_enter Tryd.func14, Tryd.ntmps14
  go_wp2_with fail
  rw [← E.out]
  refine HC.out.mono ?_
  rintro e w2 ⟨v, n, rfl, ho, hb2⟩
  obtain ⟨A2, c2, rfl, hr2, _⟩ := Row.of_own' ho
  have HN := Lib.hid (in_any A2 n c2 (Zp.mem r.on) p w2 w2.heap.size (Lib.hid hr2.len) (by have := hr2.cap; have := hr2.most; omega) hr2.row)
  have B2 := Lib.hid (B0.out.trans (hb2.mono B0.out.size))
  clear hr2 hb2 HC ho
  go_wp2_with fail
  refine HN.out.mono ?_
  rintro e w3 ⟨rfl, rfl⟩
  go_wp2_with fail
  go_ret
  exact ⟨rfl, B2.out⟩
end Go.Proofs.YtmmgackmiemkhaaDoor


/- The document's Next, Without and With, by their contracts. -/
namespace Go.Proofs.YtmmgackmiemkhaaDoor
open Go.RowKit
set_option linter.unusedVariables false

/-- A plain address, or none. -/
def Flat (A : Option Addr) : Prop := ∀ ad, A = some ad → ad.spot = none
/-- What a call leaves that tells a row. -/
def TellF (w0 : World) (zs : List Int) (e : Ending) (w' : World) : Prop :=
  ∃ A n c, e = .returned (.slice A n c) ∧ Row w' A n c zs ∧ Flat A ∧ Below w0.heap.size w0 w'
theorem Row.flat_own {w : World} {base n : Nat} {e : TypeId} {v : Value} {zs : List Int} (h : w.ownsRow base e 1 v n (zs.map (Value.int .i64))) : ∃ A c, v = .slice A n c ∧ Row w A n c zs ∧ Flat A := by
  obtain ⟨A, c, rfl, hr⟩ := Row.of_own h
  refine ⟨A, c, rfl, hr, fun ad e => ?_⟩
  subst e
  rcases h.2 with ⟨h0, _⟩ | ⟨g, cap, cur, e1, _⟩
  · cases h0
  · injection e1 with e1
    injection e1 with e1
    rw [e1]
theorem MadeO.tellF {w0 w' : World} {zs : List Int} {e : Ending} (h : MadeO w0 zs e w') : TellF w0 zs e w' := by
  obtain ⟨v, n, rfl, ho, hb⟩ := h
  obtain ⟨A, c, rfl, hr, hf⟩ := Row.flat_own ho
  exact ⟨A, n, c, rfl, hr, hf, hb⟩
theorem find_here {zs : List Int} {k : Nat} {x n : Int} (hx : zs[k]? = some x) (h0 : ∀ z ∈ zs.take k, z < n) (h : n ≤ x) : zs.find? (fun z => decide (n ≤ z)) = some x := by
  have hk := (List.getElem?_eq_some_iff.1 hx).1
  have e : zs = zs.take k ++ x :: zs.drop (k + 1) := by
    rw [← (List.getElem?_eq_some_iff.1 hx).2, List.getElem_cons_drop, List.take_append_drop]
  rw [e, List.find?_append, List.find?_eq_none.2 (fun z hz => by have := h0 z hz; simp; omega)]
  simp [h]
theorem find_none {zs : List Int} {n : Int} (h0 : ∀ z ∈ zs, z < n) : zs.find? (fun z => decide (n ≤ z)) = none :=
  List.find?_eq_none.2 (fun z hz => by have := h0 z hz; simp; omega)
theorem nextL_in {zs : List Int} {a n : Int} (ha : zs[0]? = some a) (h1 : 0 ≤ n) (h2 : n ≤ 63) : Zp.nextL zs n = (zs.find? fun z => decide (n ≤ z)).getD a := by
  cases zs with
  | nil => cases ha
  | cons b t =>
    injection ha with ha
    subst ha
    show (if n < 0 ∨ 63 < n then b else _) = _
    rw [if_neg (by omega)]
theorem nextL_out {zs : List Int} {a n : Int} (ha : zs[0]? = some a) (h : n < 0 ∨ 63 < n) : Zp.nextL zs n = a := by
  cases zs with
  | nil => cases ha
  | cons b t =>
    injection ha with ha
    subst ha
    show (if n < 0 ∨ 63 < n then b else _) = _
    rw [if_pos h]
theorem take_lt {zs : List Int} {k : Nat} {x n : Int} (hx : zs[k]? = some x) (h0 : ∀ z ∈ zs.take k, z < n) (h : x < n) : ∀ z ∈ zs.take (k + 1), z < n := by
  intro z hz
  rw [List.take_add_one, hx] at hz
  rcases List.mem_append.1 hz with hz | hz
  · exact h0 z hz
  · simp at hz; subst hz; exact h
theorem outL_hit {zs : List Int} {k : Nat} {n : Int} (hx : zs[k]? = some n) : Zp.outL (zs.take (k + 1)) n = Zp.outL (zs.take k) n := by
  rw [List.take_add_one, hx]; unfold Zp.outL; rw [List.filter_append]; simp
theorem outL_miss {zs : List Int} {k : Nat} {x n : Int} (hx : zs[k]? = some x) (h : x ≠ n) : Zp.outL (zs.take (k + 1)) n = Zp.outL (zs.take k) n ++ [x] := by
  rw [List.take_add_one, hx]; unfold Zp.outL; rw [List.filter_append]; simp [h]
theorem outL_le (zs : List Int) (k : Nat) (n : Int) : (Zp.outL (zs.take k) n).length ≤ k := by
  unfold Zp.outL
  have h1 := List.length_filter_le (fun x => x != n) (zs.take k)
  have h2 := List.length_take_le k zs
  omega
end Go.Proofs.YtmmgackmiemkhaaDoor


/- The document's With, by its contract. -/
namespace Go.Proofs.YtmmgackmiemkhaaDoor
open Go.RowKit
set_option linter.unusedVariables false

theorem takeWhile_step {zs : List Int} {k : Nat} {x n : Int} (hx : zs[k]? = some x) (h0 : zs.takeWhile (· < n) = zs.take k ++ (zs.drop k).takeWhile (· < n)) (h : x < n) :
    zs.takeWhile (· < n) = zs.take (k + 1) ++ (zs.drop (k + 1)).takeWhile (· < n) := by
  have hk := (List.getElem?_eq_some_iff.1 hx).1
  rw [h0, List.take_add_one, hx, List.drop_eq_getElem_cons hk, (List.getElem?_eq_some_iff.1 hx).2, List.takeWhile_cons_of_pos (by simpa using h)]
  simp
theorem takeWhile_stop {zs : List Int} {k : Nat} {x n : Int} (hx : zs[k]? = some x) (h0 : zs.takeWhile (· < n) = zs.take k ++ (zs.drop k).takeWhile (· < n)) (h : ¬ x < n) :
    zs.takeWhile (· < n) = zs.take k := by
  have hk := (List.getElem?_eq_some_iff.1 hx).1
  rw [h0, List.drop_eq_getElem_cons hk, (List.getElem?_eq_some_iff.1 hx).2, List.takeWhile_cons_of_neg (by simpa using h), List.append_nil]
theorem withL_at {zs : List Int} {k : Nat} {n : Int} (hk : k ≤ zs.length) (ht : zs.takeWhile (· < n) = zs.take k) (h0 : 0 ≤ n) (h1 : n ≤ 63) (h : n ∉ zs) : Zp.withL zs n = zs.take k ++ [n] ++ zs.drop k := by
  unfold Zp.withL
  rw [if_neg (by rintro (e | e | e); omega; omega; exact h e), ht, List.length_take, Nat.min_eq_left hk]
theorem has_of {zs : List Int} {n : Int} : Tp.has zs n = decide (n ∈ zs) := by
  unfold Tp.has; rw [Bool.eq_iff_iff, List.contains_iff_mem, decide_eq_true_eq]
theorem Row.flat {w : World} {A : Option Addr} {m c : Nat} {zs : List Int} (h : Row w A m c zs) (hf : Flat A) : (A = none ∧ m = 0 ∧ c = 0) ∨ ∃ b off, A = some ⟨b, off, none⟩ := by
  cases A with
  | none => have h0 := h.nil rfl; have h1 := h.cap; exact .inl ⟨rfl, by omega, h0⟩
  | some ad =>
    obtain ⟨b, off, sp⟩ := ad
    have := hf _ rfl
    simp only at this
    subst this
    exact .inr ⟨b, off, rfl⟩
theorem row_below_refl {w : World} {A : Option Addr} {m c : Nat} {zs : List Int} (h : Row w A m c zs) (hf : Flat A) : TellF w zs (.returned (.slice A m c)) w := ⟨A, m, c, rfl, h, hf, Below.refl _ _⟩
end Go.Proofs.YtmmgackmiemkhaaDoor


/- The library's table of the listed variable; a slice of numbers that came in; a start that meets the condition. -/
namespace Go.Proofs.YtmmgackmiemkhaaDoor
open Go.ChangeShapes Go.WideShapes Go.ChangeAt Go.RowKit
set_option linter.unusedVariables false

/-- The one listed variable. -/
def laidList : List (String × DataW Unit) := [("math/bits.deBruijn64tab", Rows.laid_math_bits_deBruijn64tab)]
theorem gTab : Tryd.prog.globalNamed "math/bits.deBruijn64tab" = some 0 := by kernel_rfl
theorem tTab : (Tryd.prog.globals[0]?).map (·.type) = some 105 := by kernel_rfl
theorem tab_of_laid {W : World} (h : laidMetH Tryd.prog laidList W) : Tab W := by
  rw [MakeChecks.laidMetH_plain _ _ _ (by kernel_rfl)] at h
  have h' : laidMet Tryd.prog [("math/bits.deBruijn64tab", Lib.tabData .u8 (Lib.deBruijn64tab.map fun k : Nat => (k : Int)))] W := h
  have ht := Lib.tabIs_of_head gTab tTab Tryd.underlying105 Tryd.underlying5 (by kernel_rfl) (by kernel_rfl) h'
  intro j hj
  have := ht.cell gTab j (by simpa [Lib.deBruijn64tab] using hj)
  rw [this]
  congr 2
  simp only [List.getD_eq_getElem?_getD, List.getElem?_map]
  cases Lib.deBruijn64tab[j]? <;> rfl
theorem door_met (os : Os) (args : Array Value) : laidMetH Tryd.prog laidList ((World.doorLaid Tryd.prog 14 os).forCall (fun _ _ => 0) ⟨#[], args, []⟩).memory :=
  laidMetH_of_parts3 (fuel := 8) (laidMet_of_run' 8 (by kernel_rfl) (by kernel_rfl)) (by kernel_rfl) (by kernel_rfl)
theorem of_wf64 {a : Int} (h : (Lit.int .u64 a).wf = true) : ∃ x : Nat, a = x ∧ x < 18446744073709551616 := by
  have : 0 ≤ a ∧ a ≤ 18446744073709551615 := by simpa [Lit.wf, IntKind.min, IntKind.max, IntKind.signed, IntKind.bits] using h
  exact ⟨a.toNat, by omega, by omega⟩
/-- A slice of numbers that came in. -/
theorem open_list {H : Type} {enc : TypeId × Value → H} {W : World} {base : Nat} {spare : Nat → Bool} {held : Bool} {v : Value} {x : DataW H × List MemPlace} {fuel : Nat}
    (h : DataW.trod enc Tryd.prog W base spare held fuel 47 [v] = some x) : ∃ A n c zs, v = .slice A n c ∧ Row W A n c zs := by
  rcases open_ints Tryd.underlying47 Tryd.underlying3 (by kernel_rfl) h with ⟨hcs, _⟩ | ⟨a, len, cap, zs, hcs, _, hl, hm, hz, _, hcell, hw⟩
  · simp at hcs
    subst hcs
    exact ⟨none, 0, 0, [], rfl, Row.nothing W⟩
  · simp only [List.cons.injEq, and_true] at hcs
    subst hcs
    have hzl : len ≤ zs.length := by rw [hz]; split <;> omega
    refine ⟨some a, len, cap, zs.take len, rfl, ⟨by rw [List.length_take]; omega, hl, by unfold maxLen at hm; omega, (fun e => by cases e), fun i z hi => ?_⟩⟩
    have hil : i < len := by have := (List.getElem?_eq_some_iff.1 hi).1; rw [List.length_take] at this; omega
    rw [List.getElem?_take, if_pos hil] at hi
    have hc := hcell i (by omega)
    rw [show zs.getD i 0 = z by rw [List.getD, hi]; rfl] at hc
    obtain ⟨ab, ao, sp⟩ := a
    have hs : sp = none := by
      have := World.cell?_spot (hcell 0 (by omega))
      simpa [Addr.add] using this
    subst hs
    rw [add_lit'] at hc
    exact ⟨ab, ao, rfl, World.block_lt_of_cell? _ _ hc, hc⟩
end Go.Proofs.YtmmgackmiemkhaaDoor


/- Runs that came in, opened: a tree, a number, rings, rows, a set. -/
namespace Go.Proofs.YtmmgackmiemkhaaDoor
open Go.ChangeShapes Go.WideShapes Go.ChangeAt Go.RowKit
set_option linter.unusedVariables false

theorem one_of_cells {W : World} {base : Nat} {a : Addr} {cs : List Value} (h : W.cells? base a 1 = some cs) : ∃ c, cs = [c] ∧ W.cell? a = some c := by
  unfold World.cells? at h
  split at h
  · have e0 : a.add 0 = a := by simp [Addr.add]
    simp only [List.range_succ, List.range_zero, List.nil_append, List.mapM_cons, List.mapM_nil, e0] at h
    cases hc : W.cell? a with
    | none => simp [hc] at h
    | some c => simp [hc] at h; exact ⟨c, h.symm, rfl⟩
  · cases h
theorem two_of_cells {W : World} {base : Nat} {a : Addr} {cs : List Value} (h : W.cells? base a 2 = some cs) : ∃ c d, cs = [c, d] ∧ W.cell? a = some c ∧ W.cell? (a.add 1) = some d := by
  unfold World.cells? at h
  split at h
  · have e0 : a.add 0 = a := by simp [Addr.add]
    simp only [List.range_succ, List.range_zero, List.nil_append, List.cons_append, List.mapM_cons, List.mapM_nil, e0] at h
    cases hc : W.cell? a with
    | none => simp [hc] at h
    | some c =>
      cases hd : W.cell? (a.add 1) with
      | none => simp [hc, hd] at h
      | some d => simp [hc, hd] at h; exact ⟨c, d, h.symm, rfl, rfl⟩
  · cases h
theorem row_block' {w : World} {A : Option Addr} {n c : Nat} {zs : List Int} (h : Row w A n c zs) (hne : zs ≠ []) {ad : Addr} (hA : A = some ad) : ad.block < w.heap.size := by
  have h4 : 0 < n := by rw [← h.len]; exact List.length_pos_iff.2 hne
  obtain ⟨b, off, e3, hb, _⟩ := h.cells h4
  rw [hA] at e3
  injection e3 with e3
  subst e3
  exact hb
instance : Inhabited El := ⟨⟨0, [], none, 0, 0⟩⟩
/-- A struct's cells, each read by itself. -/
theorem trod_two {H : Type} {enc : TypeId × Value → H} {P : Program} {W : World} {base : Nat} {spare : Nat → Bool} {held : Bool} {t : TypeId} {f0 f1 : Field} {c0 c1 : Value} {x : DataW H × List MemPlace} {fuel : Nat} (hs : P.underlying t = some (.struct #[f0, f1])) (hone : Go.Deep.oneCellFields P #[f0, f1] = true)
    (h : DataW.trod enc P W base spare held fuel t [c0, c1] = some x) : ∃ y0 y1 n, DataW.trod enc P W base spare held n f0.type [c0] = some y0 ∧ DataW.trod enc P W base spare held n f1.type [c1] = some y1 := by
  obtain ⟨xs, n, _, rfl, _, hlen, hf⟩ := DataW.trod_struct hs h
  obtain ⟨o0, k0⟩ := Go.Deep.hone_of hone 0 f0 rfl
  obtain ⟨o1, k1⟩ := Go.Deep.hone_of hone 1 f1 rfl
  match xs, hlen with
  | [y0, y1], _ => exact ⟨y0, y1, n, by simpa [o0, k0] using hf 0 f0 rfl, by simpa [o1, k1] using hf 1 f1 rfl⟩
theorem trod_five {H : Type} {enc : TypeId × Value → H} {P : Program} {W : World} {base : Nat} {spare : Nat → Bool} {held : Bool} {t : TypeId} {f0 f1 f2 f3 f4 : Field} {c0 c1 c2 c3 c4 : Value} {x : DataW H × List MemPlace} {fuel : Nat} (hs : P.underlying t = some (.struct #[f0, f1, f2, f3, f4])) (hone : Go.Deep.oneCellFields P #[f0, f1, f2, f3, f4] = true)
    (h : DataW.trod enc P W base spare held fuel t [c0, c1, c2, c3, c4] = some x) : ∃ y0 y1 y2 y3 y4 n, DataW.trod enc P W base spare held n f0.type [c0] = some y0 ∧ DataW.trod enc P W base spare held n f1.type [c1] = some y1 ∧ DataW.trod enc P W base spare held n f2.type [c2] = some y2 ∧ DataW.trod enc P W base spare held n f3.type [c3] = some y3 ∧ DataW.trod enc P W base spare held n f4.type [c4] = some y4 := by
  obtain ⟨xs, n, _, rfl, _, hlen, hf⟩ := DataW.trod_struct hs h
  obtain ⟨o0, k0⟩ := Go.Deep.hone_of hone 0 f0 rfl
  obtain ⟨o1, k1⟩ := Go.Deep.hone_of hone 1 f1 rfl
  obtain ⟨o2, k2⟩ := Go.Deep.hone_of hone 2 f2 rfl
  obtain ⟨o3, k3⟩ := Go.Deep.hone_of hone 3 f3 rfl
  obtain ⟨o4, k4⟩ := Go.Deep.hone_of hone 4 f4 rfl
  match xs, hlen with
  | [y0, y1, y2, y3, y4], _ => exact ⟨y0, y1, y2, y3, y4, n, by simpa [o0, k0] using hf 0 f0 rfl, by simpa [o1, k1] using hf 1 f1 rfl, by simpa [o2, k2] using hf 2 f2 rfl, by simpa [o3, k3] using hf 3 f3 rfl, by simpa [o4, k4] using hf 4 f4 rfl⟩
theorem array5 {α : Type} {cs : Array α} (h : cs.size = 5) : ∃ c0 c1 c2 c3 c4, cs = #[c0, c1, c2, c3, c4] := by
  obtain ⟨l⟩ := cs
  match l, h with
  | [c0, c1, c2, c3, c4], _ => exact ⟨c0, c1, c2, c3, c4, rfl⟩
/-- A ring's two cells. -/
theorem open_ring2 {H : Type} {enc : TypeId × Value → H} {W : World} {base : Nat} {spare : Nat → Bool} {held : Bool} {c d : Value} {x : DataW H × List MemPlace} {fuel : Nat}
    (h : DataW.trod enc Tryd.prog W base spare held fuel 49 [c, d] = some x) : ∃ z A n k zs, c = .int .i64 z ∧ d = .slice A n k ∧ Row W A n k zs ∧ ∀ x ∈ Rp.all (z, zs), In64 x := by
  obtain ⟨y0, y1, m, h0, h1⟩ := trod_two Tryd.underlying49 (by kernel_rfl) h
  obtain ⟨z, e0, _, wz⟩ := DataW.trod_int Tryd.underlying3 h0
  obtain ⟨A, n, k, zs, e1, hr, wr⟩ := open_row h1
  injection e0 with e0 _
  refine ⟨z, A, n, k, zs, e0, e1, hr, fun x hx => ?_⟩
  unfold Rp.all at hx
  split at hx
  · exact wr x hx
  · rcases List.mem_cons.1 hx with rfl | hx
    · exact in64_of_wf wz
    · exact wr x hx
theorem open_rings {H : Type} {enc : TypeId × Value → H} {W : World} {base : Nat} {spare : Nat → Bool} {held : Bool} {v : Value} {x : DataW H × List MemPlace} {fuel : Nat}
    (h : DataW.trod enc Tryd.prog W base spare held fuel 23 [v] = some x) : ∃ A n c es, v = .slice A n c ∧ XR csG 2 W A n c es ∧ LieE (fun b => b < W.heap.size) A es ∧ ∀ e ∈ es, ∀ x ∈ Rp.all (elG e), In64 x := by
  have hc1 : Tryd.prog.cellsOf 49 = 2 := by kernel_rfl
  rcases DataW.trod_slice Tryd.underlying23 h with ⟨hcs, _⟩ | ⟨a, len, cap, elems, rest, m, _, hcs, _, _, hl, hm, hel, hE, _⟩
  · injection hcs with hcs _
    exact ⟨none, 0, 0, [], hcs, XR.nothing W, ⟨fun h => absurd rfl h, fun e he => by simp at he⟩, fun e he => by simp at he⟩
  · injection hcs with hcs _
    have each : ∀ i, i < len → ∃ e : El, W.cell? (a.add (i * 2)) = some (.int .i64 e.x) ∧ W.cell? ((a.add (i * 2)).add 1) = some (.slice e.A e.n e.c) ∧ Row W e.A e.n e.c e.l ∧ ∀ x ∈ Rp.all (elG e), In64 x := by
      intro i hi
      have he := hE i hi
      rw [hc1] at he
      obtain ⟨y, hy⟩ : ∃ y, elems[i]? = some y := ⟨_, List.getElem?_eq_getElem (by omega)⟩
      rw [hy] at he
      obtain ⟨cs, h1, h2⟩ := Option.bind_eq_some_iff.1 he
      obtain ⟨c, d, rfl, h3, h4⟩ := two_of_cells h1
      obtain ⟨z, A, n, k, zs, rfl, rfl, hr, wx⟩ := open_ring2 h2
      exact ⟨⟨z, zs, A, n, k⟩, h3, h4, hr, wx⟩
    obtain ⟨f, hf⟩ := Go.Deep.choose_lt each
    refine ⟨some a, len, cap, (List.range len).map f, hcs, ⟨by simp, hl, by unfold maxLen at hm; omega, (fun e => by cases e), fun i e hi => ?_, fun e he => ?_⟩, ⟨fun hne ad hA => ?_, fun e he hne ad hA => ?_⟩, fun e he => ?_⟩
    · have hil : i < len := by have := (List.getElem?_eq_some_iff.1 hi).1; simpa using this
      have e1 : f i = e := by
        rw [List.getElem?_map, List.getElem?_range hil] at hi
        injection hi
      obtain ⟨h0, h1, _⟩ := hf i hil
      rw [e1] at h0 h1
      obtain ⟨ab, ao, sp⟩ := a
      have hs : sp = none := by
        have := World.cell?_spot (hf 0 (by omega)).1
        simpa [Addr.add] using this
      subst hs
      rw [add_lit', add_lit'] at h1
      rw [add_lit'] at h0
      refine ⟨ab, ao, rfl, World.block_lt_of_cell? (a := ⟨ab, ao + i * 2, none⟩) _ h0, fun j u hj => ?_⟩
      match j, hj with
      | 0, hj => simp [csG] at hj; subst hj; exact h0
      | 1, hj => simp [csG] at hj; subst hj; exact h1
    · obtain ⟨i, hir, rfl⟩ := List.mem_map.1 he
      exact (hf i (List.mem_range.1 hir)).2.2.1
    · injection hA with hA
      subst hA
      have hl0 : 0 < len := by
        rcases Nat.eq_zero_or_pos len with h0 | h0
        · subst h0; simp at hne
        · exact h0
      have := World.block_lt_of_cell? _ _ (hf 0 hl0).1
      simpa [Addr.add] using this
    · obtain ⟨i, hir, rfl⟩ := List.mem_map.1 he
      exact row_block' (hf i (List.mem_range.1 hir)).2.2.1 hne hA
    · obtain ⟨i, hir, rfl⟩ := List.mem_map.1 he
      exact (hf i (List.mem_range.1 hir)).2.2.2
theorem open_lists {H : Type} {enc : TypeId × Value → H} {W : World} {base : Nat} {spare : Nat → Bool} {held : Bool} {v : Value} {x : DataW H × List MemPlace} {fuel : Nat}
    (h : DataW.trod enc Tryd.prog W base spare held fuel 24 [v] = some x) : ∃ A n c es, v = .slice A n c ∧ XR csL 1 W A n c es ∧ LieE (fun b => b < W.heap.size) A es ∧ ∀ e ∈ es, ∀ x ∈ elL e, In64 x := by
  have hc1 : Tryd.prog.cellsOf 47 = 1 := by kernel_rfl
  rcases DataW.trod_slice Tryd.underlying24 h with ⟨hcs, _⟩ | ⟨a, len, cap, elems, rest, m, _, hcs, _, _, hl, hm, hel, hE, _⟩
  · injection hcs with hcs _
    exact ⟨none, 0, 0, [], hcs, XR.nothing W, ⟨fun h => absurd rfl h, fun e he => by simp at he⟩, fun e he => by simp at he⟩
  · injection hcs with hcs _
    have each : ∀ i, i < len → ∃ e : El, W.cell? (a.add i) = some (.slice e.A e.n e.c) ∧ Row W e.A e.n e.c e.l ∧ ∀ x ∈ elL e, In64 x := by
      intro i hi
      have he := hE i hi
      rw [hc1, Nat.mul_one] at he
      obtain ⟨y, hy⟩ : ∃ y, elems[i]? = some y := ⟨_, List.getElem?_eq_getElem (by omega)⟩
      rw [hy] at he
      obtain ⟨cs, h1, h2⟩ := Option.bind_eq_some_iff.1 he
      obtain ⟨c, rfl, h3⟩ := one_of_cells h1
      obtain ⟨A, n, k, zs, rfl, hr, wx⟩ := open_row h2
      exact ⟨⟨0, zs, A, n, k⟩, h3, hr, wx⟩
    obtain ⟨f, hf⟩ := Go.Deep.choose_lt each
    refine ⟨some a, len, cap, (List.range len).map f, hcs, ⟨by simp, hl, by unfold maxLen at hm; omega, (fun e => by cases e), fun i e hi => ?_, fun e he => ?_⟩, ⟨fun hne ad hA => ?_, fun e he hne ad hA => ?_⟩, fun e he => ?_⟩
    · have hil : i < len := by have := (List.getElem?_eq_some_iff.1 hi).1; simpa using this
      have e1 : f i = e := by
        rw [List.getElem?_map, List.getElem?_range hil] at hi
        injection hi
      obtain ⟨h0, _⟩ := hf i hil
      rw [e1] at h0
      obtain ⟨ab, ao, sp⟩ := a
      have hs : sp = none := by
        have := World.cell?_spot (hf 0 (by omega)).1
        simpa [Addr.add] using this
      subst hs
      rw [add_lit'] at h0
      refine ⟨ab, ao, rfl, World.block_lt_of_cell? (a := ⟨ab, ao + i, none⟩) _ h0, fun j u hj => ?_⟩
      match j, hj with
      | 0, hj => simp [csL] at hj; subst hj; rw [Nat.mul_one]; exact h0
    · obtain ⟨i, hir, rfl⟩ := List.mem_map.1 he
      exact (hf i (List.mem_range.1 hir)).2.1
    · injection hA with hA
      subst hA
      have hl0 : 0 < len := by
        rcases Nat.eq_zero_or_pos len with h0 | h0
        · subst h0; simp at hne
        · exact h0
      have := World.block_lt_of_cell? _ _ (hf 0 hl0).1
      simpa [Addr.add] using this
    · obtain ⟨i, hir, rfl⟩ := List.mem_map.1 he
      exact row_block' (hf i (List.mem_range.1 hir)).2.1 hne hA
    · obtain ⟨i, hir, rfl⟩ := List.mem_map.1 he
      exact (hf i (List.mem_range.1 hir)).2.2
set_option maxRecDepth 100000 in
/-- Runs that came in. -/
theorem open_runs {H : Type} {enc : TypeId × Value → H} {W : World} {base b0 : Nat} {spare : Nat → Bool} {held : Bool} {v : Value} {d : DataW H} {p : List MemPlace}
    (hv : Value.okWide Tryd.prog W .any b0 27 v) (h : DataW.Trod enc Tryd.prog W base spare held 27 v d p) :
    ∃ (a : Ad) (r : Jp.Rn), v = jv a r ∧ RMI (fun b => b < W.heap.size) W a r := by
  obtain ⟨cs, rfl, hsz⟩ := okWide_struct Tryd.underlying27 hv
  obtain ⟨c0, c1, c2, c3, c4, rfl⟩ := array5 (hsz.trans (by kernel_rfl : Tryd.prog.cellsOf 27 = 5))
  obtain ⟨fuel, hf⟩ := h
  simp only [Value.cells] at hf
  obtain ⟨y0, y1, y2, y3, y4, m, h0, h1, h2, h3, h4⟩ := trod_five Tryd.underlying27 (by kernel_rfl) hf
  obtain ⟨T, nt, ct, e0⟩ := Go.Joins.slice_form Tryd.underlying22 h0
  injection e0 with e0 _
  subst e0
  obtain ⟨ht1, ht2, vs, ht3, ht4, ht5⟩ := open_vs h0
  obtain ⟨z, e1, _, w1⟩ := DataW.trod_int Tryd.underlying3 h1
  injection e1 with e1 _
  subst e1
  obtain ⟨R, nr, cr, gs, rfl, hgs, hgl, wg⟩ := open_rings h2
  obtain ⟨S, ns, cs, ls, rfl, hls, hll, wl⟩ := open_lists h3
  obtain ⟨o, e4, _, w4⟩ := DataW.trod_int Tryd.underlying25 h4
  injection e4 with e4 _
  subst e4
  obtain ⟨on, rfl, hon⟩ := of_wf64 w4
  refine ⟨⟨T, nt, ct, R, nr, cr, S, ns, cs⟩, ⟨vs, z, gs.map elG, ls.map elL, on⟩, rfl, ⟨ht3, ht1, ht4, ht5, fun hne ad hA => ?_, ⟨gs, hgs, rfl, hgl⟩, ⟨ls, hls, rfl, hll⟩, hon, in64_of_wf w1⟩, fun z hz => ?_⟩
  · obtain ⟨x0, hx0⟩ : ∃ x, vs[0]? = some x := ⟨_, List.getElem?_eq_getElem (List.length_pos_iff.2 hne)⟩
    obtain ⟨b, off, e5, hb, _⟩ := ht5 0 x0 hx0
    simp only at hA
    rw [hA] at e5
    injection e5 with e5
    subst e5
    exact hb
  · rcases Jp.mem_all.1 hz with ⟨y, hy, hz⟩ | ⟨l, hl, hz⟩
    · obtain ⟨e, he, rfl⟩ := List.mem_map.1 hy
      exact wg e he z hz
    · obtain ⟨e, he, rfl⟩ := List.mem_map.1 hl
      exact wl e he z hz
end Go.Proofs.YtmmgackmiemkhaaDoor

