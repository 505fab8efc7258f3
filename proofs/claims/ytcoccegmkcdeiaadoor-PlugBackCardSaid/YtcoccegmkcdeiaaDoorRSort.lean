/- slices.Sort and slices.Compact on a row of the call's own; how many are left tells whether each is there once. -/
import Derived.Test.YtcoccegmkcdeiaaDoorM0
import Derived.Shelf.Sort.Plain
import Derived.Shelf.Slices.In.SortNone
import Derived.Lib.OwnBridge
import Derived.Shelf.Slices.CompactI
namespace Go.Proofs.YtcoccegmkcdeiaaDoor
open Go.Shelf
def laysSort_ren : Ren := ⟨fun | 189 => 79 | 125 => 84 | 257 => 83 | 128 => 94 | 129 => 95 | 294 => 85 | 295 => 86 | 296 => 87 | 297 => 88 | 298 => 89 | 299 => 90 | 216 => 91 | 300 => 92 | 301 => 93 | 328 => 96 | 329 => 97 | 330 => 98 | 331 => 99 | 332 => 100 | 215 => 101 | 343 => 102 | n => n, fun | 28 => 42 | 3 => 3 | 46 => 89 | 0 => 0 | 51 => 115 | 53 => 25 | 4 => 4 | 183 => 107 | 182 => 106 | 131 => 112 | 5 => 5 | 9 => 9 | 218 => 116 | 222 => 120 | 228 => 122 | 229 => 47 | n => n, fun | n => n⟩
theorem laysSort : Lays.n189 Tryd.prog laysSort_ren := {
  mixed := by kernel_rfl
  f125 := Tryd.func84.trans (congrArg some (by kernel_rfl))
  f128 := Tryd.func94.trans (congrArg some (by kernel_rfl))
  f129 := Tryd.func95.trans (congrArg some (by kernel_rfl))
  f189 := Tryd.func79.trans (congrArg some (by kernel_rfl))
  f215 := Tryd.func101.trans (congrArg some (by kernel_rfl))
  f216 := Tryd.func91.trans (congrArg some (by kernel_rfl))
  f257 := Tryd.func83.trans (congrArg some (by kernel_rfl))
  f294 := Tryd.func85.trans (congrArg some (by kernel_rfl))
  f295 := Tryd.func86.trans (congrArg some (by kernel_rfl))
  f296 := Tryd.func87.trans (congrArg some (by kernel_rfl))
  f297 := Tryd.func88.trans (congrArg some (by kernel_rfl))
  f298 := Tryd.func89.trans (congrArg some (by kernel_rfl))
  f299 := Tryd.func90.trans (congrArg some (by kernel_rfl))
  f300 := Tryd.func92.trans (congrArg some (by kernel_rfl))
  f301 := Tryd.func93.trans (congrArg some (by kernel_rfl))
  f328 := Tryd.func96.trans (congrArg some (by kernel_rfl))
  f329 := Tryd.func97.trans (congrArg some (by kernel_rfl))
  f330 := Tryd.func98.trans (congrArg some (by kernel_rfl))
  f331 := Tryd.func99.trans (congrArg some (by kernel_rfl))
  f332 := Tryd.func100.trans (congrArg some (by kernel_rfl))
  f343 := Tryd.func102.trans (congrArg some (by kernel_rfl))
  t0 := Tryd.underlying0
  a0 := Tryd.isAgg0
  z0 := Tryd.sizeOf0
  v0 := Tryd.zeroValue0
  t3 := Tryd.underlying3
  a3 := Tryd.isAgg3
  z3 := Tryd.sizeOf3
  v3 := Tryd.zeroValue3
  t4 := Tryd.underlying4
  a4 := Tryd.isAgg4
  z4 := Tryd.sizeOf4
  v4 := Tryd.zeroValue4
  t5 := Tryd.underlying5
  a5 := Tryd.isAgg5
  z5 := Tryd.sizeOf5
  v5 := Tryd.zeroValue5
  t9 := Tryd.underlying9
  a9 := Tryd.isAgg9
  z9 := Tryd.sizeOf9
  v9 := Tryd.zeroValue9
  t28 := Tryd.underlying42
  a28 := Tryd.isAgg42
  z28 := Tryd.sizeOf42
  v28 := Tryd.zeroValue42
  t46 := Tryd.underlying89
  a46 := Tryd.isAgg89
  z46 := Tryd.sizeOf89
  v46 := Tryd.zeroValue89
  t51 := Tryd.underlying115
  a51 := Tryd.isAgg115
  z51 := Tryd.sizeOf115
  v51 := Tryd.zeroValue115
  t53 := Tryd.underlying25
  a53 := Tryd.isAgg25
  z53 := Tryd.sizeOf25
  v53 := Tryd.zeroValue25
  t131 := Tryd.underlying112
  a131 := Tryd.isAgg112
  z131 := Tryd.sizeOf112
  v131 := Tryd.zeroValue112
  t182 := Tryd.underlying106
  a182 := Tryd.isAgg106
  z182 := Tryd.sizeOf106
  v182 := Tryd.zeroValue106
  t183 := Tryd.underlying107
  a183 := Tryd.isAgg107
  z183 := Tryd.sizeOf107
  v183 := Tryd.zeroValue107
  t218 := Tryd.underlying116
  a218 := Tryd.isAgg116
  z218 := Tryd.sizeOf116
  v218 := Tryd.zeroValue116
  t222 := Tryd.underlying120
  a222 := Tryd.isAgg120
  z222 := Tryd.sizeOf120
  v222 := Tryd.zeroValue120
  t228 := Tryd.underlying122
  a228 := Tryd.isAgg122
  z228 := Tryd.sizeOf122
  v228 := Tryd.zeroValue122
  t229 := Tryd.underlying47
  a229 := Tryd.isAgg47
  z229 := Tryd.sizeOf47
  v229 := Tryd.zeroValue47 }
def laysCompact_ren : Ren := ⟨fun | 20 => 80 | n => n, fun | 22 => 42 | 3 => 3 | 4 => 4 | 0 => 0 | n => n, fun | n => n⟩
theorem laysCompact : Lays2.n20 Tryd.prog laysCompact_ren := {
  mixed := by kernel_rfl
  f20 := Tryd.func80.trans (congrArg some (by kernel_rfl))
  t0 := Tryd.underlying0
  a0 := Tryd.isAgg0
  z0 := Tryd.sizeOf0
  v0 := Tryd.zeroValue0
  t3 := Tryd.underlying3
  a3 := Tryd.isAgg3
  z3 := Tryd.sizeOf3
  v3 := Tryd.zeroValue3
  t4 := Tryd.underlying4
  a4 := Tryd.isAgg4
  z4 := Tryd.sizeOf4
  v4 := Tryd.zeroValue4
  t22 := Tryd.underlying42
  a22 := Tryd.isAgg42
  z22 := Tryd.sizeOf42
  v22 := Tryd.zeroValue42
  i3 := by kernel_rfl }
end Go.Proofs.YtcoccegmkcdeiaaDoor
namespace Go.Proofs.YtcoccegmkcdeiaaDoor
open Go.RowKit Go.Sort
set_option linter.unusedVariables false

def sorted (l : List Int) : List Int := l.mergeSort fun x y => decide (x ≤ y)
theorem sorted_perm (l : List Int) : (sorted l).Perm l := List.mergeSort_perm l _
theorem sorted_length (l : List Int) : (sorted l).length = l.length := (sorted_perm l).length_eq
theorem sorted_le (l : List Int) : (sorted l).Pairwise (· ≤ ·) := by
  have h := List.pairwise_mergeSort (le := fun x y : Int => decide (x ≤ y)) (fun a b c h1 h2 => by simp at *; omega) (fun a b => by simp; omega) l
  exact h.imp fun h => by simpa using h
/-- Nothing is struck out of a sorted row just if each is there once. -/
theorem compact_once (l : List Int) (hl : l.Pairwise (· ≤ ·)) : (Lib.compact l).length = l.length ↔ l.Nodup := by
  have e : (Lib.compact l).length = ((List.range l.length).filter (Lib.keeps l.toArray)).length := by unfold Lib.compact Lib.compactUpTo; rw [List.length_map]
  have g : ∀ j, j < l.length → l.toArray[j]! = l[j]! := fun j hj => by simp [getElem!_pos, hj]
  rw [e]
  constructor
  · intro h
    have h1 : ((List.range l.length).filter (Lib.keeps l.toArray)).length = (List.range l.length).length := by rw [h, List.length_range]
    have h2 := List.length_filter_eq_length_iff.1 h1
    have h3 : ∀ j, j + 1 < l.length → l[j]! ≠ l[j + 1]! := fun j hj he => by
      have := h2 (j + 1) (List.mem_range.2 hj)
      unfold Lib.keeps at this
      rw [g _ hj, Nat.add_sub_cancel, g _ (by omega)] at this
      simp [he] at this
    rw [List.nodup_iff_pairwise_ne, List.pairwise_iff_getElem]
    intro i j hi hj hij hee
    have hle := List.pairwise_iff_getElem.1 hl
    have hne := h3 i (by omega)
    rw [getElem!_pos l i hi, getElem!_pos l (i + 1) (by omega)] at hne
    have p1 := hle i (i + 1) hi (by omega) (by omega)
    have p2 : l[i + 1] ≤ l[j] := by
      by_cases e1 : i + 1 = j
      · subst e1; exact Int.le_refl _
      · exact hle (i + 1) j (by omega) hj (by omega)
    omega
  · intro h
    have h2 : ∀ j ∈ List.range l.length, Lib.keeps l.toArray j = true := fun j hj => by
      rw [List.mem_range] at hj
      unfold Lib.keeps
      rw [decide_eq_true_iff]
      by_cases h0 : j = 0
      · exact .inl h0
      · refine .inr ?_
        rw [g _ hj, g _ (by omega), getElem!_pos l j hj, getElem!_pos l (j - 1) (by omega)]
        rw [List.nodup_iff_pairwise_ne] at h
        exact (List.pairwise_iff_getElem.1 h (j - 1) j (by omega) hj (by omega)).symm
    rw [List.filter_eq_self.2 h2, List.length_range]
/-- The least is above 0, and nothing is struck out: all above 0, each once. -/
theorem once_sorted (l : List Int) (z : Int) (hz : (sorted l)[0]? = some z) : (decide (0 < z) && decide ((Lib.compact (sorted l)).length = l.length)) = decide (Rp.Once l) := by
  have hc := compact_once (sorted l) (sorted_le l)
  rw [sorted_length] at hc
  have hp := sorted_perm l
  rw [show (decide ((Lib.compact (sorted l)).length = l.length)) = decide ((sorted l).Nodup) from decide_eq_decide.2 hc, ← Bool.decide_and]
  rw [decide_eq_decide]
  constructor
  · rintro ⟨h1, h2⟩
    refine ⟨fun x hx => ?_, hp.nodup_iff.1 h2⟩
    have hx' := hp.mem_iff.2 hx
    obtain ⟨i, hi, rfl⟩ := List.getElem_of_mem hx'
    obtain ⟨h0, e0⟩ := List.getElem?_eq_some_iff.1 hz
    by_cases e : i = 0
    · subst e; omega
    · have := List.pairwise_iff_getElem.1 (sorted_le l) 0 i h0 hi (by omega)
      omega
  · rintro ⟨h1, h2⟩
    refine ⟨?_, hp.nodup_iff.2 h2⟩
    have := h1 z (hp.mem_iff.1 (List.mem_of_getElem? hz))
    omega
theorem below_sorted {B : Nat} {w0 w : World} {g n : Nat} {d : Array Int} {os : Array Obj} (h : Below B w0 w) (hg : B ≤ g) (hlt : g < w.heap.size) : Below B w0 (grow (putRow (Value.int .i64) (Sort.ahead w n) g 0 d) os) := by
  have h1 := Lib.below_putRow (enc := Value.int .i64) (q := n) (d := d) h hg
  exact ⟨h1.os, h1.tape, h1.output, Nat.le_trans h1.size (by simp [grow]), fun k hk => by
    rw [← h1.block k hk]
    have := h.size
    exact heap_grow_old _ _ (by simp; omega)⟩
/-- The row, sorted: its cells; and all below as it was. -/
theorem sort_own (g n cap : Nat) (l : List Int) (w : World) (base : Nat) (h : w.ownsRow base 3 1 (.slice (some ⟨g, 0, none⟩) n cap) n (l.map (Value.int .i64))) (hn : n ≤ 1000000) :
    Calls Tryd.prog 79 #[.slice (some ⟨g, 0, none⟩) n cap] w fun e w' => e = .returned (.tuple #[]) ∧ Holds (Value.int .i64) w' g 0 (sorted l).toArray ∧ g < w'.heap.size ∧ Below base w w' := by
  obtain ⟨g', cap', e1, hb, hlt, hnc, hcm, hl, hH⟩ := Lib.holds_of_ownsRow h (by intro e; cases e)
  injection e1 with e1 _ e2
  injection e1 with e1
  injection e1 with e1
  subst e1 e2
  have hc := Any.slices_Sort_int (P := Tryd.prog) laysSort g 0 cap l w hH hlt (by omega)
  rw [hl] at hc
  refine hc.mono ?_
  rintro e w' ⟨rfl, k, os, rfl⟩
  have hH2 : Holds (Value.int .i64) (grow (putRow (Value.int .i64) (Sort.ahead w k) g 0 (sorted l).toArray) os) g 0 (sorted l).toArray :=
    holds_grow _ _ os g 0 _ (by simpa [putRow, mapBlock, Sort.ahead] using hlt) (holds_putRow _ _ g 0 _ _ (holds_ahead _ w k g 0 _ hH) (by simp [sorted_length]))
  exact ⟨rfl, hH2, by simp; omega, below_sorted (Below.refl _ _) hb hlt⟩
theorem compact_own (g n cap : Nat) (l : List Int) (w : World) (hl : l.length = n) (hH : Holds (Value.int .i64) w g 0 l.toArray) (hn : n ≤ 1000000) (hnc : n ≤ cap) :
    Calls Tryd.prog 80 #[.slice (some ⟨g, 0, none⟩) n cap] w fun e w' => e = .returned (.slice (some ⟨g, 0, none⟩) (Lib.compact l).length cap) ∧ ∀ B, B ≤ g → Below B w w' := by
  have hc := Any.slices_Compact_int (P := Tryd.prog) laysCompact g 0 cap l w hH (by omega) (by omega)
  rw [hl] at hc
  refine hc.mono ?_
  rintro e w' ⟨rfl, q, rfl⟩
  exact ⟨rfl, fun B hB => Lib.below_putRow (Below.refl _ _) hB⟩
end Go.Proofs.YtcoccegmkcdeiaaDoor

