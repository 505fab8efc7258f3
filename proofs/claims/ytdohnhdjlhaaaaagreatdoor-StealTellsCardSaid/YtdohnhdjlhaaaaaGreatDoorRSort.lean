/- slices.Sort and slices.Compact on a row of the call's own; how many are left tells whether each is there once. -/
import Derived.Test.YtdohnhdjlhaaaaaGreatDoorM0
import Derived.Shelf.Sort.Plain
import Derived.Shelf.Slices.In.SortNone
import Derived.Lib.OwnBridge
import Derived.Shelf.Slices.CompactI
namespace Go.Proofs.YtdohnhdjlhaaaaaGreatDoor
open Go.Shelf
def laysSort_ren : Ren := ⟨fun | 189 => 105 | 125 => 100 | 257 => 121 | 128 => 117 | 129 => 118 | 294 => 127 | 295 => 128 | 296 => 129 | 297 => 130 | 298 => 131 | 299 => 132 | 216 => 133 | 300 => 134 | 301 => 135 | 328 => 137 | 329 => 123 | 330 => 124 | 331 => 138 | 332 => 139 | 215 => 101 | 343 => 140 | n => n, fun | 28 => 42 | 3 => 3 | 46 => 114 | 0 => 0 | 51 => 129 | 53 => 25 | 4 => 4 | 183 => 123 | 182 => 122 | 131 => 62 | 5 => 5 | 9 => 9 | 218 => 132 | 222 => 136 | 228 => 145 | 229 => 50 | n => n, fun | n => n⟩
theorem laysSort : Lays.n189 Tryz.prog laysSort_ren := {
  mixed := by kernel_rfl
  f125 := Tryz.func100.trans (congrArg some (by kernel_rfl))
  f128 := Tryz.func117.trans (congrArg some (by kernel_rfl))
  f129 := Tryz.func118.trans (congrArg some (by kernel_rfl))
  f189 := Tryz.func105.trans (congrArg some (by kernel_rfl))
  f215 := Tryz.func101.trans (congrArg some (by kernel_rfl))
  f216 := Tryz.func133.trans (congrArg some (by kernel_rfl))
  f257 := Tryz.func121.trans (congrArg some (by kernel_rfl))
  f294 := Tryz.func127.trans (congrArg some (by kernel_rfl))
  f295 := Tryz.func128.trans (congrArg some (by kernel_rfl))
  f296 := Tryz.func129.trans (congrArg some (by kernel_rfl))
  f297 := Tryz.func130.trans (congrArg some (by kernel_rfl))
  f298 := Tryz.func131.trans (congrArg some (by kernel_rfl))
  f299 := Tryz.func132.trans (congrArg some (by kernel_rfl))
  f300 := Tryz.func134.trans (congrArg some (by kernel_rfl))
  f301 := Tryz.func135.trans (congrArg some (by kernel_rfl))
  f328 := Tryz.func137.trans (congrArg some (by kernel_rfl))
  f329 := Tryz.func123.trans (congrArg some (by kernel_rfl))
  f330 := Tryz.func124.trans (congrArg some (by kernel_rfl))
  f331 := Tryz.func138.trans (congrArg some (by kernel_rfl))
  f332 := Tryz.func139.trans (congrArg some (by kernel_rfl))
  f343 := Tryz.func140.trans (congrArg some (by kernel_rfl))
  t0 := Tryz.underlying0
  a0 := Tryz.isAgg0
  z0 := Tryz.sizeOf0
  v0 := Tryz.zeroValue0
  t3 := Tryz.underlying3
  a3 := Tryz.isAgg3
  z3 := Tryz.sizeOf3
  v3 := Tryz.zeroValue3
  t4 := Tryz.underlying4
  a4 := Tryz.isAgg4
  z4 := Tryz.sizeOf4
  v4 := Tryz.zeroValue4
  t5 := Tryz.underlying5
  a5 := Tryz.isAgg5
  z5 := Tryz.sizeOf5
  v5 := Tryz.zeroValue5
  t9 := Tryz.underlying9
  a9 := Tryz.isAgg9
  z9 := Tryz.sizeOf9
  v9 := Tryz.zeroValue9
  t28 := Tryz.underlying42
  a28 := Tryz.isAgg42
  z28 := Tryz.sizeOf42
  v28 := Tryz.zeroValue42
  t46 := Tryz.underlying114
  a46 := Tryz.isAgg114
  z46 := Tryz.sizeOf114
  v46 := Tryz.zeroValue114
  t51 := Tryz.underlying129
  a51 := Tryz.isAgg129
  z51 := Tryz.sizeOf129
  v51 := Tryz.zeroValue129
  t53 := Tryz.underlying25
  a53 := Tryz.isAgg25
  z53 := Tryz.sizeOf25
  v53 := Tryz.zeroValue25
  t131 := Tryz.underlying62
  a131 := Tryz.isAgg62
  z131 := Tryz.sizeOf62
  v131 := Tryz.zeroValue62
  t182 := Tryz.underlying122
  a182 := Tryz.isAgg122
  z182 := Tryz.sizeOf122
  v182 := Tryz.zeroValue122
  t183 := Tryz.underlying123
  a183 := Tryz.isAgg123
  z183 := Tryz.sizeOf123
  v183 := Tryz.zeroValue123
  t218 := Tryz.underlying132
  a218 := Tryz.isAgg132
  z218 := Tryz.sizeOf132
  v218 := Tryz.zeroValue132
  t222 := Tryz.underlying136
  a222 := Tryz.isAgg136
  z222 := Tryz.sizeOf136
  v222 := Tryz.zeroValue136
  t228 := Tryz.underlying145
  a228 := Tryz.isAgg145
  z228 := Tryz.sizeOf145
  v228 := Tryz.zeroValue145
  t229 := Tryz.underlying50
  a229 := Tryz.isAgg50
  z229 := Tryz.sizeOf50
  v229 := Tryz.zeroValue50 }
def laysCompact_ren : Ren := ⟨fun | 20 => 106 | n => n, fun | 22 => 42 | 3 => 3 | 4 => 4 | 0 => 0 | n => n, fun | n => n⟩
theorem laysCompact : Lays2.n20 Tryz.prog laysCompact_ren := {
  mixed := by kernel_rfl
  f20 := Tryz.func106.trans (congrArg some (by kernel_rfl))
  t0 := Tryz.underlying0
  a0 := Tryz.isAgg0
  z0 := Tryz.sizeOf0
  v0 := Tryz.zeroValue0
  t3 := Tryz.underlying3
  a3 := Tryz.isAgg3
  z3 := Tryz.sizeOf3
  v3 := Tryz.zeroValue3
  t4 := Tryz.underlying4
  a4 := Tryz.isAgg4
  z4 := Tryz.sizeOf4
  v4 := Tryz.zeroValue4
  t22 := Tryz.underlying42
  a22 := Tryz.isAgg42
  z22 := Tryz.sizeOf42
  v22 := Tryz.zeroValue42
  i3 := by kernel_rfl }
end Go.Proofs.YtdohnhdjlhaaaaaGreatDoor
namespace Go.Proofs.YtdohnhdjlhaaaaaGreatDoor
open Go.RowKit Go.Sort
set_option linter.unusedVariables false

def sorted (l : List Int) : List Int := l.mergeSort fun x y => decide (x ≤ y)
theorem sorted_perm (l : List Int) : (sorted l).Perm l := List.mergeSort_perm l _
theorem sorted_length (l : List Int) : (sorted l).length = l.length := (sorted_perm l).length_eq
theorem sorted_le (l : List Int) : (sorted l).Pairwise (· ≤ ·) := by
  have h := List.pairwise_mergeSort (le := fun x y : Int => decide (x ≤ y)) (fun a b c h1 h2 => by simp at *; omega) (fun a b => by simp; omega) l
  exact h.imp fun h => by simpa using h
/-- Nothing is struck out of a sorted row just if each is there once. -/
theorem compact_once (l : List Int) (hl : l.Pairwise (· ≤ ·)) : (Lib.compact l).length = l.length ↔ l.Nodup := by
  have e : (Lib.compact l).length = ((List.range l.length).filter (Lib.keeps l.toArray)).length := by unfold Lib.compact Lib.compactUpTo; rw [List.length_map]
  have g : ∀ j, j < l.length → l.toArray[j]! = l[j]! := fun j hj => by simp [getElem!_pos, hj]
  rw [e]
  constructor
  · intro h
    have h1 : ((List.range l.length).filter (Lib.keeps l.toArray)).length = (List.range l.length).length := by rw [h, List.length_range]
    have h2 := List.length_filter_eq_length_iff.1 h1
    have h3 : ∀ j, j + 1 < l.length → l[j]! ≠ l[j + 1]! := fun j hj he => by
      have := h2 (j + 1) (List.mem_range.2 hj)
      unfold Lib.keeps at this
      rw [g _ hj, Nat.add_sub_cancel, g _ (by omega)] at this
      simp [he] at this
    rw [List.nodup_iff_pairwise_ne, List.pairwise_iff_getElem]
    intro i j hi hj hij hee
    have hle := List.pairwise_iff_getElem.1 hl
    have hne := h3 i (by omega)
    rw [getElem!_pos l i hi, getElem!_pos l (i + 1) (by omega)] at hne
    have p1 := hle i (i + 1) hi (by omega) (by omega)
    have p2 : l[i + 1] ≤ l[j] := by
      by_cases e1 : i + 1 = j
      · subst e1; exact Int.le_refl _
      · exact hle (i + 1) j (by omega) hj (by omega)
    omega
  · intro h
    have h2 : ∀ j ∈ List.range l.length, Lib.keeps l.toArray j = true := fun j hj => by
      rw [List.mem_range] at hj
      unfold Lib.keeps
      rw [decide_eq_true_iff]
      by_cases h0 : j = 0
      · exact .inl h0
      · refine .inr ?_
        rw [g _ hj, g _ (by omega), getElem!_pos l j hj, getElem!_pos l (j - 1) (by omega)]
        rw [List.nodup_iff_pairwise_ne] at h
        exact (List.pairwise_iff_getElem.1 h (j - 1) j (by omega) hj (by omega)).symm
    rw [List.filter_eq_self.2 h2, List.length_range]
/-- The least is above 0, and nothing is struck out: all above 0, each once. -/
theorem once_sorted (l : List Int) (z : Int) (hz : (sorted l)[0]? = some z) : (decide (0 < z) && decide ((Lib.compact (sorted l)).length = l.length)) = decide (Rp.Once l) := by
  have hc := compact_once (sorted l) (sorted_le l)
  rw [sorted_length] at hc
  have hp := sorted_perm l
  rw [show (decide ((Lib.compact (sorted l)).length = l.length)) = decide ((sorted l).Nodup) from decide_eq_decide.2 hc, ← Bool.decide_and]
  rw [decide_eq_decide]
  constructor
  · rintro ⟨h1, h2⟩
    refine ⟨fun x hx => ?_, hp.nodup_iff.1 h2⟩
    have hx' := hp.mem_iff.2 hx
    obtain ⟨i, hi, rfl⟩ := List.getElem_of_mem hx'
    obtain ⟨h0, e0⟩ := List.getElem?_eq_some_iff.1 hz
    by_cases e : i = 0
    · subst e; omega
    · have := List.pairwise_iff_getElem.1 (sorted_le l) 0 i h0 hi (by omega)
      omega
  · rintro ⟨h1, h2⟩
    refine ⟨?_, hp.nodup_iff.2 h2⟩
    have := h1 z (hp.mem_iff.1 (List.mem_of_getElem? hz))
    omega
theorem below_sorted {B : Nat} {w0 w : World} {g n : Nat} {d : Array Int} {os : Array Obj} (h : Below B w0 w) (hg : B ≤ g) (hlt : g < w.heap.size) : Below B w0 (grow (putRow (Value.int .i64) (Sort.ahead w n) g 0 d) os) := by
  have h1 := Lib.below_putRow (enc := Value.int .i64) (q := n) (d := d) h hg
  exact ⟨h1.os, h1.tape, h1.output, Nat.le_trans h1.size (by simp [grow]), fun k hk => by
    rw [← h1.block k hk]
    have := h.size
    exact heap_grow_old _ _ (by simp; omega)⟩
/-- The row, sorted: its cells; and all below as it was. -/
theorem sort_own (g n cap : Nat) (l : List Int) (w : World) (base : Nat) (h : w.ownsRow base 3 1 (.slice (some ⟨g, 0, none⟩) n cap) n (l.map (Value.int .i64))) (hn : n ≤ 1000000) :
    Calls Tryz.prog 105 #[.slice (some ⟨g, 0, none⟩) n cap] w fun e w' => e = .returned (.tuple #[]) ∧ Holds (Value.int .i64) w' g 0 (sorted l).toArray ∧ g < w'.heap.size ∧ Below base w w' := by
  obtain ⟨g', cap', e1, hb, hlt, hnc, hcm, hl, hH⟩ := Lib.holds_of_ownsRow h (by intro e; cases e)
  injection e1 with e1 _ e2
  injection e1 with e1
  injection e1 with e1
  subst e1 e2
  have hc := Any.slices_Sort_int (P := Tryz.prog) laysSort g 0 cap l w hH hlt (by omega)
  rw [hl] at hc
  refine hc.mono ?_
  rintro e w' ⟨rfl, k, os, rfl⟩
  have hH2 : Holds (Value.int .i64) (grow (putRow (Value.int .i64) (Sort.ahead w k) g 0 (sorted l).toArray) os) g 0 (sorted l).toArray :=
    holds_grow _ _ os g 0 _ (by simpa [putRow, mapBlock, Sort.ahead] using hlt) (holds_putRow _ _ g 0 _ _ (holds_ahead _ w k g 0 _ hH) (by simp [sorted_length]))
  exact ⟨rfl, hH2, by simp; omega, below_sorted (Below.refl _ _) hb hlt⟩
theorem compact_own (g n cap : Nat) (l : List Int) (w : World) (hl : l.length = n) (hH : Holds (Value.int .i64) w g 0 l.toArray) (hn : n ≤ 1000000) (hnc : n ≤ cap) :
    Calls Tryz.prog 106 #[.slice (some ⟨g, 0, none⟩) n cap] w fun e w' => e = .returned (.slice (some ⟨g, 0, none⟩) (Lib.compact l).length cap) ∧ ∀ B, B ≤ g → Below B w w' := by
  have hc := Any.slices_Compact_int (P := Tryz.prog) laysCompact g 0 cap l w hH (by omega) (by omega)
  rw [hl] at hc
  refine hc.mono ?_
  rintro e w' ⟨rfl, q, rfl⟩
  exact ⟨rfl, fun B hB => Lib.below_putRow (Below.refl _ _) hB⟩
end Go.Proofs.YtdohnhdjlhaaaaaGreatDoor

