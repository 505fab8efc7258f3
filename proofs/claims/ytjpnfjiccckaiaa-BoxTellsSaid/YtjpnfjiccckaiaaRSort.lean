/- slices.Sort and slices.Compact on a row of the call's own; how many are left tells whether each is there once. -/
import Derived.Test.YtjpnfjiccckaiaaRRow
import Derived.Shelf.Sort.Plain
import Derived.Shelf.Slices.In.SortNone
import Derived.Lib.OwnBridge
import Derived.Shelf.Slices.CompactI
namespace Go.Proofs.Ytjpnfjiccckaiaa
open Go.Shelf
def laysSort_ren : Ren := ⟨fun | 189 => 21 | 125 => 31 | 257 => 30 | 128 => 43 | 129 => 44 | 294 => 34 | 295 => 35 | 296 => 36 | 297 => 37 | 298 => 38 | 299 => 39 | 216 => 40 | 300 => 41 | 301 => 42 | 328 => 45 | 329 => 46 | 330 => 47 | 331 => 48 | 332 => 49 | 215 => 50 | 343 => 51 | n => n, fun | 28 => 24 | 3 => 3 | 46 => 67 | 0 => 0 | 51 => 80 | 53 => 82 | 4 => 4 | 183 => 72 | 182 => 71 | 131 => 77 | 5 => 5 | 9 => 9 | 218 => 83 | 222 => 87 | 228 => 90 | 229 => 91 | n => n, fun | n => n⟩
theorem laysSort : Lays.n189 Try.prog laysSort_ren := {
  mixed := by kernel_rfl
  f125 := Try.func31.trans (congrArg some (by kernel_rfl))
  f128 := Try.func43.trans (congrArg some (by kernel_rfl))
  f129 := Try.func44.trans (congrArg some (by kernel_rfl))
  f189 := Try.func21.trans (congrArg some (by kernel_rfl))
  f215 := Try.func50.trans (congrArg some (by kernel_rfl))
  f216 := Try.func40.trans (congrArg some (by kernel_rfl))
  f257 := Try.func30.trans (congrArg some (by kernel_rfl))
  f294 := Try.func34.trans (congrArg some (by kernel_rfl))
  f295 := Try.func35.trans (congrArg some (by kernel_rfl))
  f296 := Try.func36.trans (congrArg some (by kernel_rfl))
  f297 := Try.func37.trans (congrArg some (by kernel_rfl))
  f298 := Try.func38.trans (congrArg some (by kernel_rfl))
  f299 := Try.func39.trans (congrArg some (by kernel_rfl))
  f300 := Try.func41.trans (congrArg some (by kernel_rfl))
  f301 := Try.func42.trans (congrArg some (by kernel_rfl))
  f328 := Try.func45.trans (congrArg some (by kernel_rfl))
  f329 := Try.func46.trans (congrArg some (by kernel_rfl))
  f330 := Try.func47.trans (congrArg some (by kernel_rfl))
  f331 := Try.func48.trans (congrArg some (by kernel_rfl))
  f332 := Try.func49.trans (congrArg some (by kernel_rfl))
  f343 := Try.func51.trans (congrArg some (by kernel_rfl))
  t0 := Try.underlying0
  a0 := Try.isAgg0
  z0 := Try.sizeOf0
  v0 := Try.zeroValue0
  t3 := Try.underlying3
  a3 := Try.isAgg3
  z3 := Try.sizeOf3
  v3 := Try.zeroValue3
  t4 := Try.underlying4
  a4 := Try.isAgg4
  z4 := Try.sizeOf4
  v4 := Try.zeroValue4
  t5 := Try.underlying5
  a5 := Try.isAgg5
  z5 := Try.sizeOf5
  v5 := Try.zeroValue5
  t9 := Try.underlying9
  a9 := Try.isAgg9
  z9 := Try.sizeOf9
  v9 := Try.zeroValue9
  t28 := Try.underlying24
  a28 := Try.isAgg24
  z28 := Try.sizeOf24
  v28 := Try.zeroValue24
  t46 := Try.underlying67
  a46 := Try.isAgg67
  z46 := Try.sizeOf67
  v46 := Try.zeroValue67
  t51 := Try.underlying80
  a51 := Try.isAgg80
  z51 := Try.sizeOf80
  v51 := Try.zeroValue80
  t53 := Try.underlying82
  a53 := Try.isAgg82
  z53 := Try.sizeOf82
  v53 := Try.zeroValue82
  t131 := Try.underlying77
  a131 := Try.isAgg77
  z131 := Try.sizeOf77
  v131 := Try.zeroValue77
  t182 := Try.underlying71
  a182 := Try.isAgg71
  z182 := Try.sizeOf71
  v182 := Try.zeroValue71
  t183 := Try.underlying72
  a183 := Try.isAgg72
  z183 := Try.sizeOf72
  v183 := Try.zeroValue72
  t218 := Try.underlying83
  a218 := Try.isAgg83
  z218 := Try.sizeOf83
  v218 := Try.zeroValue83
  t222 := Try.underlying87
  a222 := Try.isAgg87
  z222 := Try.sizeOf87
  v222 := Try.zeroValue87
  t228 := Try.underlying90
  a228 := Try.isAgg90
  z228 := Try.sizeOf90
  v228 := Try.zeroValue90
  t229 := Try.underlying91
  a229 := Try.isAgg91
  z229 := Try.sizeOf91
  v229 := Try.zeroValue91 }
def laysCompact_ren : Ren := ⟨fun | 20 => 22 | n => n, fun | 22 => 24 | 3 => 3 | 4 => 4 | 0 => 0 | n => n, fun | n => n⟩
theorem laysCompact : Lays2.n20 Try.prog laysCompact_ren := {
  mixed := by kernel_rfl
  f20 := Try.func22.trans (congrArg some (by kernel_rfl))
  t0 := Try.underlying0
  a0 := Try.isAgg0
  z0 := Try.sizeOf0
  v0 := Try.zeroValue0
  t3 := Try.underlying3
  a3 := Try.isAgg3
  z3 := Try.sizeOf3
  v3 := Try.zeroValue3
  t4 := Try.underlying4
  a4 := Try.isAgg4
  z4 := Try.sizeOf4
  v4 := Try.zeroValue4
  t22 := Try.underlying24
  a22 := Try.isAgg24
  z22 := Try.sizeOf24
  v22 := Try.zeroValue24
  i3 := by kernel_rfl }
end Go.Proofs.Ytjpnfjiccckaiaa
namespace Go.Proofs.Ytjpnfjiccckaiaa
open Go.RowKit Go.Sort
set_option linter.unusedVariables false

def sorted (l : List Int) : List Int := l.mergeSort fun x y => decide (x ≤ y)
theorem sorted_perm (l : List Int) : (sorted l).Perm l := List.mergeSort_perm l _
theorem sorted_length (l : List Int) : (sorted l).length = l.length := (sorted_perm l).length_eq
theorem sorted_le (l : List Int) : (sorted l).Pairwise (· ≤ ·) := by
  have h := List.pairwise_mergeSort (le := fun x y : Int => decide (x ≤ y)) (fun a b c h1 h2 => by simp at *; omega) (fun a b => by simp; omega) l
  exact h.imp fun h => by simpa using h
/-- Nothing is struck out of a sorted row just if each is there once. -/
theorem compact_once (l : List Int) (hl : l.Pairwise (· ≤ ·)) : (Lib.compact l).length = l.length ↔ l.Nodup := by
  have e : (Lib.compact l).length = ((List.range l.length).filter (Lib.keeps l.toArray)).length := by unfold Lib.compact Lib.compactUpTo; rw [List.length_map]
  have g : ∀ j, j < l.length → l.toArray[j]! = l[j]! := fun j hj => by simp [getElem!_pos, hj]
  rw [e]
  constructor
  · intro h
    have h1 : ((List.range l.length).filter (Lib.keeps l.toArray)).length = (List.range l.length).length := by rw [h, List.length_range]
    have h2 := List.length_filter_eq_length_iff.1 h1
    have h3 : ∀ j, j + 1 < l.length → l[j]! ≠ l[j + 1]! := fun j hj he => by
      have := h2 (j + 1) (List.mem_range.2 hj)
      unfold Lib.keeps at this
      rw [g _ hj, Nat.add_sub_cancel, g _ (by omega)] at this
      simp [he] at this
    rw [List.nodup_iff_pairwise_ne, List.pairwise_iff_getElem]
    intro i j hi hj hij hee
    have hle := List.pairwise_iff_getElem.1 hl
    have hne := h3 i (by omega)
    rw [getElem!_pos l i hi, getElem!_pos l (i + 1) (by omega)] at hne
    have p1 := hle i (i + 1) hi (by omega) (by omega)
    have p2 : l[i + 1] ≤ l[j] := by
      by_cases e1 : i + 1 = j
      · subst e1; exact Int.le_refl _
      · exact hle (i + 1) j (by omega) hj (by omega)
    omega
  · intro h
    have h2 : ∀ j ∈ List.range l.length, Lib.keeps l.toArray j = true := fun j hj => by
      rw [List.mem_range] at hj
      unfold Lib.keeps
      rw [decide_eq_true_iff]
      by_cases h0 : j = 0
      · exact .inl h0
      · refine .inr ?_
        rw [g _ hj, g _ (by omega), getElem!_pos l j hj, getElem!_pos l (j - 1) (by omega)]
        rw [List.nodup_iff_pairwise_ne] at h
        exact (List.pairwise_iff_getElem.1 h (j - 1) j (by omega) hj (by omega)).symm
    rw [List.filter_eq_self.2 h2, List.length_range]
/-- The least is above 0, and nothing is struck out: all above 0, each once. -/
theorem once_sorted (l : List Int) (z : Int) (hz : (sorted l)[0]? = some z) : (decide (0 < z) && decide ((Lib.compact (sorted l)).length = l.length)) = decide (Rp.Once l) := by
  have hc := compact_once (sorted l) (sorted_le l)
  rw [sorted_length] at hc
  have hp := sorted_perm l
  rw [show (decide ((Lib.compact (sorted l)).length = l.length)) = decide ((sorted l).Nodup) from decide_eq_decide.2 hc, ← Bool.decide_and]
  rw [decide_eq_decide]
  constructor
  · rintro ⟨h1, h2⟩
    refine ⟨fun x hx => ?_, hp.nodup_iff.1 h2⟩
    have hx' := hp.mem_iff.2 hx
    obtain ⟨i, hi, rfl⟩ := List.getElem_of_mem hx'
    obtain ⟨h0, e0⟩ := List.getElem?_eq_some_iff.1 hz
    by_cases e : i = 0
    · subst e; omega
    · have := List.pairwise_iff_getElem.1 (sorted_le l) 0 i h0 hi (by omega)
      omega
  · rintro ⟨h1, h2⟩
    refine ⟨?_, hp.nodup_iff.2 h2⟩
    have := h1 z (hp.mem_iff.1 (List.mem_of_getElem? hz))
    omega
theorem below_sorted {B : Nat} {w0 w : World} {g n : Nat} {d : Array Int} {os : Array Obj} (h : Below B w0 w) (hg : B ≤ g) (hlt : g < w.heap.size) : Below B w0 (grow (putRow (Value.int .i64) (Sort.ahead w n) g 0 d) os) := by
  have h1 := Lib.below_putRow (enc := Value.int .i64) (q := n) (d := d) h hg
  exact ⟨h1.os, h1.tape, h1.output, Nat.le_trans h1.size (by simp [grow]), fun k hk => by
    rw [← h1.block k hk]
    have := h.size
    exact heap_grow_old _ _ (by simp; omega)⟩
/-- The row, sorted: its cells; and all below as it was. -/
theorem sort_own (g n cap : Nat) (l : List Int) (w : World) (base : Nat) (h : w.ownsRow base 3 1 (.slice (some ⟨g, 0, none⟩) n cap) n (l.map (Value.int .i64))) (hn : n ≤ 1000000) :
    Calls Try.prog 21 #[.slice (some ⟨g, 0, none⟩) n cap] w fun e w' => e = .returned (.tuple #[]) ∧ Holds (Value.int .i64) w' g 0 (sorted l).toArray ∧ g < w'.heap.size ∧ Below base w w' := by
  obtain ⟨g', cap', e1, hb, hlt, hnc, hcm, hl, hH⟩ := Lib.holds_of_ownsRow h (by intro e; cases e)
  injection e1 with e1 _ e2
  injection e1 with e1
  injection e1 with e1
  subst e1 e2
  have hc := Any.slices_Sort_int (P := Try.prog) laysSort g 0 cap l w hH hlt (by omega)
  rw [hl] at hc
  refine hc.mono ?_
  rintro e w' ⟨rfl, k, os, rfl⟩
  have hH2 : Holds (Value.int .i64) (grow (putRow (Value.int .i64) (Sort.ahead w k) g 0 (sorted l).toArray) os) g 0 (sorted l).toArray :=
    holds_grow _ _ os g 0 _ (by simpa [putRow, mapBlock, Sort.ahead] using hlt) (holds_putRow _ _ g 0 _ _ (holds_ahead _ w k g 0 _ hH) (by simp [sorted_length]))
  exact ⟨rfl, hH2, by simp; omega, below_sorted (Below.refl _ _) hb hlt⟩
theorem compact_own (g n cap : Nat) (l : List Int) (w : World) (hl : l.length = n) (hH : Holds (Value.int .i64) w g 0 l.toArray) (hn : n ≤ 1000000) (hnc : n ≤ cap) :
    Calls Try.prog 22 #[.slice (some ⟨g, 0, none⟩) n cap] w fun e w' => e = .returned (.slice (some ⟨g, 0, none⟩) (Lib.compact l).length cap) ∧ ∀ B, B ≤ g → Below B w w' := by
  have hc := Any.slices_Compact_int (P := Try.prog) laysCompact g 0 cap l w hH (by omega) (by omega)
  rw [hl] at hc
  refine hc.mono ?_
  rintro e w' ⟨rfl, q, rfl⟩
  exact ⟨rfl, fun B hB => Lib.below_putRow (Below.refl _ _) hB⟩
end Go.Proofs.Ytjpnfjiccckaiaa

