/- box.row and box.cut of each kind of row, by their contracts. -/
import Derived.Test.YtjpnfjiccckaiaaOApp
import Derived.BigRegion
namespace Go.Proofs.Ytjpnfjiccckaiaa
open Go.RowKit
set_option linter.unusedVariables false

/-- What a call leaves that has made a row, with the memory that it owns. -/
def MadeT (T : TypeId) (w0 : World) (n : Nat) (zs : List Int) (e : Ending) (w' : World) : Prop :=
  ∃ v, e = .returned v ∧ w'.ownsRow w0.heap.size T 1 v n (zs.map (Value.int .i64)) ∧ Below w0.heap.size w0 w'
def MadeP (T : TypeId) (w0 : World) (n : Nat) (vs : List (Int × Int)) (e : Ending) (w' : World) : Prop :=
  ∃ v, e = .returned v ∧ w'.ownsRow w0.heap.size T 2 v n (vcells vs) ∧ Below w0.heap.size w0 w'
theorem row_int (A : Option Addr) (n c : Nat) (zs : List Int) (w : World) (h : Row w A n c zs) (hn : n ≤ 1000000) :
    Calls Try.prog 29 #[.slice A n c] w (MadeT 3 w n zs) := by
  go_enter Try.func29, Try.ntmps29
  go_wp2_with (at_builtin; refine wpList_append_row rfl _ _ rfl w.heap.size (.slice none 0 0) 0 [] rfl (World.ownsRow_nil _ _ _ _) A n c zs rfl h (by omega) (Nat.le_refl _) ?_)
  intro v1 w1 ho1 hg1
  have hb1 : Below w.heap.size w w1 := (Below.refl _ _).grown hg1 (Nat.le_refl _) (fun k hk => by simp [Value.ownBlock] at hk)
  clear hg1
  go_wp2_with fail
  go_ret
  exact ⟨v1, rfl, ho1, hb1⟩
theorem row_i64 (A : Option Addr) (n c : Nat) (zs : List Int) (w : World) (h : Row w A n c zs) (hn : n ≤ 1000000) :
    Calls Try.prog 32 #[.slice A n c] w (MadeT 2 w n zs) := by
  go_enter Try.func32, Try.ntmps32
  go_wp2_with (at_builtin; refine wpList_append_row64 rfl _ _ rfl w.heap.size (.slice none 0 0) 0 [] rfl (World.ownsRow_nil _ _ _ _) A n c zs rfl h (by omega) (Nat.le_refl _) ?_)
  intro v1 w1 ho1 hg1
  have hb1 : Below w.heap.size w w1 := (Below.refl _ _).grown hg1 (Nat.le_refl _) (fun k hk => by simp [Value.ownBlock] at hk)
  clear hg1
  go_wp2_with fail
  go_ret
  exact ⟨v1, rfl, ho1, hb1⟩
theorem row_mail (A : Option Addr) (n c : Nat) (vs : List (Int × Int)) (w : World) (h : PR w A n c vs) (hn : n ≤ 1000000) :
    Calls Try.prog 33 #[.slice A n c] w (MadeP 52 w n vs) := by
  go_enter Try.func33, Try.ntmps33
  go_wp2_with (at_builtin; refine wpList_append_mail rfl _ _ rfl w.heap.size (.slice none 0 0) 0 [] rfl (World.ownsRow_nil _ _ _ _) A n c vs rfl h (by omega) (Nat.le_refl _) ?_)
  intro v1 w1 ho1 hg1
  have hb1 : Below w.heap.size w w1 := (Below.refl _ _).grown hg1 (Nat.le_refl _) (fun k hk => by simp [Value.ownBlock] at hk)
  clear hg1
  go_wp2_with fail
  go_ret
  exact ⟨v1, rfl, ho1, hb1⟩
theorem cut_int0 (A : Option Addr) (c : Nat) (w : World) :
    Calls Try.prog 25 #[.slice A 0 c] w fun e w' => e = .returned (.tuple #[.int .i64 0, .slice none 0 0, .bool false]) ∧ Below w.heap.size w w' := by
  go_enter Try.func25, Try.ntmps25
  go_wp2_with fail
  refine bodyPost_ret (v := .tuple #[.int .i64 0, .slice none 0 0, .bool false]) (by simp [results, Try.results25, go_sem]) rfl ?_
  exact ⟨rfl, Below.refl _ _⟩
theorem cut_int1 (z : Int) (b off n c : Nat) (w : World) (hn : 1 ≤ n) (hnc : n ≤ c) (hm : c ≤ 9223372036854775807) (hc : w.cell? ⟨b, off, none⟩ = some (.int .i64 z)) :
    Calls Try.prog 25 #[.slice (some ⟨b, off, none⟩) n c] w fun e w' => e = .returned (.tuple #[.int .i64 z, .slice (if c = 1 then some ⟨b, off, none⟩ else some ⟨b, off + 1, none⟩) (n - 1) (c - 1), .bool true]) ∧ Below w.heap.size w w' := by
  have hn0 : 0 < n := by omega
  have hn1 : (0 : Int) < (n : Int) := by omega
  have hn2 : ((n : Int) == 0) = false := by rw [beq_eq_false_iff_ne]; omega
  have hn3 : (n : Int) ≤ (c : Int) := by omega
  have hn4 : (1 : Int) ≤ (c : Int) := by omega
  have hn5 : (1 : Int) ≤ (n : Int) := by omega
  have hn6 : 1 ≤ c := by omega
  by_cases h1 : c = 1
  · subst h1
    obtain rfl : n = 1 := by omega
    rw [if_pos rfl]
    go_enter Try.func25, Try.ntmps25
    go_wp2_with fail
    go_quiet (fail)
    go_wp2_with fail
    refine bodyPost_ret (v := .tuple #[.int .i64 z, .slice (some ⟨b, off, none⟩) 0 0, .bool true]) (by simp [results, Try.results25, go_sem]) rfl ?_
    exact ⟨rfl, below_drewN (Below.refl _ _) _⟩
  · rw [if_neg h1]
    go_enter Try.func25, Try.ntmps25
    go_wp2_with fail
    go_quiet (fail)
    go_wp2_with fail
    refine bodyPost_ret (v := .tuple #[.int .i64 z, .slice (some ⟨b, off + 1, none⟩) (n - 1) (c - 1), .bool true]) (by simp [results, Try.results25, go_sem]) rfl ?_
    exact ⟨rfl, below_drewN (Below.refl _ _) _⟩
theorem cut_i640 (A : Option Addr) (c : Nat) (w : World) :
    Calls Try.prog 27 #[.slice A 0 c] w fun e w' => e = .returned (.tuple #[.int .i64 0, .slice none 0 0, .bool false]) ∧ Below w.heap.size w w' := by
  go_enter Try.func27, Try.ntmps27
  go_wp2_with fail
  refine bodyPost_ret (v := .tuple #[.int .i64 0, .slice none 0 0, .bool false]) (by simp [results, Try.results27, go_sem]) rfl ?_
  exact ⟨rfl, Below.refl _ _⟩
theorem cut_i641 (z : Int) (b off n c : Nat) (w : World) (hn : 1 ≤ n) (hnc : n ≤ c) (hm : c ≤ 9223372036854775807) (hc : w.cell? ⟨b, off, none⟩ = some (.int .i64 z)) :
    Calls Try.prog 27 #[.slice (some ⟨b, off, none⟩) n c] w fun e w' => e = .returned (.tuple #[.int .i64 z, .slice (if c = 1 then some ⟨b, off, none⟩ else some ⟨b, off + 1, none⟩) (n - 1) (c - 1), .bool true]) ∧ Below w.heap.size w w' := by
  have hn0 : 0 < n := by omega
  have hn1 : (0 : Int) < (n : Int) := by omega
  have hn2 : ((n : Int) == 0) = false := by rw [beq_eq_false_iff_ne]; omega
  have hn3 : (n : Int) ≤ (c : Int) := by omega
  have hn4 : (1 : Int) ≤ (c : Int) := by omega
  have hn5 : (1 : Int) ≤ (n : Int) := by omega
  have hn6 : 1 ≤ c := by omega
  by_cases h1 : c = 1
  · subst h1
    obtain rfl : n = 1 := by omega
    rw [if_pos rfl]
    go_enter Try.func27, Try.ntmps27
    go_wp2_with fail
    go_quiet (fail)
    go_wp2_with fail
    refine bodyPost_ret (v := .tuple #[.int .i64 z, .slice (some ⟨b, off, none⟩) 0 0, .bool true]) (by simp [results, Try.results27, go_sem]) rfl ?_
    exact ⟨rfl, below_drewN (Below.refl _ _) _⟩
  · rw [if_neg h1]
    go_enter Try.func27, Try.ntmps27
    go_wp2_with fail
    go_quiet (fail)
    go_wp2_with fail
    refine bodyPost_ret (v := .tuple #[.int .i64 z, .slice (some ⟨b, off + 1, none⟩) (n - 1) (c - 1), .bool true]) (by simp [results, Try.results27, go_sem]) rfl ?_
    exact ⟨rfl, below_drewN (Below.refl _ _) _⟩
/-- The place of a result of two cells, just made. -/
structure Pl (w W : World) (x y : Value) : Prop where
  c0 : W.cell? ⟨w.heap.size, 0, none⟩ = some x
  c1 : W.cell? ⟨w.heap.size, 1, none⟩ = some y
  f0 : W.frozen? ⟨w.heap.size, 0, none⟩ = false
  f1 : W.frozen? ⟨w.heap.size, 1, none⟩ = false
  b : Below w.heap.size w W
theorem Pl.start (w : World) (x y : Value) (T : TypeId) : ∃ W, W = w.alloc (.cells #[x, y] T) ∧ Pl w W x y := by
  refine ⟨_, rfl, ?_, ?_, ?_, ?_, below_new w _⟩
  · rw [World.cell?_alloc_at _ _ _ _ rfl]; rfl
  · rw [World.cell?_alloc_at _ _ _ _ rfl]; rfl
  · rw [World.frozen?_alloc_at _ _ _ _ rfl]
  · rw [World.frozen?_alloc_at _ _ _ _ rfl]
theorem cut_mail0 (A : Option Addr) (c : Nat) (w : World) :
    Calls Try.prog 26 #[.slice A 0 c] w fun e w' => e = .returned (.tuple #[.agg #[.int .i64 0, .int .i64 0], .slice none 0 0, .bool false]) ∧ Below w.heap.size w w' := by
  go_enter Try.func26, Try.ntmps26
  go_wp2_with fail
  refine bodyPost_ret (v := .tuple #[.agg #[.int .i64 0, .int .i64 0], .slice none 0 0, .bool false]) ?_ rfl ?_
  · simp [results, Try.results26, go_sem]
  exact ⟨rfl, ((Below.refl _ _).alloc (Nat.le_refl _) _).alloc (by simp) _⟩
theorem cut_mail1 (z : Int × Int) (b off n c : Nat) (w : World) (hn : 1 ≤ n) (hnc : n ≤ c) (hm : c ≤ 9223372036854775807) (hc : w.cell? ⟨b, off, none⟩ = some (.int .i64 z.1)) (hd : w.cell? ⟨b, off + 1, none⟩ = some (.int .i64 z.2)) :
    Calls Try.prog 26 #[.slice (some ⟨b, off, none⟩) n c] w fun e w' => e = .returned (.tuple #[.agg #[.int .i64 z.1, .int .i64 z.2], .slice (if c = 1 then some ⟨b, off, none⟩ else some ⟨b, off + 2, none⟩) (n - 1) (c - 1), .bool true]) ∧ Below w.heap.size w w' := by
  have hn0 : 0 < n := by omega
  have hn1 : (0 : Int) < (n : Int) := by omega
  have hn2 : ((n : Int) == 0) = false := by rw [beq_eq_false_iff_ne]; omega
  have hn3 : (n : Int) ≤ (c : Int) := by omega
  have hn4 : (1 : Int) ≤ (c : Int) := by omega
  have hn5 : (1 : Int) ≤ (n : Int) := by omega
  have hn6 : 1 ≤ c := by omega
  obtain ⟨W0, hW0, hP0⟩ := Pl.start w (.int .i64 0) (.int .i64 0) 52
  have c0 := keepcell hP0.b hc
  have c1 := keepcell hP0.b hd
  have r0 := hP0.c0
  have r1 := hP0.c1
  have g0 := hP0.f0
  have g1 := hP0.f1
  have P0 := Lib.hid hP0
  have E0 := Lib.hid hW0
  clear hP0 hW0 hc hd
  by_cases h1 : c = 1
  · subst h1
    obtain rfl : n = 1 := by omega
    rw [if_pos rfl]
    go_enter Try.func26, Try.ntmps26
    go_wp2_with fail
    rw [← E0.out]
    clear E0
    go_region
    go_wp2_with fail
    obtain ⟨_, k1⟩ := told2 (W := W0) (u := .int .i64 z.1) (v := .int .i64 z.2) (P0.out.c0) (P0.out.c1)
    have k2 : (W0.setCell ⟨w.heap.size, 0, none⟩ (.int .i64 z.1)).cell? ⟨w.heap.size, 0, none⟩ = some (.int .i64 z.1) := World.cell?_setCell_same' _ _ _ (by rw [P0.out.c0]; rfl)
    refine bodyPost_ret (v := .tuple #[.agg #[.int .i64 z.1, .int .i64 z.2], .slice (some ⟨b, off, none⟩) 0 0, .bool true]) ?_ rfl ?_
    · simp [results, Try.results26, go_sem, k1, k2]
    exact ⟨rfl, ((P0.out.b.setCell (Nat.le_refl _) _).setCell (Nat.le_refl _) _).drew⟩
  · rw [if_neg h1]
    go_enter Try.func26, Try.ntmps26
    go_wp2_with fail
    rw [← E0.out]
    clear E0
    go_region
    go_wp2_with fail
    obtain ⟨_, k1⟩ := told2 (W := W0) (u := .int .i64 z.1) (v := .int .i64 z.2) (P0.out.c0) (P0.out.c1)
    have k2 : (W0.setCell ⟨w.heap.size, 0, none⟩ (.int .i64 z.1)).cell? ⟨w.heap.size, 0, none⟩ = some (.int .i64 z.1) := World.cell?_setCell_same' _ _ _ (by rw [P0.out.c0]; rfl)
    refine bodyPost_ret (v := .tuple #[.agg #[.int .i64 z.1, .int .i64 z.2], .slice (some ⟨b, off + 2, none⟩) (n - 1) (c - 1), .bool true]) ?_ rfl ?_
    · simp [results, Try.results26, go_sem, k1, k2]
    exact ⟨rfl, ((P0.out.b.setCell (Nat.le_refl _) _).setCell (Nat.le_refl _) _).drew⟩
end Go.Proofs.Ytjpnfjiccckaiaa

