/- The closure by which dist.Near sorts: of two others which is ahead, by two keys; by its contract. -/
import Derived.Test.YtmmgackmiemkhaaDoorM3
import Derived.Deep.RegionHeld3
namespace Go.Proofs.YtmmgackmiemkhaaDoor
open Go.RowKit Go.Sort
set_option linter.unusedVariables false

theorem or_new (c : Nat) (x y : Int) (W : World) (t : TypeId) :
    Calls Tryd.prog 43 #[.slice (some ⟨W.heap.size, 0, none⟩) 2 c] (W.alloc (.cells #[.int .i64 x, .int .i64 y] t)) fun e w' => e = .returned (.int .i64 (Dp.orI x y)) ∧ w' = W.alloc (.cells #[.int .i64 x, .int .i64 y] t) :=
  or_any W.heap.size 0 c x y _ (by rw [World.cell?_alloc_at _ _ _ _ rfl]; rfl) (by rw [World.cell?_alloc_at _ _ _ _ rfl]; rfl)
/-- What the closures of Near have captured. -/
structure Caps (w : World) (B : Nat) (A A1 : Option Addr) (n c m c1 : Nat) (vs : List (Int × Int)) (p : Int) (bT bP bp bN bF bS : Nat) : Prop where
  tv : VRow w B A vs
  ps : IRow w B A1 (procsIf vs)
  cT : w.cell? ⟨bT, 0, none⟩ = some (.slice A n c)
  cP : w.cell? ⟨bP, 0, none⟩ = some (.slice A1 m c1)
  cp : w.cell? ⟨bp, 0, none⟩ = some (.int .i64 p)
  cN : w.cell? ⟨bN, 0, none⟩ = some (.int .i64 m)
  cF : w.cell? ⟨bF, 0, none⟩ = some (.func (.func 39) #[] #[.pointer (some ⟨bT, 0, none⟩), .pointer (some ⟨bP, 0, none⟩), .pointer (some ⟨bp, 0, none⟩)])
  cS : w.cell? ⟨bS, 0, none⟩ = some (.func (.func 40) #[] #[.pointer (some ⟨bp, 0, none⟩), .pointer (some ⟨bN, 0, none⟩)])

set_option maxHeartbeats 4000000 in
set_option maxRecDepth 100000 in
theorem ahead_any (A A1 : Option Addr) (n c m c1 : Nat) (vs : List (Int × Int)) (p x y : Int) (bT bP bp bN bF bS : Nat) (w : World) (B : Nat)
    (hn : Hid (vs.length = n)) (hl : n ≤ 9223372036854775807) (hm : Hid (Dp.procsN vs = m)) (hml : m ≤ 64)
    (K : Hid (Caps w B A A1 n c m c1 vs p bT bP bp bN bF bS))
    (p0 : 0 ≤ p) (p1 : p < m) (x0 : 0 ≤ x) (x1 : x < m) (y0 : 0 ≤ y) (y1 : y < m) :
    Calls Tryd.prog 42 #[.int .i64 x, .int .i64 y, .pointer (some ⟨bF, 0, none⟩), .pointer (some ⟨bS, 0, none⟩)] w fun e w' => e = .returned (.int .i64 (Dp.cfI vs p m x y)) ∧ ∃ q os, w' = grow (w.drewN q) os := by
  have cF := K.out.cF
  have cS := K.out.cS
  have HC : Hid (Dp.cfI vs p m x y = Dp.orI (Dp.cmpI (Dp.far vs p x) (Dp.far vs p y)) (Dp.cmpI (Dp.steps p m x) (Dp.steps p m y))) := Lib.hid rfl
  have F : Hid (∀ (z : Int) (W : World), 0 ≤ z → z < m → W.heap = w.heap → Calls Tryd.prog 39 #[.int .i64 z, .pointer (some ⟨bT, 0, none⟩), .pointer (some ⟨bP, 0, none⟩), .pointer (some ⟨bp, 0, none⟩)] W fun e w' => e = .returned (.int .i64 (Dp.far vs p z)) ∧ ∃ k, w' = W.drewN k) :=
    Lib.hid (fun z W z0 z1 hW => by
      have hc : ∀ a, W.cell? a = w.cell? a := fun a => by unfold World.cell?; rw [hW]
      exact farOf_quiet A A1 n c m c1 vs p z bT bP bp W B hn hl (K.out.tv.keep fun a _ => hc a) (K.out.ps.keep fun a _ => hc a) hm hml ((hc _).trans K.out.cT) ((hc _).trans K.out.cP) ((hc _).trans K.out.cp) p0 p1 z0 z1)
  have S : Hid (∀ (z : Int) (W : World), 0 ≤ z → z < m → W.heap = w.heap → Calls Tryd.prog 40 #[.int .i64 z, .pointer (some ⟨bp, 0, none⟩), .pointer (some ⟨bN, 0, none⟩)] W fun e w' => e = .returned (.int .i64 (Dp.steps p m z)) ∧ w' = W) :=
    Lib.hid (fun z W z0 z1 hW => by
      have hc : ∀ a, W.cell? a = w.cell? a := fun a => by unfold World.cell?; rw [hW]
      exact stepsOf_any m p z bp bN W hml ((hc _).trans K.out.cp) ((hc _).trans K.out.cN) p0 p1 z0 z1)
  have FX : Hid (∀ W : World, W.heap = w.heap → Calls Tryd.prog 39 #[.int .i64 x, .pointer (some ⟨bT, 0, none⟩), .pointer (some ⟨bP, 0, none⟩), .pointer (some ⟨bp, 0, none⟩)] W fun e w' => e = .returned (.int .i64 (Dp.far vs p x)) ∧ ∃ k, w' = W.drewN k) := Lib.hid fun W => F.out x W x0 x1
  have FY : Hid (∀ W : World, W.heap = w.heap → Calls Tryd.prog 39 #[.int .i64 y, .pointer (some ⟨bT, 0, none⟩), .pointer (some ⟨bP, 0, none⟩), .pointer (some ⟨bp, 0, none⟩)] W fun e w' => e = .returned (.int .i64 (Dp.far vs p y)) ∧ ∃ k, w' = W.drewN k) := Lib.hid fun W => F.out y W y0 y1
  have SX : Hid (∀ W : World, W.heap = w.heap → Calls Tryd.prog 40 #[.int .i64 x, .pointer (some ⟨bp, 0, none⟩), .pointer (some ⟨bN, 0, none⟩)] W fun e w' => e = .returned (.int .i64 (Dp.steps p m x)) ∧ w' = W) := Lib.hid fun W => S.out x W x0 x1
  have SY : Hid (∀ W : World, W.heap = w.heap → Calls Tryd.prog 40 #[.int .i64 y, .pointer (some ⟨bp, 0, none⟩), .pointer (some ⟨bN, 0, none⟩)] W fun e w' => e = .returned (.int .i64 (Dp.steps p m y)) ∧ w' = W) := Lib.hid fun W => S.out y W y0 y1
  clear F S K hm hn
  generalize Dp.cfI vs p m x y = r at *
  generalize Dp.far vs p x = fx at *
  generalize Dp.far vs p y = fy at *
  generalize Dp.steps p m x = sx at *
  generalize Dp.steps p m y = sy at *
  clear p0 p1 x0 x1 y0 y1 hl hml
  go_enter Tryd.func42, Tryd.ntmps42
  go_wp2_with fail
  go_region_held3 (fun w' => w'.cell? ⟨bF, 0, none⟩ = some (.func (.func 39) #[] #[.pointer (some ⟨bT, 0, none⟩), .pointer (some ⟨bP, 0, none⟩), .pointer (some ⟨bp, 0, none⟩)]) ∧ w'.cell? ⟨bS, 0, none⟩ = some (.func (.func 40) #[] #[.pointer (some ⟨bp, 0, none⟩), .pointer (some ⟨bN, 0, none⟩)]))
    (first | (go_split_ands; refine ⟨?_, ?_⟩ <;> assumption) | go_keep)
    ((first
      | (go_at_call_of 39 (Value.int .i64 x); refine (FX.out _ (by exact rfl)).mono ?_; rintro e wX ⟨rfl, k1, rfl⟩)
      | (go_at_call_of 39 (Value.int .i64 y); refine (FY.out _ (by exact rfl)).mono ?_; rintro e wY ⟨rfl, k2, rfl⟩)
      | (go_at_call_of 40 (Value.int .i64 x); refine (SX.out _ (by exact rfl)).mono ?_; rintro e wZ ⟨rfl, rfl⟩)
      | (go_at_call_of 40 (Value.int .i64 y); refine (SY.out _ (by exact rfl)).mono ?_; rintro e wU ⟨rfl, rfl⟩)
      | (go_at_call 44; refine (compare_any _ _ _).mono ?_; rintro e wV ⟨rfl, rfl⟩)
      | (go_at_call 43; refine (or_new _ _ _ _ _).mono ?_; rintro e wR ⟨rfl, rfl⟩)))
  go_wp2_with fail
  go_ret
  exact ⟨by rw [HC.out]; rfl, _, _, alloc_eq_grow _ _⟩
end Go.Proofs.YtmmgackmiemkhaaDoor

