/- dist.Near, by its contract: who is near, in new memory. -/
import Derived.Test.YtkjcihdejileoaaDSorts
import Derived.Test.YtkjcihdejileoaaDTable
namespace Go.Proofs.Ytkjcihdejileoaa
open Go.RowKit Go.Sort
set_option linter.unusedVariables false

set_option maxHeartbeats 4000000 in
set_option maxRecDepth 100000 in
theorem near_cap (A : Option Addr) (n c : Nat) (vs : List (Int × Int)) (p : Int) (w : World)
    (hn : Hid (vs.length = n)) (hl : n ≤ 9223372036854775807) (hf : Hid (Fit vs)) (hv : VRow w w.heap.size A vs) :
    Calls Try.prog 16 #[.slice A n c, .int .i64 p] w (MadeC w (Dp.near vs p)) := by
  obtain ⟨i0, hi, hz0, hz1, hz2⟩ := info_parts info_int
  go_enter Try.func16, Try.ntmps16
  go_wp2_with fail
  have hb0 : Below w.heap.size w ((w.alloc (Obj.cells #[Value.slice A n c] 22)).alloc (Obj.cells #[Value.int IntKind.i64 p] 3)) := ((Below.refl _ _).alloc (Nat.le_refl _) _).alloc (by simp) _
  have cT0 : ((w.alloc (Obj.cells #[Value.slice A n c] 22)).alloc (Obj.cells #[Value.int IntKind.i64 p] 3)).cell? ⟨w.heap.size, 0, none⟩ = some (.slice A n c) := by simp
  have cp0 : ((w.alloc (Obj.cells #[Value.slice A n c] 22)).alloc (Obj.cells #[Value.int IntKind.i64 p] 3)).cell? ⟨w.heap.size + 1, 0, none⟩ = some (.int .i64 p) := by simp
  have hs0 : ((w.alloc (Obj.cells #[Value.slice A n c] 22)).alloc (Obj.cells #[Value.int IntKind.i64 p] 3)).heap.size = w.heap.size + 2 := by simp
  generalize hw0 : (w.alloc (Obj.cells #[Value.slice A n c] 22)).alloc (Obj.cells #[Value.int IntKind.i64 p] 3) = w0 at hb0 cT0 cp0 hs0 ⊢
  clear hw0
  refine (procsOf_any A n c vs w0 hn hl hf ((hv.below hb0).more hb0.size)).mono ?_
  rintro e w1 ⟨A1, c1, rfl, hI1, hb1⟩
  rw [procsIf_length]
  have h64 := procsN_few vs
  have hm := procsN_fits vs n hn hl
  have cT1 := (hb1.cell (p := ⟨w.heap.size, 0, none⟩) (by simp; omega)).trans cT0
  have cp1 := (hb1.cell (p := ⟨w.heap.size + 1, 0, none⟩) (by simp; omega)).trans cp0
  have hbw1 : Below w.heap.size w w1 := hb0.trans (hb1.mono hb0.size)
  have hs1 : w.heap.size + 2 ≤ w1.heap.size := by have := hb1.size; omega
  generalize hpn : Dp.procsN vs = m at h64 hm ⊢
  have HPN := Lib.hid hpn
  clear hpn hb0 hb1 cT0 cp0 hs0
  have cT2 : (w1.alloc (Obj.cells #[Value.slice A1 m c1] 27)).cell? ⟨w.heap.size, 0, none⟩ = some (.slice A n c) := by rw [World.cell?_alloc_lt _ _ _ (by simp; omega)]; exact cT1
  have cp2 : (w1.alloc (Obj.cells #[Value.slice A1 m c1] 27)).cell? ⟨w.heap.size + 1, 0, none⟩ = some (.int .i64 p) := by rw [World.cell?_alloc_lt _ _ _ (by simp; omega)]; exact cp1
  have hb2 : Below w.heap.size w (w1.alloc (Obj.cells #[Value.slice A1 m c1] 27)) := hbw1.alloc hbw1.size _
  have hI2 : IRow (w1.alloc (Obj.cells #[Value.slice A1 m c1] 27)) w1.heap.size A1 (procsIf vs) := hI1.below ((Below.refl _ _).alloc (Nat.le_refl _) _)
  have cP2 : (w1.alloc (Obj.cells #[Value.slice A1 m c1] 27)).cell? ⟨w1.heap.size, 0, none⟩ = some (.slice A1 m c1) := by rw [World.cell?_alloc_new]; rfl
  have hs2 : (w1.alloc (Obj.cells #[Value.slice A1 m c1] 27)).heap.size = w1.heap.size + 1 := by simp
  go_wp2_with fail
  generalize hw2 : w1.alloc (Obj.cells #[Value.slice A1 m c1] 27) = w2 at cT2 cp2 hb2 hI2 cP2 hs2 ⊢
  generalize hsz1 : w1.heap.size = s1 at hs1 hI2 cP2 hs2 ⊢
  clear hw2 cT1 cp1 hI1 hbw1 hsz1
  refine (among_any A1 m c1 p _ hm).mono ?_
  rintro e w2' ⟨rfl, rfl⟩
  cases ha : isP p m
  · have M := Lib.hid (show MadeC w (Dp.near vs p) (.returned (.slice none 0 0)) w2' from by
      rw [Dp.near_out (by rw [HPN.out]; exact isP_not.1 ha)]
      exact ⟨none, 0, rfl, fun i z hi => by simp at hi, hb2, Nat.le_refl _, by omega⟩)
    clear ha
    go_wp2_with fail
    go_ret
    exact M.out
  have HA := Lib.hid (isP_iff.1 ha)
  clear ha
  have cT3 : (w2'.alloc (Obj.cells #[Value.int .i64 m] 3)).cell? ⟨w.heap.size, 0, none⟩ = some (.slice A n c) := by rw [World.cell?_alloc_lt _ _ _ (by simp; omega)]; exact cT2
  have cp3 : (w2'.alloc (Obj.cells #[Value.int .i64 m] 3)).cell? ⟨w.heap.size + 1, 0, none⟩ = some (.int .i64 p) := by rw [World.cell?_alloc_lt _ _ _ (by simp; omega)]; exact cp2
  have cP3 : (w2'.alloc (Obj.cells #[Value.int .i64 m] 3)).cell? ⟨s1, 0, none⟩ = some (.slice A1 m c1) := by rw [World.cell?_alloc_lt _ _ _ (by simp; omega)]; exact cP2
  have cN3 : (w2'.alloc (Obj.cells #[Value.int .i64 m] 3)).cell? ⟨s1 + 1, 0, none⟩ = some (.int .i64 m) := by rw [World.cell?_alloc_at _ _ _ _ hs2.symm]; rfl
  have hb3 : Below w.heap.size w (w2'.alloc (Obj.cells #[Value.int .i64 m] 3)) := hb2.alloc hb2.size _
  have hI3 : IRow (w2'.alloc (Obj.cells #[Value.int .i64 m] 3)) (s1 + 2) A1 (procsIf vs) := (hI2.more (by omega)).below ((Below.refl (s1 + 1) _).alloc (by omega) _) |>.more (by omega)
  have hs3 : (w2'.alloc (Obj.cells #[Value.int .i64 m] 3)).heap.size = s1 + 2 := by simp [hs2]
  go_wp2_with fail
  generalize hw3 : w2'.alloc (Obj.cells #[Value.int .i64 m] 3) = w3 at cT3 cp3 cP3 cN3 hb3 hI3 hs3 ⊢
  clear hw3 cT2 cp2 cP2 hb2 hI2 hs2
  go_loopw [7, 20] (fun u i wr => ∃ k : Nat, k ≤ m ∧ i = .int .i64 k ∧ wr.ownsRow w3.heap.size 3 1 u (Dp.othersTo p k).length ((Dp.othersTo p k).map (Value.int .i64)) ∧ Below w3.heap.size w3 wr) (fun _ i _ => m - (intOf i).toNat)
  case atStart => exact ⟨0, by omega, rfl, World.ownsRow_nil _ _ _ _, Below.refl _ _⟩
  case round =>
    obtain ⟨k, hk, rfl, hown, hbe⟩ := hrel
    by_cases hkm : k < m
    · have cpr : wr.cell? ⟨w.heap.size + 1, 0, none⟩ = some (.int .i64 p) := (hbe.cell (p := ⟨w.heap.size + 1, 0, none⟩) (by simp; omega)).trans cp3
      have hle := Dp.othersTo_le p k
      by_cases hkp : (k : Int) = p
      · have H : Hid (Dp.othersTo p (k + 1) = Dp.othersTo p k) := Lib.hid (by rw [Dp.othersTo, if_pos hkp, List.append_nil])
        have q1 : ((k : Int) != p) = false := by simp [hkp]
        clear hkp hle
        go_wp2_with fail
        go_roundw
        case rel => exact ⟨k + 1, by omega, by go_num, by rw [H.out]; exact hown, hbe⟩
        case measure => simp [intOf]; omega
      · have H : Hid (Dp.othersTo p (k + 1) = Dp.othersTo p k ++ [(k : Int)]) := Lib.hid (by rw [Dp.othersTo, if_neg hkp])
        have q1 : ((k : Int) != p) = true := by simp [hkp]
        clear hkp
        go_wp2_with (at_builtin; refine wpList_append_own _ rfl _ _ 27 rfl w3.heap.size 3 i0 (.int .i64 0) 1 8 Try.underlying27 hi hz0 hz1 hz2 rfl (by decide) _ _ _ rfl (hown.alloc _) ⟨wr.heap.size, 0, none⟩ 1 1 [.int .i64 (k : Int)] rfl rfl ?c1 ?c2 ?c3 ?c4 ?c5 ?_)
        case c1 => exact one_cell _ _ _
        case c2 => intro u hu; simp at hu; subst hu; rfl
        case c3 => unfold maxLen; omega
        case c4 => omega
        case c5 => have := hbe.size; simp; omega
        intro v' w5 hown5 hg _
        go_wp2_with fail
        go_roundw
        case rel =>
          refine ⟨k + 1, by omega, by go_num, ?_, (hbe.alloc hbe.size _).grown hg (by have := hbe.size; simp; omega) (fun j hj => (hown.lt j hj).1)⟩
          rw [H.out, List.length_append, List.map_append, hs3]; exact hown5
        case measure => simp [intOf]; omega
    · have hkn : k = m := by omega
      subst hkn
      have hmf := hmf
      have hst := fun (a : Addr) (fn : Fn) (cb : Array Value) (W : World) => run_store Try.prog W a (.func fn #[] cb) .plain rfl
      obtain ⟨oF, hoF⟩ : ∃ oF, oF = Obj.cells #[Value.func (.func 30) #[] #[.pointer (some ⟨w.heap.size, 0, none⟩), .pointer (some ⟨s1, 0, none⟩), .pointer (some ⟨w.heap.size + 1, 0, none⟩)]] 43 := ⟨_, rfl⟩
      obtain ⟨oS, hoS⟩ : ∃ oS, oS = Obj.cells #[Value.func (.func 31) #[] #[.pointer (some ⟨w.heap.size + 1, 0, none⟩), .pointer (some ⟨s1 + 1, 0, none⟩)]] 43 := ⟨_, rfl⟩
      have hb4 : Below w3.heap.size w3 ((wr.alloc oF).alloc oS) := (hbe.alloc hbe.size _).alloc (by have := hbe.size; simp; omega) _
      have hbs := hbe.size
      have hsz4 : ((wr.alloc oF).alloc oS).heap.size = wr.heap.size + 2 := by simp
      have hK : Caps ((wr.alloc oF).alloc oS) w3.heap.size A A1 n c k c1 vs p w.heap.size s1 (w.heap.size + 1) (s1 + 1) wr.heap.size (wr.heap.size + 1) :=
        { tv := (hv.below (hb3.trans (hb4.mono hb3.size))).more hb3.size
          ps := (hI3.more (by omega)).below hb4
          cT := (hb4.cell (p := ⟨w.heap.size, 0, none⟩) (by simp; omega)).trans cT3
          cP := (hb4.cell (p := ⟨s1, 0, none⟩) (by simp; omega)).trans cP3
          cp := (hb4.cell (p := ⟨w.heap.size + 1, 0, none⟩) (by simp; omega)).trans cp3
          cN := (hb4.cell (p := ⟨s1 + 1, 0, none⟩) (by simp; omega)).trans cN3
          cF := by rw [hoF, World.cell?_alloc2_first]; rfl
          cS := by rw [hoS, World.cell?_alloc2_new]; rfl }
      have hsort := sort_near A A1 n c k c1 _ vs p w.heap.size s1 (w.heap.size + 1) (s1 + 1) wr.heap.size (wr.heap.size + 1) ((wr.alloc oF).alloc oS) w3.heap.size w3.heap.size u7 hn hl HPN h64 hK HA.out.1 HA.out.2 (Nat.le_refl _) ((hown.alloc _).alloc _)
        (fun blk hb => by have := hown.lt blk hb; omega) (by rw [hsz4]; omega)
      rw [hoF, hoS] at hsort hb4
      have HS := Lib.hid hsort
      have HB4 := Lib.hid hb4
      clear hsort hK hoF hoS hsz4 hb4 hown cT3 cp3 cP3 cN3
      go_wp2_with fail
      refine HS.out.mono ?_
      rintro e w6 ⟨rfl, A', c', rfl, hI6, hb6, hc1, hc2⟩
      have M := Lib.hid (show MadeC w (Dp.near vs p) (.returned (.slice A' (Dp.near vs p).length c')) w6 from
        ⟨A', c', rfl, hI6, hb3.trans ((HB4.out.trans hb6).mono hb3.size), hc1, hc2⟩)
      clear hst hmf
      go_wp2_with fail
      go_ret
      exact M.out
end Go.Proofs.Ytkjcihdejileoaa

