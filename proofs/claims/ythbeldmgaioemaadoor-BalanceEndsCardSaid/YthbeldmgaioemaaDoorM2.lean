/- Contracts and plain mathematics, put together by program (wip/merge.py) out of: Check Nodes Refs Tree DPlain DWords. -/
import Derived.Test.YthbeldmgaioemaaDoorM1
import Derived.Test.YthbeldmgaioemaaDoorM0
/- topo.hangs, topo.filled and topo.Check come to plain functions of the vertices. -/
namespace Go.Proofs.YthbeldmgaioemaaDoor
open Go.RowKit
set_option linter.unusedVariables false

theorem below1 (w : World) (o : Obj) : Below w.heap.size w (w.alloc o) := (Below.refl _ _).alloc (Nat.le_refl _) o

theorem wrap_dec {l : Int} (h : In64 l) (h3 : l ≤ 3) : wrap64 (l - 1) = Tp.dec l := by
  obtain ⟨h1, h2⟩ := h
  unfold wrap64 Tp.dec
  split <;> omega
set_option maxHeartbeats 1600000 in
theorem hangs_any (A : Option Addr) (n c : Nat) (vs : List (Int × Int)) (k : Nat) (w : World)
    (hn : Hid (vs.length = n)) (hl : n ≤ 9223372036854775807) (hf : Hid (Fit vs)) (hk : k < n) (hv : VRow w w.heap.size A vs) :
    Calls Tryd.prog 52 #[.slice A n c, .int .i64 k] w fun e w' => e = .returned (.bool (Tp.hangs vs k)) ∧ Below w.heap.size w w' := by
  obtain ⟨x, hx⟩ : ∃ x, vs[k]? = some x := ⟨_, List.getElem?_eq_getElem (by have := hn.out; omega)⟩
  obtain ⟨b, off, hA, hbk, hc1, hc2⟩ := hv k x hx
  subst hA
  have hfx : In64 x.1 ∧ In64 x.2 := hf.out x (List.mem_of_getElem? hx)
  obtain ⟨⟨f1, f2⟩, ⟨f3, f4⟩⟩ := hfx
  have HH : Hid (Tp.hangs vs k = Tp.hangsX vs k x) := Lib.hid (by unfold Tp.hangs; rw [hx]; rfl)
  clear hx
  by_cases h0 : k = 0
  · subst h0
    have e0 : ((0 : Int) == 0) = true := rfl
    have H : Hid (Tp.hangs vs 0 = (x.1 == -1 && x.2 == 0)) := Lib.hid (by rw [HH.out]; rfl)
    simp only [Nat.zero_mul, Nat.add_zero] at hc1 hc2
    clear HH
    cases hp : (x.1 == -1)
    · go_enter Tryd.func52, Tryd.ntmps52
      go_wp2
      go_ret
      exact ⟨by rw [H.out, hp]; rfl, below1 _ _⟩
    · go_enter Tryd.func52, Tryd.ntmps52
      go_wp2
      go_ret
      exact ⟨by rw [H.out, hp]; rfl, below1 _ _⟩
  · have e0 : ((k : Int) == 0) = false := by rw [beq_eq_false_iff_ne]; omega
    by_cases hlo : x.1 < 0
    · have H : Hid (Tp.hangs vs k = false) := Lib.hid (by rw [HH.out, Tp.hangsX, if_neg h0, if_pos (.inl hlo)])
      clear HH h0
      go_enter Tryd.func52, Tryd.ntmps52
      go_wp2
      go_ret
      exact ⟨by rw [H.out]; rfl, below1 _ _⟩
    · by_cases hhi : (k : Int) ≤ x.1
      · have H : Hid (Tp.hangs vs k = false) := Lib.hid (by rw [HH.out, Tp.hangsX, if_neg h0, if_pos (.inr hhi)])
        clear HH h0
        go_enter Tryd.func52, Tryd.ntmps52
        go_wp2
        go_ret
        exact ⟨by rw [H.out]; rfl, below1 _ _⟩
      · obtain ⟨j, hj⟩ := Int.eq_ofNat_of_zero_le (show 0 ≤ x.1 by omega)
        obtain ⟨y, hy⟩ : ∃ y, vs[j]? = some y := ⟨_, List.getElem?_eq_getElem (by have := hn.out; omega)⟩
        obtain ⟨b', off', hA', _, hd1, hd2⟩ := hv j y hy
        injection hA' with hA'
        injection hA' with hb' ho'
        subst hb' ho'
        rw [hj] at hc1
        have hjk : (j : Int) < k := by omega
        by_cases h3 : x.2 ≤ 3
        · have hd : decide (x.2 ≤ 3) = true := by simpa using h3
          have H : Hid (Tp.hangs vs k = (y.2 == wrap64 (x.2 - 1))) := Lib.hid (by
            rw [HH.out, Tp.hangsX, if_neg h0, if_neg (by omega), hj, Int.toNat_natCast, hy, wrap_dec ⟨f3, f4⟩ h3]
            simp [h3])
          clear HH h0 hlo hhi hj hy f1 f2 f3 f4 hd
          go_enter Tryd.func52, Tryd.ntmps52
          go_wp2
          go_quiet (fail)
          go_wp2
          go_ret
          exact ⟨by rw [H.out]; rfl, below_drewN (below1 _ _) _⟩
        · have hd : decide (x.2 ≤ 3) = false := by simpa using h3
          have H : Hid (Tp.hangs vs k = false) := Lib.hid (by
            rw [HH.out, Tp.hangsX, if_neg h0, if_neg (by omega), hd]; rfl)
          clear HH h0 hlo hhi hj hy f1 f2 f3 f4
          go_enter Tryd.func52, Tryd.ntmps52
          go_wp2
          go_quiet (fail)
          go_wp2
          go_ret
          exact ⟨by rw [H.out]; rfl, below_drewN (below1 _ _) _⟩

set_option maxHeartbeats 1600000 in
theorem filled_any (A : Option Addr) (n c : Nat) (vs : List (Int × Int)) (k : Nat) (w : World)
    (hn : Hid (vs.length = n)) (hl : n ≤ 9223372036854775807) (hby : n * 8 ≤ 140737488351232) (hk : k < n) (hv : VRow w w.heap.size A vs) :
    Calls Tryd.prog 53 #[.slice A n c, .int .i64 k] w fun e w' => e = .returned (.bool (Tp.filled vs k)) ∧ Below w.heap.size w w' := by
  obtain ⟨x, hx⟩ : ∃ x, vs[k]? = some x := ⟨_, List.getElem?_eq_getElem (by have := hn.out; omega)⟩
  obtain ⟨b, off, hA, hbk, hc1, hc2⟩ := hv k x hx
  subst hA
  by_cases h3 : 3 ≤ x.2
  · have H : Hid (Tp.filled vs k = true) := Lib.hid (by unfold Tp.filled; rw [hx]; exact if_pos h3)
    clear hx
    go_enter Tryd.func53, Tryd.ntmps53
    go_wp2
    go_ret
    exact ⟨by rw [H.out]; rfl, Below.refl _ _⟩
  · have H : Hid (Tp.filled vs k = (decide (1 ≤ Tp.kidsN vs k) && decide (Tp.kidsN vs k ≤ 8))) := Lib.hid (by unfold Tp.filled; rw [hx]; exact if_neg h3)
    have HK : Hid ((Tp.those (kidsP k) vs).length = Tp.kidsN vs k) := Lib.hid rfl
    have hle := Tp.those_le (kidsP k) vs n
    rw [show vs.take n = vs from List.take_of_length_le (by have := hn.out; omega)] at hle
    clear hx
    go_enter Tryd.func53, Tryd.ntmps53
    go_wp2_with fail
    refine (kids_any _ n c vs k _ hn hl hby hv).mono ?_
    rintro e w1 ⟨A1, c1, rfl, _, hb1⟩
    rw [HK.out] at hle ⊢
    by_cases h1 : 1 ≤ Tp.kidsN vs k
    · go_wp2
      go_ret
      refine ⟨?_, hb1⟩
      rw [H.out, decide_eq_true h1]
      exact ret_bool (a := decide ((Tp.kidsN vs k : Int) ≤ 8)) (Bool.eq_iff_iff.2 (by simp; omega))
    · go_wp2
      go_ret
      exact ⟨by rw [H.out, decide_eq_false h1]; rfl, hb1⟩

set_option maxHeartbeats 1600000 in
theorem check_any (A : Option Addr) (n c : Nat) (vs : List (Int × Int)) (w : World)
    (hn : Hid (vs.length = n)) (hl : n ≤ 9223372036854775807) (hf : Hid (Fit vs)) (hv : VRow w w.heap.size A vs) :
    Calls Tryd.prog 37 #[.slice A n c] w fun e w' => e = .returned (.int .i64 (Tp.errno (Tp.may vs))) ∧ Below w.heap.size w w' := by
  have hle := Tp.those_le (levelP 3) vs n
  rw [show vs.take n = vs from List.take_of_length_le (by have := hn.out; omega)] at hle
  by_cases h1 : 1 ≤ n
  · by_cases h64 : n ≤ 64
    · by_cases h32 : (Tp.those (levelP 3) vs).length ≤ 32
      · have H0 : Hid (Tp.may vs = Tp.bodyTo vs n) := Lib.hid (by
          have e := hn.out
          unfold Tp.may Tp.headOK
          rw [e, decide_eq_true h1, decide_eq_true h64, decide_eq_true (show (Tp.those (fun x => x.2 == 3) vs).length ≤ 32 from h32)]
          rfl)
        go_enter Tryd.func37, Tryd.ntmps37
        go_wp2_with fail
        refine (procs_any _ n c vs _ hn hl (by omega) hv).mono ?_
        rintro e w1 ⟨A1, c1, rfl, _, hb1⟩
        go_wp2_with fail
        go_loopw [20] (fun i wr => ∃ k : Nat, k ≤ n ∧ i = .int .i64 k ∧ Hid (Tp.bodyTo vs k = true) ∧ Below w.heap.size w wr) (fun i _ => n - (intOf i).toNat)
        case atStart => exact ⟨0, Nat.zero_le _, rfl, Lib.hid rfl, hb1⟩
        case round =>
          obtain ⟨k, hk, rfl, hto, hbe⟩ := hrel
          by_cases hlt : k < n
          · have hv' := (hv.below hbe).more hbe.size
            go_wp2_with fail
            refine (hangs_any _ n c vs k _ hn hl hf hlt hv').mono ?_
            rintro e w2 ⟨rfl, hb2⟩
            have hbe2 := hbe.trans (hb2.mono hbe.size)
            cases hh : Tp.hangs vs k
            · have H : Hid (Tp.may vs = false) := Lib.hid (by rw [H0.out]; exact Tp.bodyTo_false hlt (by rw [hh]; rfl))
              clear hh
              go_wp2_with fail
              go_ret
              exact ⟨by rw [H.out]; rfl, hbe2⟩
            · have hv2 := (hv.below hbe2).more hbe2.size
              have HG : Hid (Tp.hangs vs k = true) := Lib.hid hh
              clear hh
              go_wp2_with fail
              refine (filled_any _ n c vs k _ hn hl (by omega) hlt hv2).mono ?_
              rintro e w3 ⟨rfl, hb3⟩
              have hbe3 := hbe2.trans (hb3.mono hbe2.size)
              cases hh : Tp.filled vs k
              · have H : Hid (Tp.may vs = false) := Lib.hid (by rw [H0.out]; exact Tp.bodyTo_false hlt (by rw [hh]; simp))
                clear hh
                go_wp2_with fail
                go_ret
                exact ⟨by rw [H.out]; rfl, hbe3⟩
              · have H : Hid (Tp.bodyTo vs (k + 1) = true) := Lib.hid (by rw [Tp.bodyTo_succ, hto.out, HG.out, hh]; rfl)
                clear hh
                go_wp2_with fail
                go_roundw
                case rel => exact ⟨k + 1, by omega, by go_num, H, hbe3⟩
                case measure => simp [intOf]; omega
          · have H : Hid (Tp.may vs = true) := Lib.hid (by rw [H0.out, show n = k by omega]; exact hto.out)
            go_wp2_with fail
            go_ret
            exact ⟨by rw [H.out]; rfl, hbe⟩
      · have H : Hid (Tp.may vs = false) := Lib.hid (by
          unfold Tp.may Tp.headOK
          rw [decide_eq_false (show ¬ (Tp.those (fun x => x.2 == 3) vs).length ≤ 32 from h32)]
          simp)
        go_enter Tryd.func37, Tryd.ntmps37
        go_wp2_with fail
        refine (procs_any _ n c vs _ hn hl (by omega) hv).mono ?_
        rintro e w1 ⟨A1, c1, rfl, _, hb1⟩
        go_wp2_with fail
        go_ret
        exact ⟨by rw [H.out]; rfl, hb1⟩
    · have H : Hid (Tp.may vs = false) := Lib.hid (by
        have e := hn.out
        unfold Tp.may Tp.headOK
        rw [e, decide_eq_false h64]
        simp)
      go_enter Tryd.func37, Tryd.ntmps37
      go_wp2_with fail
      go_ret
      exact ⟨by rw [H.out]; rfl, Below.refl _ _⟩
  · have H : Hid (Tp.may vs = false) := Lib.hid (by
      have e := hn.out
      unfold Tp.may Tp.headOK
      rw [e, decide_eq_false h1]
      simp)
    go_enter Tryd.func37, Tryd.ntmps37
    go_wp2_with fail
    go_ret
    exact ⟨by rw [H.out]; rfl, Below.refl _ _⟩
end Go.Proofs.YthbeldmgaioemaaDoor


/- topo.Nodes, by its contract: the numbers of the vertices of level 1, in new memory. -/
namespace Go.Proofs.YthbeldmgaioemaaDoor
open Go.RowKit
set_option linter.unusedVariables false

theorem nodesTest (p l : Int) (w : World) :
    Calls Tryd.prog 56 #[.agg #[.int .i64 p, .int .i64 l]] w fun e w' => e = .returned (.bool (l == 1)) ∧ Below w.heap.size w w' := by
  go_enter Tryd.func56, Tryd.ntmps56
  go_wp2
  go_ret
  exact ⟨rfl, (Below.refl _ _).alloc (Nat.le_refl _) _⟩

theorem nodes_any (A : Option Addr) (n c : Nat) (vs : List (Int × Int)) (w : World)
    (hn : Hid (vs.length = n)) (hl : n ≤ 9223372036854775807) (hby : n * 8 ≤ 140737488351232) (hv : VRow w w.heap.size A vs) :
    Calls Tryd.prog 40 #[.slice A n c] w (Made w (Tp.those (levelP 1) vs)) := by
  have hT : Tests w 56 #[] (levelP 1) := fun x W _ => nodesTest x.1 x.2 W
  go_enter Tryd.func40, Tryd.ntmps40
  go_wp2_with fail
  refine (those_any A n c vs _ _ (levelP 1) _ hn hl hby hv (fun _ _ => by kernel_rfl) hT).mono ?_
  rintro e w1 ⟨u, rfl, hown, hb1⟩
  have M := made_of (Below.refl _ _) hown hb1
  clear hown
  go_wp2
  go_ret
  exact M
end Go.Proofs.YthbeldmgaioemaaDoor


/- The document's own lists (Kids, Of), by contracts. -/
namespace Go.Proofs.YthbeldmgaioemaaDoor
open Go.RowKit
set_option linter.unusedVariables false

set_option maxHeartbeats 1600000 in
set_option maxRecDepth 1000000 in
theorem refKids_any (A : Option Addr) (n c : Nat) (vs : List (Int × Int)) (v : Int) (w : World)
    (hn : Hid (vs.length = n)) (hl : n ≤ 9223372036854775807) (hby : n * 8 ≤ 140737488351232) (hv : VRow w w.heap.size A vs) :
    Calls Tryd.prog 51 #[.slice A n c, .int .i64 v] w (Made w (Tp.those (kidsP v) vs)) := by
  obtain ⟨i0, hi, hz0, hz1, hz2⟩ := info_parts info_int
  go_enter Tryd.func51, Tryd.ntmps51
  go_wp2
  go_loopw [5, 6] (fun u i wr => ∃ k : Nat, k ≤ n ∧ i = .int .i64 k ∧ wr.ownsRow w.heap.size 3 1 u (Tp.those (kidsP v) (vs.take k)).length ((Tp.those (kidsP v) (vs.take k)).map (Value.int .i64)) ∧ Below w.heap.size w wr)
    (fun _ i _ => n - (intOf i).toNat)
  case atStart => exact ⟨0, Nat.zero_le _, rfl, World.ownsRow_nil _ _ _ _, Below.refl _ _⟩
  case round =>
    obtain ⟨k, hk, rfl, hown, hbe⟩ := hrel
    by_cases hlt : k < n
    · obtain ⟨x, hx⟩ : ∃ x, vs[k]? = some x := ⟨_, List.getElem?_eq_getElem (by have := hn.out; omega)⟩
      obtain ⟨b, off, hA, hbk, hc1, hc2⟩ := (hv.below hbe) k x hx
      subst hA
      have HX : Hid (vs[k]? = some x) := hx
      clear hx
      have hle := Tp.those_le (kidsP v) vs k
      cases hp : (x.1 == v)
      · have hm := Hid.out HX
        have R := Tp.those_miss (p := kidsP v) hm hp
        clear hm
        have R' := Lib.hid R
        clear R
        go_wp2
        go_roundw
        case rel => exact ⟨k + 1, by omega, by go_num, by rw [R'.out]; exact hown, hbe⟩
        case measure => simp [intOf]; omega
      · have hm := Hid.out HX
        have R := Tp.those_hit (p := kidsP v) hm hp
        clear hm
        have R' := Lib.hid R
        clear R
        go_wp2_with (at_builtin; refine wpList_append_own _ rfl _ _ 44 rfl w.heap.size 3 i0 (.int .i64 0) 1 8 Tryd.underlying44 hi hz0 hz1 hz2 rfl (by decide) _ _ _ rfl (hown.alloc _) ⟨wr.heap.size, 0, none⟩ 1 1 [.int .i64 (k : Int)] rfl rfl ?c1 ?c2 ?c3 ?c4 ?c5 ?_)
        case c1 => exact one_cell _ _ _
        case c2 => intro u hu; simp at hu; subst hu; rfl
        case c3 => unfold maxLen; omega
        case c4 => omega
        case c5 => have := hbe.size; simp; omega
        intro v' w2 hown2 hg _
        go_wp2
        go_roundw
        case rel =>
          refine ⟨k + 1, by omega, by go_num, ?_, (hbe.alloc hbe.size _).grown hg (by have := hbe.size; simp; omega) (fun j hj => (hown.lt j hj).1)⟩
          rw [R'.out]; simpa using hown2
        case measure => simp [intOf]; omega
    · have hkn : k = n := by omega
      have e := hn.out
      have H := Lib.hid (show vs.take k = vs by rw [List.take_of_length_le (by omega)])
      clear hkn e
      go_wp2
      go_ret
      rw [H.out] at hown
      exact made_of (Below.refl _ _) hown hbe

set_option maxHeartbeats 1600000 in
set_option maxRecDepth 1000000 in
theorem refOf_any (A : Option Addr) (n c : Nat) (vs : List (Int × Int)) (v : Int) (w : World)
    (hn : Hid (vs.length = n)) (hl : n ≤ 9223372036854775807) (hby : n * 8 ≤ 140737488351232) (hv : VRow w w.heap.size A vs) :
    Calls Tryd.prog 31 #[.slice A n c, .int .i64 v] w (Made w (Tp.those (levelP v) vs)) := by
  obtain ⟨i0, hi, hz0, hz1, hz2⟩ := info_parts info_int
  go_enter Tryd.func31, Tryd.ntmps31
  go_wp2
  go_loopw [5, 6] (fun u i wr => ∃ k : Nat, k ≤ n ∧ i = .int .i64 k ∧ wr.ownsRow w.heap.size 3 1 u (Tp.those (levelP v) (vs.take k)).length ((Tp.those (levelP v) (vs.take k)).map (Value.int .i64)) ∧ Below w.heap.size w wr)
    (fun _ i _ => n - (intOf i).toNat)
  case atStart => exact ⟨0, Nat.zero_le _, rfl, World.ownsRow_nil _ _ _ _, Below.refl _ _⟩
  case round =>
    obtain ⟨k, hk, rfl, hown, hbe⟩ := hrel
    by_cases hlt : k < n
    · obtain ⟨x, hx⟩ : ∃ x, vs[k]? = some x := ⟨_, List.getElem?_eq_getElem (by have := hn.out; omega)⟩
      obtain ⟨b, off, hA, hbk, hc1, hc2⟩ := (hv.below hbe) k x hx
      subst hA
      have HX : Hid (vs[k]? = some x) := hx
      clear hx
      have hle := Tp.those_le (levelP v) vs k
      cases hp : (x.2 == v)
      · have hm := Hid.out HX
        have R := Tp.those_miss (p := levelP v) hm hp
        clear hm
        have R' := Lib.hid R
        clear R
        go_wp2
        go_roundw
        case rel => exact ⟨k + 1, by omega, by go_num, by rw [R'.out]; exact hown, hbe⟩
        case measure => simp [intOf]; omega
      · have hm := Hid.out HX
        have R := Tp.those_hit (p := levelP v) hm hp
        clear hm
        have R' := Lib.hid R
        clear R
        go_wp2_with (at_builtin; refine wpList_append_own _ rfl _ _ 44 rfl w.heap.size 3 i0 (.int .i64 0) 1 8 Tryd.underlying44 hi hz0 hz1 hz2 rfl (by decide) _ _ _ rfl (hown.alloc _) ⟨wr.heap.size, 0, none⟩ 1 1 [.int .i64 (k : Int)] rfl rfl ?c1 ?c2 ?c3 ?c4 ?c5 ?_)
        case c1 => exact one_cell _ _ _
        case c2 => intro u hu; simp at hu; subst hu; rfl
        case c3 => unfold maxLen; omega
        case c4 => omega
        case c5 => have := hbe.size; simp; omega
        intro v' w2 hown2 hg _
        go_wp2
        go_roundw
        case rel =>
          refine ⟨k + 1, by omega, by go_num, ?_, (hbe.alloc hbe.size _).grown hg (by have := hbe.size; simp; omega) (fun j hj => (hown.lt j hj).1)⟩
          rw [R'.out]; simpa using hown2
        case measure => simp [intOf]; omega
    · have hkn : k = n := by omega
      have e := hn.out
      have H := Lib.hid (show vs.take k = vs by rw [List.take_of_length_le (by omega)])
      clear hkn e
      go_wp2
      go_ret
      rw [H.out] at hown
      exact made_of (Below.refl _ _) hown hbe

end Go.Proofs.YthbeldmgaioemaaDoor


/- What follows of a tree that may be, in plain mathematics. -/
namespace Go.Proofs.YthbeldmgaioemaaDoor.Tp

structure Tree (vs : List (Int × Int)) : Prop where
  pos : 1 ≤ vs.length
  few : vs.length ≤ 64
  procs : (those (fun x => x.2 == 3) vs).length ≤ 32
  hangs : ∀ k, k < vs.length → hangs vs k = true
  filled : ∀ k, k < vs.length → filled vs k = true

theorem tree_iff (vs : List (Int × Int)) : may vs = true ↔ Tree vs := by
  unfold may headOK bodyTo
  simp only [Bool.and_eq_true, decide_eq_true_eq, List.all_eq_true, List.mem_range]
  exact ⟨fun ⟨⟨⟨a, b⟩, c⟩, d⟩ => ⟨a, b, c, fun k hk => (d k hk).1, fun k hk => (d k hk).2⟩, fun h => ⟨⟨⟨h.pos, h.few⟩, h.procs⟩, fun k hk => ⟨h.hangs k hk, h.filled k hk⟩⟩⟩
theorem Tree.not {vs : List (Int × Int)} (h : ¬ Tree vs) : may vs = false := by
  cases hm : may vs
  · rfl
  · exact absurd ((tree_iff vs).1 hm) h

theorem Tree.first {vs : List (Int × Int)} (h : Tree vs) : vs[0]? = some (-1, 0) := by
  have h0 := h.hangs 0 h.pos
  obtain ⟨x, hx⟩ : ∃ x, vs[0]? = some x := ⟨_, List.getElem?_eq_getElem h.pos⟩
  unfold Tp.hangs at h0
  rw [hx] at h0
  simp only [Option.getD_some, hangsX, if_true, Bool.and_eq_true, beq_iff_eq] at h0
  rw [hx]
  obtain ⟨a, b⟩ := x
  simp only at h0
  rw [h0.1, h0.2]
/-- Each vertex but the first: a Parent ahead of it, of a Level one less; Levels from 1 to 3. -/
theorem Tree.next {vs : List (Int × Int)} (h : Tree vs) (k : Nat) : ∀ x, vs[k]? = some x → 0 < k → ∃ (p : Nat) (y : Int × Int), x.1 = p ∧ p < k ∧ vs[p]? = some y ∧ x.2 = y.2 + 1 ∧ 0 ≤ y.2 ∧ x.2 ≤ 3 := by
  induction k using Nat.strongRecOn with
  | ind k ih =>
    intro x hx hk
    have hkl := (List.getElem?_eq_some_iff.1 hx).1
    have h0 := h.hangs k hkl
    unfold Tp.hangs at h0
    rw [hx] at h0
    simp only [Option.getD_some, hangsX, if_neg (show ¬ k = 0 by omega)] at h0
    split at h0
    · cases h0
    · rename_i hb
      obtain ⟨p, hp⟩ := Int.eq_ofNat_of_zero_le (show 0 ≤ x.1 by omega)
      obtain ⟨y, hy⟩ : ∃ y, vs[p]? = some y := ⟨_, List.getElem?_eq_getElem (by omega)⟩
      rw [hp, Int.toNat_natCast, hy] at h0
      simp only [Option.getD_some, Bool.and_eq_true, decide_eq_true_eq, beq_iff_eq] at h0
      obtain ⟨h3, hd⟩ := h0
      have hy2 : 0 ≤ y.2 ∧ y.2 ≤ 3 := by
        by_cases e : p = 0
        · subst e
          have := h.first
          rw [this] at hy
          injection hy with hy
          subst hy
          exact ⟨by decide, by decide⟩
        · obtain ⟨_, _, _, _, _, a, b, c⟩ := ih p (by omega) y hy (by omega)
          omega
      refine ⟨p, y, hp, by omega, hy, ?_, hy2.1, h3⟩
      unfold dec at hd
      split at hd <;> omega
theorem Tree.level {vs : List (Int × Int)} (h : Tree vs) {k : Nat} {x : Int × Int} (hx : vs[k]? = some x) : 0 ≤ x.2 ∧ x.2 ≤ 3 := by
  by_cases e : k = 0
  · subst e
    rw [h.first] at hx
    injection hx with hx
    subst hx
    exact ⟨by decide, by decide⟩
  · obtain ⟨_, _, _, _, _, a, b, c⟩ := h.next k x hx (by omega)
    omega
/-- What lies above a vertex. -/
theorem Tree.up {vs : List (Int × Int)} (h : Tree vs) (l : Int) (k : Nat) : ∀ x, vs[k]? = some x → (x.2 < l → up vs l vs.length k = -1) ∧ (0 ≤ l → l ≤ x.2 → ∃ (v : Nat) (y : Int × Int), up vs l vs.length k = v ∧ v ≤ k ∧ vs[v]? = some y ∧ y.2 = l) := by
  induction k using Nat.strongRecOn with
  | ind k ih =>
    intro x hx
    have hkl := (List.getElem?_eq_some_iff.1 hx).1
    by_cases hl : x.2 = l
    · rw [up_hit hkl hx hl]
      exact ⟨fun hh => by omega, fun _ _ => ⟨k, x, rfl, Nat.le_refl _, hx, hl⟩⟩
    · rw [up_step hkl hx hl]
      by_cases e : k = 0
      · subst e
        rw [h.first] at hx
        injection hx with hx
        subst hx
        refine ⟨fun _ => up_out (by simp), fun h0 h1 => ?_⟩
        simp only at hl h1
        omega
      · obtain ⟨p, y, hp, hpk, hy, hxy, _, _⟩ := h.next k x hx (by omega)
        rw [hp, up_bound (b := vs.length) (by omega) (by omega) (by omega)]
        obtain ⟨i1, i2⟩ := ih p hpk y hy
        refine ⟨fun hh => i1 (by omega), fun h0 h1 => ?_⟩
        obtain ⟨v, z, e1, e2, e3, e4⟩ := i2 h0 (by omega)
        exact ⟨v, z, e1, by omega, e3, e4⟩
theorem mem_thoseF {p : Int × Int → Bool} {z : Int} : ∀ (xs : List (Int × Int)) (k : Nat), z ∈ thoseF p k xs ↔ ∃ (j : Nat) (x : Int × Int), z = ((k + j : Nat) : Int) ∧ xs[j]? = some x ∧ p x = true := by
  intro xs
  induction xs with
  | nil => intro k; simp [thoseF]
  | cons y ys ih =>
    intro k
    have split2 : (∃ (j : Nat) (x : Int × Int), z = ((k + j : Nat) : Int) ∧ (y :: ys)[j]? = some x ∧ p x = true) ↔ (z = (k : Int) ∧ p y = true) ∨ ∃ (j : Nat) (x : Int × Int), z = ((k + 1 + j : Nat) : Int) ∧ ys[j]? = some x ∧ p x = true := by
      constructor
      · rintro ⟨j, x, e, hx, hp⟩
        cases j with
        | zero => injection hx with hx; subst hx; exact .inl ⟨by simpa using e, hp⟩
        | succ j => exact .inr ⟨j, x, by rw [e]; congr 1; omega, hx, hp⟩
      · rintro (⟨e, hp⟩ | ⟨j, x, e, hx, hp⟩)
        · exact ⟨0, y, by simpa using e, rfl, hp⟩
        · exact ⟨j + 1, x, by rw [e]; congr 1; omega, hx, hp⟩
    rw [split2, thoseF]
    split
    · rename_i hp
      rw [List.mem_cons, ih]
      simp [hp]
    · rename_i hp
      rw [ih]
      simp [hp]
theorem mem_those {p : Int × Int → Bool} {z : Int} {vs : List (Int × Int)} : z ∈ those p vs ↔ ∃ (j : Nat) (x : Int × Int), z = (j : Int) ∧ vs[j]? = some x ∧ p x = true := by
  unfold those; rw [mem_thoseF]; simp
/-- Each vertex that is no processor has one below it; a processor none. -/
theorem Tree.child {vs : List (Int × Int)} (h : Tree vs) {k : Nat} {x : Int × Int} (hx : vs[k]? = some x) (h3 : x.2 < 3) : ∃ (j : Nat) (y : Int × Int), k < j ∧ vs[j]? = some y ∧ y.1 = k ∧ y.2 = x.2 + 1 := by
  have hkl := (List.getElem?_eq_some_iff.1 hx).1
  have hf := h.filled k hkl
  unfold Tp.filled at hf
  rw [hx, Option.getD_some, if_neg (by omega), Bool.and_eq_true, decide_eq_true_eq, decide_eq_true_eq] at hf
  unfold kidsN at hf
  obtain ⟨z, hz⟩ := List.exists_mem_of_length_pos (l := those (fun x => x.1 == (k : Int)) vs) (by omega)
  obtain ⟨j, y, _, hy, hp⟩ := mem_those.1 hz
  rw [beq_iff_eq] at hp
  have hj : j ≠ 0 := by
    rintro rfl
    rw [h.first] at hy
    injection hy with hy
    subst hy
    simp only at hp
    omega
  obtain ⟨p, u, h1, h2, h3', h4, _, _⟩ := h.next j y hy (by omega)
  have : p = k := by omega
  subst this
  rw [hx] at h3'
  injection h3' with h3'
  subst h3'
  exact ⟨j, y, h2, hy, hp, h4⟩
theorem Tree.kid {vs : List (Int × Int)} (h : Tree vs) {k j : Nat} {y : Int × Int} (hy : vs[j]? = some y) (hk : y.1 = k) : k < j ∧ ∃ x, vs[k]? = some x ∧ y.2 = x.2 + 1 := by
  have hj : j ≠ 0 := by
    rintro rfl
    rw [h.first] at hy
    injection hy with hy
    subst hy
    simp only at hk
    omega
  obtain ⟨p, u, h1, h2, h3', h4, _, _⟩ := h.next j y hy (by omega)
  have : p = k := by omega
  subst this
  exact ⟨h2, u, h3', h4⟩
theorem Tree.leaf {vs : List (Int × Int)} (h : Tree vs) {k : Nat} {x : Int × Int} (hx : vs[k]? = some x) (h3 : x.2 = 3) : kidsN vs k = 0 := by
  unfold kidsN
  cases hm : those (fun x => x.1 == (k : Int)) vs with
  | nil => rfl
  | cons z zs =>
    obtain ⟨j, y, _, hy, hp⟩ := mem_those.1 (show z ∈ those (fun x => x.1 == (k : Int)) vs by rw [hm]; exact List.mem_cons_self)
    obtain ⟨_, u, hu, e⟩ := h.kid hy (by simpa using hp)
    rw [hx] at hu
    injection hu with hu
    subst hu
    have := (h.level hy).2
    omega
theorem Tree.kids {vs : List (Int × Int)} (h : Tree vs) {k : Nat} {x : Int × Int} (hx : vs[k]? = some x) : kidsN vs k ≤ 8 ∧ (kidsN vs k = 0 ↔ x.2 = 3) := by
  have hkl := (List.getElem?_eq_some_iff.1 hx).1
  by_cases h3 : x.2 < 3
  · have hf := h.filled k hkl
    unfold Tp.filled at hf
    rw [hx, Option.getD_some, if_neg (by omega), Bool.and_eq_true, decide_eq_true_eq, decide_eq_true_eq] at hf
    omega
  · have e : x.2 = 3 := by have := (h.level hx).2; omega
    rw [h.leaf hx e]
    omega
theorem thoseF_rise (p : Int × Int → Bool) : ∀ (xs : List (Int × Int)) (k : Nat), (thoseF p k xs).Pairwise (· < ·) ∧ ∀ z ∈ thoseF p k xs, (k : Int) ≤ z := by
  intro xs
  induction xs with
  | nil => intro k; simp [thoseF]
  | cons y ys ih =>
    intro k
    obtain ⟨i1, i2⟩ := ih (k + 1)
    rw [thoseF]
    split
    · refine ⟨List.pairwise_cons.2 ⟨fun z hz => ?_, i1⟩, fun z hz => ?_⟩
      · have := i2 z hz; omega
      · rcases List.mem_cons.1 hz with rfl | hz
        · exact Int.le_refl _
        · have := i2 z hz; omega
    · exact ⟨i1, fun z hz => by have := i2 z hz; omega⟩
theorem those_rise {p : Int × Int → Bool} {vs : List (Int × Int)} {i j : Nat} {a b : Int} (hi : (those p vs)[i]? = some a) (hj : (those p vs)[j]? = some b) (hij : i < j) : a < b := by
  have h := (thoseF_rise p vs 0).1
  obtain ⟨hil, ei⟩ := List.getElem?_eq_some_iff.1 hi
  obtain ⟨hjl, ej⟩ := List.getElem?_eq_some_iff.1 hj
  have := (List.pairwise_iff_getElem.1 h) i j hil hjl hij
  unfold those at ei ej
  rw [ei, ej] at this
  exact this
theorem has_level {vs : List (Int × Int)} {k : Nat} {x : Int × Int} {l : Int} (hx : vs[k]? = some x) : has (those (fun x => x.2 == l) vs) k = (x.2 == l) := by
  unfold has
  rw [Bool.eq_iff_iff, List.contains_iff_mem, mem_those]
  constructor
  · rintro ⟨j, y, e, hy, hp⟩
    have : k = j := by omega
    subst this
    rw [hx] at hy
    injection hy with hy
    subst hy
    exact hp
  · intro hp
    exact ⟨k, x, rfl, hx, hp⟩
def countF (p : Int × Int → Bool) : List (Int × Int) → Nat
  | [] => 0
  | x :: xs => (if p x then 1 else 0) + countF p xs
theorem thoseF_len (p : Int × Int → Bool) : ∀ (xs : List (Int × Int)) (k : Nat), (thoseF p k xs).length = countF p xs := by
  intro xs
  induction xs with
  | nil => intro k; rfl
  | cons y ys ih =>
    intro k
    rw [thoseF, countF]
    split <;> simp [ih] <;> omega
theorem countF_add (p q r : Int × Int → Bool) (h : ∀ x, (if r x then 1 else 0) = (if p x then 1 else 0) + (if q x then (1 : Nat) else 0)) : ∀ xs, countF r xs = countF p xs + countF q xs := by
  intro xs
  induction xs with
  | nil => rfl
  | cons y ys ih => rw [countF, countF, countF, ih, h y]; omega
theorem countF_le (p : Int × Int → Bool) : ∀ xs, countF p xs ≤ xs.length := by
  intro xs
  induction xs with
  | nil => exact Nat.le_refl _
  | cons y ys ih => rw [countF, List.length_cons]; split <;> omega
theorem countF_all (p : Int × Int → Bool) : ∀ (xs : List (Int × Int)), (∀ x ∈ xs, p x = true) → countF p xs = xs.length := by
  intro xs
  induction xs with
  | nil => intro _; rfl
  | cons y ys ih => intro h; rw [countF, ih (fun x hx => h x (List.mem_cons_of_mem _ hx)), h y List.mem_cons_self, List.length_cons]; simp; omega
/-- How many lie below the first m vertices, all together. -/
def belowN (vs : List (Int × Int)) (m : Nat) : Nat := countF (fun x => decide (0 ≤ x.1 ∧ x.1 < m)) vs
theorem belowN_zero (vs : List (Int × Int)) : belowN vs 0 = 0 := by
  unfold belowN
  induction vs with
  | nil => rfl
  | cons y ys ih =>
    rw [countF, ih]
    have : decide (0 ≤ y.1 ∧ y.1 < ((0 : Nat) : Int)) = false := by simp
    rw [this]; rfl
theorem belowN_succ (vs : List (Int × Int)) (m : Nat) : belowN vs (m + 1) = belowN vs m + kidsN vs m := by
  unfold belowN kidsN those
  rw [thoseF_len]
  refine countF_add _ _ _ (fun x => ?_) vs
  by_cases h1 : 0 ≤ x.1 ∧ x.1 < (m : Int)
  · have h2 : ¬ x.1 = m := by omega
    have h3 : 0 ≤ x.1 ∧ x.1 < ((m + 1 : Nat) : Int) := by omega
    rw [decide_eq_true h1, decide_eq_true h3, beq_eq_false_iff_ne.2 h2]; rfl
  · by_cases h2 : x.1 = m
    · have h3 : 0 ≤ x.1 ∧ x.1 < ((m + 1 : Nat) : Int) := by omega
      rw [decide_eq_false h1, decide_eq_true h3, beq_iff_eq.2 h2]; rfl
    · have h3 : ¬ (0 ≤ x.1 ∧ x.1 < ((m + 1 : Nat) : Int)) := by omega
      rw [decide_eq_false h1, decide_eq_false h3, beq_eq_false_iff_ne.2 h2]; rfl
theorem belowN_le (vs : List (Int × Int)) (m : Nat) : belowN vs m ≤ vs.length := countF_le _ _
theorem Tree.belowN {vs : List (Int × Int)} (h : Tree vs) : Tp.belowN vs vs.length = vs.length - 1 := by
  have h0 := h.first
  have hk : ∀ k x, vs[k]? = some x → 0 < k → 0 ≤ x.1 ∧ x.1 < (vs.length : Int) := fun k x hx hk => by
    obtain ⟨p, _, e, hp, _⟩ := h.next k x hx hk
    have := (List.getElem?_eq_some_iff.1 hx).1
    omega
  unfold Tp.belowN
  generalize hn : vs.length = n at hk ⊢
  cases vs with
  | nil => simp at h0
  | cons y ys =>
    injection h0 with h0
    subst h0
    rw [List.length_cons] at hn
    rw [countF, countF_all _ ys (fun x hx => ?_)]
    · simp; omega
    · obtain ⟨i, hi⟩ := List.mem_iff_getElem?.1 hx
      exact decide_eq_true (hk (i + 1) x hi (by omega))
/-- There are a node, and a processor below each node. -/
theorem Tree.node {vs : List (Int × Int)} (h : Tree vs) : ∃ (j : Nat) (y : Int × Int), vs[j]? = some y ∧ y.2 = 1 := by
  obtain ⟨j, y, _, hy, _, e⟩ := h.child h.first (by decide)
  exact ⟨j, y, hy, e⟩
theorem Tree.below {vs : List (Int × Int)} (h : Tree vs) {k : Nat} {x : Int × Int} (hx : vs[k]? = some x) (h1 : x.2 = 1) : ∃ (j : Nat) (y : Int × Int), vs[j]? = some y ∧ y.2 = 3 ∧ Tp.up vs 1 vs.length j = k := by
  have hkl := (List.getElem?_eq_some_iff.1 hx).1
  obtain ⟨i, y, _, hy, hyk, ey⟩ := h.child hx (by omega)
  obtain ⟨j, z, _, hz, hzi, ez⟩ := h.child hy (by omega)
  have hil := (List.getElem?_eq_some_iff.1 hy).1
  have hjl := (List.getElem?_eq_some_iff.1 hz).1
  refine ⟨j, z, hz, by omega, ?_⟩
  rw [up_step hjl hz (by omega), hzi, up_step (by omega) hy (by omega), hyk, up_hit (by omega) hx h1]
theorem may_long {vs : List (Int × Int)} (h : 64 < vs.length) : may vs = false := Tree.not (fun t => by have := t.few; omega)
theorem may_nil : may [] = false := Tree.not (fun t => by have := t.pos; simp at this)
theorem Tree.two {vs : List (Int × Int)} (h : Tree vs) : 2 ≤ vs.length := by
  obtain ⟨j, y, hj, hy, _⟩ := h.child h.first (by decide)
  have := (List.getElem?_eq_some_iff.1 hy).1
  omega
theorem Tree.drop1 {vs : List (Int × Int)} (h : Tree vs) : may (vs.drop 1) = false := Tree.not (fun t => by
  have h0 := t.first
  rw [List.getElem?_drop] at h0
  obtain ⟨p, _, e, _⟩ := h.next _ _ h0 (by omega)
  simp only at e
  omega)
theorem Tree.none_below {vs : List (Int × Int)} (h : Tree vs) : kidsN vs vs.length = 0 := by
  unfold kidsN
  cases hm : those (fun x => x.1 == (vs.length : Int)) vs with
  | nil => rfl
  | cons z zs =>
    obtain ⟨j, y, _, hy, hp⟩ := mem_those.1 (show z ∈ those (fun x => x.1 == (vs.length : Int)) vs by rw [hm]; exact List.mem_cons_self)
    have := (h.kid hy (by simpa using hp)).1
    have := (List.getElem?_eq_some_iff.1 hy).1
    omega
theorem Tree.twin {vs : List (Int × Int)} (h : Tree vs) {k : Nat} {x : Int × Int} (hx : vs[k]? = some x) : may (vs ++ [((k : Int), x.2)]) = false := Tree.not (fun t => by
  have hk := (List.getElem?_eq_some_iff.1 hx).1
  obtain ⟨p, y, e1, _, e3, e4, _, _⟩ := t.next vs.length ((k : Int), x.2) (by rw [List.getElem?_append_right (Nat.le_refl _)]; simp) h.pos
  have : p = k := by simp only at e1; omega
  subst this
  rw [List.getElem?_append_left hk, hx] at e3
  injection e3 with e3
  subst e3
  simp only at e4
  omega)
theorem Tree.self {vs : List (Int × Int)} (h : Tree vs) : may (vs ++ [((vs.length : Int), 3)]) = false := Tree.not (fun t => by
  obtain ⟨p, y, e1, e2, _⟩ := t.next vs.length ((vs.length : Int), 3) (by rw [List.getElem?_append_right (Nat.le_refl _)]; simp) h.pos
  simp only at e1
  omega)
theorem Tree.moved {vs : List (Int × Int)} (h : Tree vs) {k : Nat} {x : Int × Int} (hx : vs[k]? = some x) : may (vs.set k (x.1 + 64, x.2)) = false := Tree.not (fun t => by
  have hk := (List.getElem?_eq_some_iff.1 hx).1
  have hs : (vs.set k (x.1 + 64, x.2))[k]? = some (x.1 + 64, x.2) := by rw [List.getElem?_set_self hk]
  by_cases e : k = 0
  · subst e
    have h0 := t.first
    rw [hs] at h0
    rw [h.first] at hx
    injection hx with hx
    subst hx
    injection h0 with h0
    injection h0 with h0 _
    simp only at h0
    omega
  · obtain ⟨p, _, e1, e2, _⟩ := t.next k _ hs (by omega)
    obtain ⟨p', _, e1', _⟩ := h.next k x hx (by omega)
    have := h.few
    simp only at e1
    omega)
theorem kidsN_count (vs : List (Int × Int)) (k : Nat) : kidsN vs k = countF (fun x => x.1 == (k : Int)) vs := thoseF_len _ vs 0
theorem countF_append (p : Int × Int → Bool) : ∀ a b, countF p (a ++ b) = countF p a + countF p b := by
  intro a b
  induction a with
  | nil => simp [countF]
  | cons y ys ih => rw [List.cons_append, countF, countF, ih]; omega
theorem hangs_take {vs : List (Int × Int)} {m k : Nat} (hk : k < m) (hm : m ≤ vs.length) (hh : Tp.hangs vs k = true) : Tp.hangs (vs.take m) k = true := by
  obtain ⟨x, hx⟩ : ∃ x, vs[k]? = some x := ⟨_, List.getElem?_eq_getElem (by omega)⟩
  have hx' : (vs.take m)[k]? = some x := by rw [List.getElem?_take, if_pos hk]; exact hx
  unfold Tp.hangs at hh ⊢
  rw [hx] at hh
  rw [hx']
  simp only [Option.getD_some] at hh ⊢
  unfold hangsX at hh ⊢
  split
  · rename_i e
    rw [if_pos e] at hh
    exact hh
  · rename_i e
    rw [if_neg e] at hh
    split
    · rename_i e2
      rw [if_pos e2] at hh
      cases hh
    · rename_i e2
      rw [if_neg e2] at hh
      rw [List.getElem?_take, if_pos (by omega)]
      exact hh
/-- Without its last vertex a tree is one, just if that had a sister. -/
theorem Tree.less {vs : List (Int × Int)} (h : Tree vs) : ∃ (p : Nat) (u : Int × Int), vs[vs.length - 1]? = some u ∧ u.1 = p ∧ u.2 = 3 ∧ may (vs.take (vs.length - 1)) = decide (1 < kidsN vs p) := by
  have h2 := h.two
  obtain ⟨u, hu⟩ : ∃ u, vs[vs.length - 1]? = some u := ⟨_, List.getElem?_eq_getElem (by omega)⟩
  obtain ⟨p, y, e1, e2, e3, e4, e5, e6⟩ := h.next _ u hu (by omega)
  have hu3 : u.2 = 3 := by
    by_cases e : u.2 < 3
    · obtain ⟨j, z, hj, hz, _⟩ := h.child hu e
      have := (List.getElem?_eq_some_iff.1 hz).1
      omega
    · omega
  have hsplit : vs = vs.take (vs.length - 1) ++ [u] := by
    have := List.take_append_drop (vs.length - 1) vs
    rw [List.drop_eq_getElem_cons (by omega), List.drop_of_length_le (by omega)] at this
    rw [List.getElem?_eq_getElem (by omega)] at hu
    injection hu with hu
    rw [hu] at this
    exact this.symm
  have hkids : ∀ k, kidsN vs k = kidsN (vs.take (vs.length - 1)) k + if u.1 == (k : Int) then 1 else 0 := by
    intro k
    rw [kidsN_count, kidsN_count]
    conv => lhs; rw [hsplit]
    rw [countF_append]
    simp [countF]
  refine ⟨p, u, hu, e1, hu3, ?_⟩
  have hy' : (vs.take (vs.length - 1))[p]? = some y := by rw [List.getElem?_take, if_pos (by omega)]; exact e3
  have hlen : (vs.take (vs.length - 1)).length = vs.length - 1 := by rw [List.length_take]; omega
  have hkp := hkids p
  rw [beq_iff_eq.2 e1] at hkp
  simp only [if_true] at hkp
  by_cases hk : 1 < kidsN vs p
  · rw [decide_eq_true hk, tree_iff]
    refine ⟨by omega, by have := h.few; omega, ?_, fun k hkl => hangs_take (by omega) (by omega) (h.hangs k (by omega)), fun k hkl => ?_⟩
    · have := h.procs
      unfold those at this ⊢
      rw [thoseF_len] at this ⊢
      rw [hsplit, countF_append] at this
      omega
    · obtain ⟨x, hx⟩ : ∃ x, vs[k]? = some x := ⟨_, List.getElem?_eq_getElem (by omega)⟩
      have hx' : (vs.take (vs.length - 1))[k]? = some x := by rw [List.getElem?_take, if_pos (by omega)]; exact hx
      have hf := h.filled k (by omega)
      unfold Tp.filled at hf ⊢
      rw [hx] at hf
      rw [hx']
      simp only [Option.getD_some] at hf ⊢
      split
      · rfl
      · rename_i e
        rw [if_neg e] at hf
        simp only [Bool.and_eq_true, decide_eq_true_eq] at hf ⊢
        have := hkids k
        by_cases ek : k = p
        · subst ek
          omega
        · have := hkids k
          rw [beq_eq_false_iff_ne.2 (show u.1 ≠ (k : Int) by omega)] at this
          simp at this
          omega
  · rw [decide_eq_false hk]
    refine Tree.not (fun t => ?_)
    obtain ⟨_, h8⟩ := t.kids hy'
    have : kidsN (vs.take (vs.length - 1)) p = 0 := by omega
    have := h8.1 this
    omega
end Go.Proofs.YthbeldmgaioemaaDoor.Tp


/- Layer 2 in plain mathematics: how far processors are from each other, their nodes, who is near. -/
namespace Go.Proofs.YthbeldmgaioemaaDoor.Dp
open Go.Proofs.YthbeldmgaioemaaDoor

/-- The processors, and the nodes, by their vertices. -/
def procs (vs : List (Int × Int)) : List Int := Tp.those (fun x => x.2 == 3) vs
def nodes (vs : List (Int × Int)) : List Int := Tp.those (fun x => x.2 == 1) vs
/-- How many processors; 0, if the tree may not be. -/
def procsN (vs : List (Int × Int)) : Nat := if Tp.may vs then (procs vs).length else 0
/-- What lies above a processor, d levels up. -/
def above (vs : List (Int × Int)) (d : Int) (v : Int) : Int := Tp.up vs (3 - d) vs.length v
def farV (vs : List (Int × Int)) (v w : Int) : Int :=
  if above vs 0 v = above vs 0 w then 0 else if above vs 1 v = above vs 1 w then 1 else if above vs 2 v = above vs 2 w then 2 else 3
def proc (vs : List (Int × Int)) (a : Int) : Int := (procs vs)[a.toNat]?.getD 0
def far (vs : List (Int × Int)) (a b : Int) : Int :=
  if a < 0 ∨ (procsN vs : Int) ≤ a ∨ b < 0 ∨ (procsN vs : Int) ≤ b then -1 else farV vs (proc vs a) (proc vs b)
/-- The place of a vertex among the nodes; -1, if it is none. -/
def place (l : List Int) (v : Int) : Int := if v ∈ l then (l.idxOf v : Int) else -1
def node (vs : List (Int × Int)) (p : Int) : Int :=
  if p < 0 ∨ (procsN vs : Int) ≤ p then -1 else place (nodes vs) (above vs 2 (proc vs p))
/-- All others, of one distance, in turn from p on. -/
def ringF (vs : List (Int × Int)) (p d : Int) (n : Nat) : Nat → List Int
  | 0 => []
  | k + 1 => ringF vs p d n k ++ if far vs p ((p + (k + 1 : Nat)) % n) = d then [(p + (k + 1 : Nat)) % n] else []
def ring (vs : List (Int × Int)) (p d : Int) : List Int := ringF vs p d (procsN vs) (procsN vs - 1)
def near (vs : List (Int × Int)) (p : Int) : List Int :=
  if p < 0 ∨ (procsN vs : Int) ≤ p then [] else ring vs p 1 ++ ring vs p 2 ++ ring vs p 3

section
variable {vs : List (Int × Int)} (T : Tp.Tree vs)
include T

theorem procsN_tree : procsN vs = (procs vs).length := by unfold procsN; rw [if_pos ((Tp.tree_iff vs).2 T)]
omit T in
theorem is_proc {v : Int} (h : v ∈ procs vs) : ∃ (k : Nat) (x : Int × Int), v = k ∧ vs[k]? = some x ∧ x.2 = 3 := by
  obtain ⟨j, x, e, hx, hp⟩ := Tp.mem_those.1 h
  exact ⟨j, x, e, hx, by simpa using hp⟩
theorem proc_mem {a : Int} (h0 : 0 ≤ a) (h1 : a < procsN vs) : (procs vs)[a.toNat]? = some (proc vs a) ∧ proc vs a ∈ procs vs := by
  rw [procsN_tree T] at h1
  have hl : a.toNat < (procs vs).length := by omega
  have e : (procs vs)[a.toNat]? = some (proc vs a) := by
    unfold proc
    rw [List.getElem?_eq_getElem hl]; rfl
  exact ⟨e, List.mem_of_getElem? e⟩
/-- The chain above a processor: a vertex, its core, its node, the machine. -/
theorem chain {v : Int} (h : v ∈ procs vs) : ∃ (k c m : Nat) (x y z : Int × Int), v = k ∧ vs[k]? = some x ∧ x.1 = c ∧ vs[c]? = some y ∧ y.1 = m ∧ vs[m]? = some z ∧ z.1 = 0 ∧ x.2 = 3 ∧ y.2 = 2 ∧ z.2 = 1 ∧
    above vs 0 v = k ∧ above vs 1 v = c ∧ above vs 2 v = m ∧ above vs 3 v = 0 := by
  obtain ⟨k, x, rfl, hx, h3⟩ := is_proc h
  have hkl := (List.getElem?_eq_some_iff.1 hx).1
  have pos : ∀ {j : Nat} {u : Int × Int}, vs[j]? = some u → 0 < u.2 → 0 < j := by
    intro j u hu hu2
    rcases Nat.eq_zero_or_pos j with e | e
    · subst e
      rw [T.first] at hu
      injection hu with hu
      subst hu
      simp at hu2
    · exact e
  obtain ⟨c, y, hxc, hck, hy, exy, _, _⟩ := T.next k x hx (pos hx (by omega))
  obtain ⟨m, z, hym, hmc, hz, eyz, _, _⟩ := T.next c y hy (pos hy (by omega))
  obtain ⟨r, u, hzr, hrm, hu, ezu, _, _⟩ := T.next m z hz (pos hz (by omega))
  have hr0 : r = 0 := by
    rcases Nat.eq_zero_or_pos r with e | e
    · exact e
    · obtain ⟨_, _, _, _, _, q1, q2, _⟩ := T.next r u hu e
      omega
  subst hr0
  rw [T.first] at hu
  injection hu with hu
  subst hu
  simp only at ezu
  refine ⟨k, c, m, x, y, z, rfl, hx, hxc, hy, hym, hz, by rw [hzr]; rfl, h3, by omega, by omega, ?_, ?_, ?_, ?_⟩
  · unfold above; exact Tp.up_hit hkl hx (by omega)
  · unfold above
    rw [Tp.up_step hkl hx (by omega), hxc, Tp.up_hit hck hy (by omega)]
  · unfold above
    rw [Tp.up_step hkl hx (by omega), hxc, Tp.up_step hck hy (by omega), hym, Tp.up_hit hmc hz (by omega)]
  · unfold above
    rw [Tp.up_step hkl hx (by omega), hxc, Tp.up_step hck hy (by omega), hym, Tp.up_step hmc hz (by omega), hzr]
    exact Tp.up_hit hrm T.first rfl
/-- Whoever is one of one level is one of all levels above. -/
theorem above_up {v w : Int} (hv : v ∈ procs vs) (hw : w ∈ procs vs) : (above vs 0 v = above vs 0 w → above vs 1 v = above vs 1 w) ∧ (above vs 1 v = above vs 1 w → above vs 2 v = above vs 2 w) ∧ above vs 3 v = above vs 3 w := by
  obtain ⟨k, c, m, x, y, z, e, hx, hxc, hy, hym, hz, hz0, _, _, _, a0, a1, a2, a3⟩ := chain T hv
  obtain ⟨k', c', m', x', y', z', e', hx', hxc', hy', hym', hz', hz0', _, _, _, b0, b1, b2, b3⟩ := chain T hw
  refine ⟨fun h => ?_, fun h => ?_, by rw [a3, b3]⟩
  · have : k = k' := by omega
    subst this
    rw [hx] at hx'
    injection hx' with hx'
    subst hx'
    rw [a1, b1]
    omega
  · have : c = c' := by omega
    subst this
    rw [hy] at hy'
    injection hy' with hy'
    subst hy'
    rw [a2, b2]
    omega
theorem above0 {v : Int} (hv : v ∈ procs vs) : above vs 0 v = v := by
  obtain ⟨k, c, m, x, y, z, e, hx, hxc, hy, hym, hz, hz0, _, _, _, a0, a1, a2, a3⟩ := chain T hv
  rw [a0, e]
end
theorem farV_bounds (vs : List (Int × Int)) (v w : Int) : 0 ≤ farV vs v w ∧ farV vs v w ≤ 3 := by unfold farV; split <;> (try split) <;> (try split) <;> omega
theorem farV_comm (vs : List (Int × Int)) (v w : Int) : farV vs v w = farV vs w v := by
  unfold farV
  simp only [eq_comm (a := above vs 0 v), eq_comm (a := above vs 1 v), eq_comm (a := above vs 2 v)]
theorem farV_self (vs : List (Int × Int)) (v : Int) : farV vs v v = 0 := by unfold farV; rw [if_pos rfl]
theorem farV_zero {vs : List (Int × Int)} (T : Tp.Tree vs) {v w : Int} (hv : v ∈ procs vs) (hw : w ∈ procs vs) : farV vs v w = 0 ↔ v = w := by
  constructor
  · intro h
    unfold farV at h
    split at h
    · rename_i e
      rw [above0 T hv, above0 T hw] at e
      exact e
    · split at h
      · omega
      · split at h <;> omega
  · rintro rfl; exact farV_self _ _
/-- Far is below d + 1, just if the two are one d levels up. -/
theorem farV_le {vs : List (Int × Int)} (T : Tp.Tree vs) {v w : Int} (hv : v ∈ procs vs) (hw : w ∈ procs vs) :
    (farV vs v w ≤ 0 ↔ above vs 0 v = above vs 0 w) ∧ (farV vs v w ≤ 1 ↔ above vs 1 v = above vs 1 w) ∧ (farV vs v w ≤ 2 ↔ above vs 2 v = above vs 2 w) := by
  obtain ⟨u0, u1, _⟩ := above_up T hv hw
  by_cases e0 : above vs 0 v = above vs 0 w
  · have e1 := u0 e0
    have e2 := u1 e1
    have : farV vs v w = 0 := by unfold farV; rw [if_pos e0]
    simp only [this, e0, e1, e2]; simp
  · by_cases e1 : above vs 1 v = above vs 1 w
    · have e2 := u1 e1
      have : farV vs v w = 1 := by unfold farV; rw [if_neg e0, if_pos e1]
      simp only [this, e0, e1, e2]; simp
    · by_cases e2 : above vs 2 v = above vs 2 w
      · have : farV vs v w = 2 := by unfold farV; rw [if_neg e0, if_neg e1, if_pos e2]
        simp only [this, e0, e1, e2]; simp
      · have : farV vs v w = 3 := by unfold farV; rw [if_neg e0, if_neg e1, if_neg e2]
        simp only [this, e0, e1, e2]; simp
theorem farV_three {vs : List (Int × Int)} (T : Tp.Tree vs) {u v w : Int} (hu : u ∈ procs vs) (hv : v ∈ procs vs) (hw : w ∈ procs vs) : farV vs u w ≤ farV vs u v ∨ farV vs u w ≤ farV vs v w := by
  obtain ⟨a0, a1, a2⟩ := farV_le T hu hv
  obtain ⟨b0, b1, b2⟩ := farV_le T hv hw
  obtain ⟨c0, c1, c2⟩ := farV_le T hu hw
  have x := farV_bounds vs u w
  have y := farV_bounds vs u v
  have z := farV_bounds vs v w
  by_cases h : farV vs u w ≤ farV vs u v
  · exact .inl h
  · by_cases h' : farV vs u w ≤ farV vs v w
    · exact .inr h'
    · exfalso
      rcases (show farV vs u w = 1 ∨ farV vs u w = 2 ∨ farV vs u w = 3 by omega) with e | e | e
      · have := c0.2 ((a0.1 (by omega)).trans (b0.1 (by omega))); omega
      · have := c1.2 ((a1.1 (by omega)).trans (b1.1 (by omega))); omega
      · have := c2.2 ((a2.1 (by omega)).trans (b2.1 (by omega))); omega
theorem above_step {vs : List (Int × Int)} (T : Tp.Tree vs) {v : Int} (hv : v ∈ procs vs) {d : Nat} (hd : d ≤ 2) : ∃ (k : Nat) (x : Int × Int), above vs d v = k ∧ vs[k]? = some x ∧ x.1 = above vs ((d + 1 : Nat) : Int) v := by
  obtain ⟨k, c, m, x, y, z, e, hx, hxc, hy, hym, hz, hz0, _, _, _, a0, a1, a2, a3⟩ := chain T hv
  match d, hd with
  | 0, _ => exact ⟨k, x, a0, hx, hxc.trans a1.symm⟩
  | 1, _ => exact ⟨c, y, a1, hy, hym.trans a2.symm⟩
  | 2, _ => exact ⟨m, z, a2, hz, hz0.trans a3.symm⟩
theorem farV_is {vs : List (Int × Int)} {v w : Int} {d : Nat} (hd : d ≤ 3) (he : d ≤ 2 → above vs d v = above vs d w) (hne : ∀ e : Nat, e < d → above vs e v ≠ above vs e w) : farV vs v w = d := by
  unfold farV
  match d, hd with
  | 0, _ =>
    have e0 : above vs 0 v = above vs 0 w := he (by omega)
    rw [if_pos e0]; rfl
  | 1, _ =>
    have n0 : ¬ above vs 0 v = above vs 0 w := hne 0 (by omega)
    have e1 : above vs 1 v = above vs 1 w := he (by omega)
    rw [if_neg n0, if_pos e1]; rfl
  | 2, _ =>
    have n0 : ¬ above vs 0 v = above vs 0 w := hne 0 (by omega)
    have n1 : ¬ above vs 1 v = above vs 1 w := hne 1 (by omega)
    have e2 : above vs 2 v = above vs 2 w := he (by omega)
    rw [if_neg n0, if_neg n1, if_pos e2]; rfl
  | 3, _ =>
    have n0 : ¬ above vs 0 v = above vs 0 w := hne 0 (by omega)
    have n1 : ¬ above vs 1 v = above vs 1 w := hne 1 (by omega)
    have n2 : ¬ above vs 2 v = above vs 2 w := hne 2 (by omega)
    rw [if_neg n0, if_neg n1, if_neg n2]; rfl
theorem far_out {vs : List (Int × Int)} {a b : Int} (h : a < 0 ∨ (procsN vs : Int) ≤ a ∨ b < 0 ∨ (procsN vs : Int) ≤ b) : far vs a b = -1 := by unfold far; rw [if_pos h]
theorem far_in {vs : List (Int × Int)} {a b : Int} (h : ¬ (a < 0 ∨ (procsN vs : Int) ≤ a ∨ b < 0 ∨ (procsN vs : Int) ≤ b)) : far vs a b = farV vs (proc vs a) (proc vs b) := by unfold far; rw [if_neg h]
theorem tree_of_in {vs : List (Int × Int)} {a : Int} (h0 : 0 ≤ a) (h1 : a < procsN vs) : Tp.Tree vs := by
  rw [← Tp.tree_iff]
  unfold procsN at h1
  split at h1
  · assumption
  · simp at h1; omega
theorem place_out {l : List Int} {v : Int} (h : v ∉ l) : place l v = -1 := by unfold place; rw [if_neg h]
theorem place_hit {l : List Int} {v : Int} {k : Nat} (hk : l[k]? = some v) (h : v ∉ l.take k) : place l v = k := by
  unfold place
  rw [if_pos (List.mem_of_getElem? hk)]
  obtain ⟨hl, e⟩ := List.getElem?_eq_some_iff.1 hk
  have hs : l = l.take k ++ (v :: l.drop (k + 1)) := by
    rw [← e, ← List.drop_eq_getElem_cons hl, List.take_append_drop]
  have : l.idxOf v = k := by
    rw [hs, List.idxOf_append, if_neg h, List.idxOf_cons]
    simp [List.length_take]
    omega
  rw [this]
theorem node_out {vs : List (Int × Int)} {p : Int} (h : p < 0 ∨ (procsN vs : Int) ≤ p) : node vs p = -1 := by unfold node; rw [if_pos h]
theorem node_in {vs : List (Int × Int)} {p : Int} (h : ¬ (p < 0 ∨ (procsN vs : Int) ≤ p)) : node vs p = place (nodes vs) (Tp.up vs 1 vs.length (proc vs p)) := by
  unfold node; rw [if_neg h]; rfl
def nearTo (vs : List (Int × Int)) (p : Int) : Nat → List Int
  | 0 => []
  | d + 1 => nearTo vs p d ++ ring vs p ((d + 1 : Nat) : Int)
theorem near_out {vs : List (Int × Int)} {p : Int} (h : p < 0 ∨ (procsN vs : Int) ≤ p) : near vs p = [] := by unfold near; rw [if_pos h]
theorem near_in {vs : List (Int × Int)} {p : Int} (h : ¬ (p < 0 ∨ (procsN vs : Int) ≤ p)) : near vs p = nearTo vs p 3 := by
  unfold near; rw [if_neg h]; rfl
theorem ringF_le (vs : List (Int × Int)) (p d : Int) (n : Nat) : ∀ k, (ringF vs p d n k).length ≤ k := by
  intro k
  induction k with
  | zero => exact Nat.le_refl _
  | succ k ih => rw [ringF, List.length_append]; split <;> simp <;> omega
theorem nearTo_le (vs : List (Int × Int)) (p : Int) : ∀ d, (nearTo vs p d).length ≤ d * procsN vs := by
  intro d
  induction d with
  | zero => simp [nearTo]
  | succ d ih =>
    rw [nearTo, List.length_append]
    have := ringF_le vs p ((d + 1 : Nat) : Int) (procsN vs) (procsN vs - 1)
    unfold ring
    rw [Nat.succ_mul]; omega
theorem above2_node {vs : List (Int × Int)} (T : Tp.Tree vs) {v : Int} (hv : v ∈ procs vs) : above vs 2 v ∈ nodes vs := by
  obtain ⟨k, c, m, x, y, z, e, hx, hxc, hy, hym, hz, hz0, _, _, z1, a0, a1, a2, a3⟩ := chain T hv
  rw [a2]
  exact Tp.mem_those.2 ⟨m, z, rfl, hz, by simpa using z1⟩
theorem place_mem {l : List Int} {v : Int} (h : v ∈ l) : ∃ k : Nat, place l v = k ∧ k < l.length ∧ l[k]? = some v := by
  unfold place
  rw [if_pos h]
  have hl : l.idxOf v < l.length := List.idxOf_lt_length_iff.2 h
  exact ⟨_, rfl, hl, by rw [List.getElem?_eq_getElem hl, List.getElem_idxOf hl]⟩
theorem place_inj {l : List Int} {v w : Int} (hv : v ∈ l) (hw : w ∈ l) : place l v = place l w ↔ v = w := by
  constructor
  · intro h
    obtain ⟨k, e1, _, e2⟩ := place_mem hv
    obtain ⟨k', e1', _, e2'⟩ := place_mem hw
    have : k = k' := by omega
    subst this
    rw [e2] at e2'
    injection e2'
  · rintro rfl; rfl
/-- What far says of a and b where it is no -1. -/
theorem far_pos {vs : List (Int × Int)} {a b : Int} (h : 0 ≤ far vs a b) : Tp.Tree vs ∧ 0 ≤ a ∧ a < procsN vs ∧ 0 ≤ b ∧ b < procsN vs ∧ proc vs a ∈ procs vs ∧ proc vs b ∈ procs vs ∧ far vs a b = farV vs (proc vs a) (proc vs b) := by
  by_cases ho : a < 0 ∨ (procsN vs : Int) ≤ a ∨ b < 0 ∨ (procsN vs : Int) ≤ b
  · rw [far_out ho] at h; omega
  · have T := tree_of_in (vs := vs) (a := a) (by omega) (by omega)
    exact ⟨T, by omega, by omega, by omega, by omega, (proc_mem T (by omega) (by omega)).2, (proc_mem T (by omega) (by omega)).2, far_in ho⟩
theorem node_eq {vs : List (Int × Int)} {a b : Int} (h : 0 ≤ far vs a b) : node vs a = node vs b ↔ far vs a b < 3 := by
  obtain ⟨T, a0, a1, b0, b1, ma, mb, e⟩ := far_pos h
  have na : node vs a = place (nodes vs) (above vs 2 (proc vs a)) := by unfold node; rw [if_neg (by omega)]
  have nb : node vs b = place (nodes vs) (above vs 2 (proc vs b)) := by unfold node; rw [if_neg (by omega)]
  rw [na, nb, place_inj (above2_node T ma) (above2_node T mb), e, ← (farV_le T ma mb).2.2]
  omega
theorem far_three {vs : List (Int × Int)} {a b c : Int} (h1 : 0 ≤ far vs a b) (h2 : 0 ≤ far vs b c) (h3 : 0 ≤ far vs a c) : far vs a c ≤ far vs a b ∨ far vs a c ≤ far vs b c := by
  obtain ⟨T, _, _, _, _, ma, mb, e1⟩ := far_pos h1
  obtain ⟨_, _, _, _, _, _, mc, e2⟩ := far_pos h2
  obtain ⟨_, _, _, _, _, _, _, e3⟩ := far_pos h3
  rw [e1, e2, e3]
  exact farV_three T ma mb mc
theorem far_bounds (vs : List (Int × Int)) (a b : Int) : -1 ≤ far vs a b ∧ far vs a b ≤ 3 := by
  unfold far
  have := farV_bounds vs (proc vs a) (proc vs b)
  split <;> omega
/-- Far is how many levels up the two are one for the first time. -/
theorem farV_above {vs : List (Int × Int)} (T : Tp.Tree vs) {v w : Int} (hv : v ∈ procs vs) (hw : w ∈ procs vs) :
    above vs (farV vs v w) v = above vs (farV vs v w) w ∧ (0 < farV vs v w → above vs (farV vs v w - 1) v ≠ above vs (farV vs v w - 1) w) := by
  obtain ⟨c0, c1, c2⟩ := farV_le T hv hw
  have c3 := (above_up T hv hw).2.2
  have bd := farV_bounds vs v w
  generalize farV vs v w = d at *
  rcases (show d = 0 ∨ d = 1 ∨ d = 2 ∨ d = 3 by omega) with rfl | rfl | rfl | rfl
  · exact ⟨c0.1 (by omega), fun h => by omega⟩
  · exact ⟨c1.1 (by omega), fun _ h => absurd (c0.2 h) (by omega)⟩
  · exact ⟨c2.1 (by omega), fun _ h => absurd (c1.2 h) (by omega)⟩
  · exact ⟨c3, fun _ h => absurd (c2.2 h) (by omega)⟩
end Go.Proofs.YthbeldmgaioemaaDoor.Dp


/- A list of lists that a call has made, and the table of layer 2. -/
namespace Go.Proofs.YthbeldmgaioemaaDoor
open Go.RowKit

/-- The rows of numbers behind a slice's address, each a slice of its own, all below block B. -/
def RRow (w : World) (B : Nat) (A : Option Addr) (rows : List (List Int)) : Prop :=
  ∀ i r, rows[i]? = some r → ∃ b off, A = some ⟨b, off, none⟩ ∧ b < B ∧ ∃ A' c', w.cell? ⟨b, off + i, none⟩ = some (.slice A' r.length c') ∧ IRow w B A' r
theorem RRow.keep {w w' : World} {B : Nat} {A : Option Addr} {rows : List (List Int)} (h : RRow w B A rows) (hk : ∀ p : Addr, p.block < B → w'.cell? p = w.cell? p) : RRow w' B A rows := by
  intro i r hi
  obtain ⟨b, off, e, hb, A', c', hc, hr⟩ := h i r hi
  exact ⟨b, off, e, hb, A', c', (hk _ hb).trans hc, hr.keep hk⟩
theorem RRow.more {w : World} {B B' : Nat} {A : Option Addr} {rows : List (List Int)} (h : RRow w B A rows) (hB : B ≤ B') : RRow w B' A rows := by
  intro i r hi
  obtain ⟨b, off, e, hb, A', c', hc, hr⟩ := h i r hi
  exact ⟨b, off, e, by omega, A', c', hc, hr.more hB⟩
theorem RRow.below {w w' : World} {B : Nat} {A : Option Addr} {rows : List (List Int)} (h : RRow w B A rows) (hb : Below B w w') : RRow w' B A rows := h.keep fun _ hp => hb.cell hp
def MadeRows (w0 : World) (rows : List (List Int)) (e : Ending) (w' : World) : Prop :=
  ∃ A c, e = .returned (.slice A rows.length c) ∧ RRow w' w'.heap.size A rows ∧ Below w0.heap.size w0 w'
/-- The table: of each processor, in turn, how far it is from each. -/
def table (vs : List (Int × Int)) : List (List Int) := (List.range (Dp.procsN vs)).map fun (a : Nat) => (List.range (Dp.procsN vs)).map fun (b : Nat) => Dp.far vs a b
theorem those_len (p : Int × Int → Bool) (vs : List (Int × Int)) : (Tp.those p vs).length ≤ vs.length := Tp.thoseF_le p vs 0
end Go.Proofs.YthbeldmgaioemaaDoor

