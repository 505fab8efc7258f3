/- Contracts and plain mathematics, put together by program (wip/merge.py) out of: RRefMay Those Check Nodes Refs Tree. -/
import Derived.Test.YtcoccegmkcdeiaaDoorM1
import Derived.Test.YtcoccegmkcdeiaaDoorM0
/- The document's May, by its contract. -/
namespace Go.Proofs.YtcoccegmkcdeiaaDoor
open Go.RowKit
set_option linter.unusedVariables false

/-- The first k of a row are above 0, each once. -/
theorem once_snoc {l : List Int} {k : Nat} {z : Int} (hz : l[k]? = some z) : Rp.Once (l.take (k + 1)) ↔ Rp.Once (l.take k) ∧ 1 ≤ z ∧ Tp.has (l.take k) z = false := by
  have e : l.take (k + 1) = l.take k ++ [z] := by rw [List.take_add_one, hz]; rfl
  have hh : Tp.has (l.take k) z = false ↔ z ∉ l.take k := by unfold Tp.has; rw [← Bool.not_eq_true, List.contains_iff_mem]
  rw [e, hh]
  constructor
  · intro h
    refine ⟨h.left, h.1 z (by simp), fun hm => ?_⟩
    exact (List.nodup_append.1 h.2).2.2 z hm z (by simp) rfl
  · rintro ⟨h1, h2, h3⟩
    exact h1.snoc h2 h3
theorem once_take {l : List Int} {k : Nat} (h : Rp.Once l) : Rp.Once (l.take k) := by
  have e : l = l.take k ++ l.drop k := (List.take_append_drop _ _).symm
  rw [e] at h
  exact h.left
set_option maxHeartbeats 1000000 in
theorem refMay_any (x : Int) (A : Option Addr) (n c : Nat) (zs : List Int) (s : Int) (w : World) (h : Row w A n c zs) (hn : n ≤ 100000) :
    Calls Tryd.prog 24 #[.agg #[.int .i64 x, .slice A n c], .int .i64 s] w fun e w' => e = .returned (.bool (Rp.may (x, zs) s)) ∧ Below w.heap.size w w' := by
  have h1 := h.cap
  have h2 := h.most
  have hlen := h.len
  have H := Lib.hid h
  have hb0 := Lib.hid (below_new w (.cells #[.int .i64 x, .slice A n c] 53))
  have c0 : (w.alloc (.cells #[.int .i64 x, .slice A n c] 53)).cell? ⟨w.heap.size, 0, none⟩ = some (.int .i64 x) := by rw [World.cell?_alloc_at _ _ _ _ rfl]; rfl
  have c1 : (w.alloc (.cells #[.int .i64 x, .slice A n c] 53)).cell? ⟨w.heap.size, 1, none⟩ = some (.slice A n c) := by rw [World.cell?_alloc_at _ _ _ _ rfl]; rfl
  obtain ⟨l, hl⟩ : ∃ l, l = Rp.all (x, zs) := ⟨_, rfl⟩
  have HM := Lib.hid (show Rp.may (x, zs) s = (decide (zs.length ≤ Rp.sz s) && decide (Rp.Once l)) by rw [hl]; rfl)
  have hll : l.length ≤ 100001 := by rw [hl]; have := Rp.all_length (x, zs); simp only at this; omega
  have HL := Lib.hid hl
  clear hl h
  go_enter Tryd.func24, Tryd.ntmps24
  go_wp2_with fail
  refine (refAll_any x A n c zs _ (H.out.below hb0.out) hn).mono ?_
  rintro e w1 ⟨A1, n1, q1, rfl, hr1, hb1⟩
  rw [← HL.out] at hr1
  have hl1 := hr1.len
  have hq1 := hr1.cap
  have hq2 := hr1.most
  have d0 := keepcell hb1 c0
  have d1 := keepcell hb1 c1
  have hbe1 := hb0.out.trans (hb1.mono hb0.out.size)
  have R1 := Lib.hid hr1
  clear hr1 c0 c1 hb1
  go_wp2_with fail
  go_loopw [6] (fun i wr => ∃ k : Nat, k ≤ n1 ∧ i = .int .i64 k ∧ Hid (Rp.Once (l.take k)) ∧ Hid (Below w.heap.size w wr) ∧ Hid (Below w1.heap.size w1 wr)) (fun i _ => n1 - (intOf i).toNat)
  case atStart => exact ⟨0, Nat.zero_le _, rfl, Lib.hid ⟨fun x hx => by simp at hx, by simp⟩, Lib.hid hbe1, Lib.hid (Below.refl _ _)⟩
  case round =>
    obtain ⟨k, hk, rfl, HO, HB, HB1⟩ := hrel
    by_cases hlt : k < n1
    · obtain ⟨z, hzk⟩ : ∃ z, l[k]? = some z := ⟨_, List.getElem?_eq_getElem (by omega)⟩
      obtain ⟨b, off, rfl, hbk, hcs⟩ := R1.out.cells (by omega)
      have hck := keepcell HB1.out (hcs k z hzk)
      have HZ := Lib.hid hzk
      have k0 : (0 : Int) ≤ (k : Int) := by omega
      have k1 : (k : Int) < (n1 : Int) := by omega
      have k2 : (k : Int) ≤ (q1 : Int) := by omega
      have G := Lib.hid (fun q => in_any (some ⟨b, off, none⟩) k q1 (l.take k) z (wr.drewN q) (wr.drewN q).heap.size (Lib.hid (by rw [List.length_take]; omega)) (by omega) (((R1.out.below HB1.out).take k hk).row.below (below_drewN (Below.refl _ _) q)))
      clear hcs hzk
      by_cases hz1 : z < 1
      · have t1 : decide (z < 1) = true := by simpa using hz1
        have HF := Lib.hid (show Rp.may (x, zs) s = false by
          rw [HM.out, Bool.and_eq_false_iff]
          right
          rw [decide_eq_false_iff_not]
          intro ho
          have := ((once_snoc HZ.out).1 (once_take ho)).2.1
          omega)
        go_wp2_with fail
        go_quiet (fail)
        go_wp2_with fail
        go_ret
        exact ⟨ret_bool HF.out.symm, below_drewN HB.out _⟩
      · have t1 : decide (z < 1) = false := by simpa using hz1
        cases hh : Tp.has (l.take k) z
        · rw [hh] at G
          have HN := Lib.hid ((once_snoc HZ.out).2 ⟨HO.out, by omega, hh⟩)
          clear hh
          go_wp2_with fail
          go_quiet ((go_at_call 27; (with_reducible exact Calls.quiet_of_same (G.out _))))
          go_wp2_with fail
          go_roundw
          case rel => exact ⟨k + 1, by omega, by go_num, HN, Lib.hid (below_drewN HB.out _), Lib.hid (below_drewN HB1.out _)⟩
          case measure => simp [intOf]; omega
        · rw [hh] at G
          have HF := Lib.hid (show Rp.may (x, zs) s = false by
            rw [HM.out, Bool.and_eq_false_iff]
            right
            rw [decide_eq_false_iff_not]
            intro ho
            have := ((once_snoc HZ.out).1 (once_take ho)).2.2
            rw [hh] at this
            cases this)
          clear hh
          go_wp2_with fail
          go_quiet ((go_at_call 27; (with_reducible exact Calls.quiet_of_same (G.out _))))
          go_wp2_with fail
          go_ret
          exact ⟨ret_bool HF.out.symm, below_drewN HB.out _⟩
    · have hkn : k = n1 := by omega
      subst hkn
      have HO2 := HO.out
      rw [List.take_of_length_le (by omega)] at HO2
      have e0 := keepcell HB1.out d0
      have e1 := keepcell HB1.out d1
      have HO3 := Lib.hid HO2
      clear HO2
      by_cases hs : (n : Int) ≤ s
      · have t1 : decide ((n : Int) ≤ s) = true := by simpa using hs
        have HF := Lib.hid (show Rp.may (x, zs) s = true by
          rw [HM.out, hlen]
          have : n ≤ Rp.sz s := by unfold Rp.sz; split <;> omega
          simp [this, HO3.out])
        go_wp2_with fail
        go_ret
        exact ⟨ret_bool HF.out.symm, HB.out⟩
      · have t1 : decide ((n : Int) ≤ s) = false := by simpa using hs
        have HF := Lib.hid (show Rp.may (x, zs) s = decide ((n : Int) ≤ 2) by
          rw [HM.out, hlen]
          have : decide (n ≤ Rp.sz s) = decide ((n : Int) ≤ 2) := by
            rw [decide_eq_decide]
            unfold Rp.sz; split <;> omega
          simp only [this, HO3.out, decide_true, Bool.and_true])
        go_wp2_with fail
        go_ret
        exact ⟨ret_bool HF.out.symm, HB.out⟩
end Go.Proofs.YtcoccegmkcdeiaaDoor


/- topo.those and its three tests, by contracts: of any vertices the numbers of those that are as asked, in new memory. -/
namespace Go.Proofs.YtcoccegmkcdeiaaDoor
open Go.RowKit
set_option linter.unusedVariables false

theorem kidsTest (p l v : Int) (b : Nat) (w : World) (hc : w.cell? ⟨b, 0, none⟩ = some (.int .i64 v)) (hb : b < w.heap.size) :
    Calls Tryd.prog 77 #[.agg #[.int .i64 p, .int .i64 l], .pointer (some ⟨b, 0, none⟩)] w fun e w' => e = .returned (.bool (p == v)) ∧ Below w.heap.size w w' := by
  go_enter Tryd.func77, Tryd.ntmps77
  go_wp2
  go_ret
  exact ⟨rfl, (Below.refl _ _).alloc (Nat.le_refl _) _⟩
theorem procsTest (p l : Int) (w : World) :
    Calls Tryd.prog 64 #[.agg #[.int .i64 p, .int .i64 l]] w fun e w' => e = .returned (.bool (l == 3)) ∧ Below w.heap.size w w' := by
  go_enter Tryd.func64, Tryd.ntmps64
  go_wp2
  go_ret
  exact ⟨rfl, (Below.refl _ _).alloc (Nat.le_refl _) _⟩
/-- What a test is told to do: it answers p, in every later world. -/
def Tests (w : World) (F : FuncId) (caps : Array Value) (p : Int × Int → Bool) : Prop :=
  ∀ (x : Int × Int) (W : World), Below w.heap.size w W → Calls Tryd.prog F (#[.agg #[.int .i64 x.1, .int .i64 x.2]] ++ caps) W fun e w' => e = .returned (.bool (p x)) ∧ Below W.heap.size W w'

set_option maxHeartbeats 1600000 in
set_option maxRecDepth 1000000 in
theorem those_any (A : Option Addr) (n c : Nat) (vs : List (Int × Int)) (F : FuncId) (caps : Array Value) (p : Int × Int → Bool) (w : World)
    (hn : Hid (vs.length = n)) (hl : n ≤ 9223372036854775807) (hby : n * 8 ≤ 140737488351232) (hv : VRow w w.heap.size A vs) (hF : ∀ (args : Array Value) (W : World), (callFunc F args).run Tryd.prog W = .ok (.enter F args) W) (hT : Tests w F caps p) :
    Calls Tryd.prog 63 #[.slice A n c, .func (.func F) #[] caps] w fun e w' =>
      ∃ v, e = .returned v ∧ w'.ownsRow w.heap.size 3 1 v (Tp.those p vs).length ((Tp.those p vs).map (Value.int .i64)) ∧ Below w.heap.size w w' := by
  obtain ⟨i0, hi, hz0, hz1, hz2⟩ := info_parts info_int
  go_enter Tryd.func63, Tryd.ntmps63
  go_wp2
  go_loopw [5, 9] (fun v i wr => ∃ k : Nat, k ≤ n ∧ i = .int .i64 k ∧ wr.ownsRow w.heap.size 3 1 v (Tp.those p (vs.take k)).length ((Tp.those p (vs.take k)).map (Value.int .i64)) ∧ Below w.heap.size w wr)
    (fun _ i _ => n - (intOf i).toNat)
  case atStart => exact ⟨0, Nat.zero_le _, rfl, World.ownsRow_nil _ _ _ _, Below.refl _ _⟩
  case round =>
    obtain ⟨k, hk, rfl, hown, hbe⟩ := hrel
    by_cases hlt : k < n
    · obtain ⟨x, hx⟩ : ∃ x, vs[k]? = some x := ⟨_, List.getElem?_eq_getElem (by have := hn.out; omega)⟩
      obtain ⟨b, off, hA, hbk, hc1, hc2⟩ := (hv.below hbe) k x hx
      subst hA
      have HX : Hid (vs[k]? = some x) := hx
      clear hx
      have hle := Tp.those_le p vs k
      go_wp2_with fail
      refine (hT x _ hbe).mono ?_
      rintro e w1 ⟨rfl, hb1⟩
      have hown1 := own_below hown hb1
      have hbe1 := hbe.trans (hb1.mono hbe.size)
      cases hp : p x
      · have hm := Hid.out HX
        have R := Tp.those_miss hm hp
        clear hm
        have R' := Lib.hid R
        clear R hown
        go_wp2
        go_roundw
        case rel => exact ⟨k + 1, by omega, by go_num, by rw [R'.out]; exact hown1, hbe1⟩
        case measure => simp [intOf]; omega
      · have hm := Hid.out HX
        have R := Tp.those_hit hm hp
        clear hm
        have R' := Lib.hid R
        clear R hown
        go_wp2_with (at_builtin; refine wpList_append_own _ rfl _ _ 42 rfl w.heap.size 3 i0 (.int .i64 0) 1 8 Tryd.underlying42 hi hz0 hz1 hz2 rfl (by decide) _ _ _ rfl (hown1.alloc _) ⟨w1.heap.size, 0, none⟩ 1 1 [.int .i64 (k : Int)] rfl rfl ?c1 ?c2 ?c3 ?c4 ?c5 ?_)
        case c1 => exact one_cell _ _ _
        case c2 => intro u hu; simp at hu; subst hu; rfl
        case c3 => unfold maxLen; omega
        case c4 => omega
        case c5 => have := hbe1.size; simp; omega
        intro v' w2 hown2 hg _
        go_wp2
        go_roundw
        case rel =>
          refine ⟨k + 1, by omega, by go_num, ?_, (hbe1.alloc hbe1.size _).grown hg (by have := hbe1.size; simp; omega) (fun j hj => (hown1.lt j hj).1)⟩
          rw [R'.out]; simpa using hown2
        case measure => simp [intOf]; omega
    · have hkn : k = n := by omega
      have e := hn.out
      have H := Lib.hid (show vs.take k = vs by rw [List.take_of_length_le (by omega)])
      clear hkn e
      go_wp2
      go_ret
      rw [H.out] at hown
      exact ⟨_, rfl, hown, hbe⟩

theorem hmf (fn : Fn) (first cap : Array Value) (w : World) : (Instr.makeFunc fn first cap).run Tryd.prog w = .ok (.func fn first cap) w := rfl
def kidsP (v : Int) (x : Int × Int) : Bool := x.1 == v
def levelP (l : Int) (x : Int × Int) : Bool := x.2 == l

theorem kids_any (A : Option Addr) (n c : Nat) (vs : List (Int × Int)) (v : Int) (w : World)
    (hn : Hid (vs.length = n)) (hl : n ≤ 9223372036854775807) (hby : n * 8 ≤ 140737488351232) (hv : VRow w w.heap.size A vs) :
    Calls Tryd.prog 72 #[.slice A n c, .int .i64 v] w (Made w (Tp.those (kidsP v) vs)) := by
  have hmf := hmf
  have hb0 : Below w.heap.size w (w.alloc (.cells #[.int .i64 v] 3)) := (Below.refl _ _).alloc (Nat.le_refl _) _
  have hT : Tests (w.alloc (.cells #[.int .i64 v] 3)) 77 #[.pointer (some ⟨w.heap.size, 0, none⟩)] (kidsP v) := by
    intro x W hW
    refine kidsTest x.1 x.2 v w.heap.size W ?_ ?_
    · rw [hW.cell (by simp), World.cell?_alloc_at _ _ _ _ rfl]; rfl
    · have := hW.size; simp at this; omega
  have hv1 := (hv.below hb0).more hb0.size
  go_enter Tryd.func72, Tryd.ntmps72
  go_wp2_with fail
  refine (those_any A n c vs _ _ (kidsP v) _ hn hl hby hv1 (fun _ _ => by kernel_rfl) hT).mono ?_
  rintro e w1 ⟨u, rfl, hown, hb1⟩
  have M := made_of hb0 hown hb1
  clear hown
  go_wp2
  go_ret
  exact M
theorem procs_any (A : Option Addr) (n c : Nat) (vs : List (Int × Int)) (w : World)
    (hn : Hid (vs.length = n)) (hl : n ≤ 9223372036854775807) (hby : n * 8 ≤ 140737488351232) (hv : VRow w w.heap.size A vs) :
    Calls Tryd.prog 51 #[.slice A n c] w (Made w (Tp.those (levelP 3) vs)) := by
  have hT : Tests w 64 #[] (levelP 3) := fun x W _ => procsTest x.1 x.2 W
  go_enter Tryd.func51, Tryd.ntmps51
  go_wp2_with fail
  refine (those_any A n c vs _ _ (levelP 3) _ hn hl hby hv (fun _ _ => by kernel_rfl) hT).mono ?_
  rintro e w1 ⟨u, rfl, hown, hb1⟩
  have M := made_of (Below.refl _ _) hown hb1
  clear hown
  go_wp2
  go_ret
  exact M
end Go.Proofs.YtcoccegmkcdeiaaDoor


/- topo.hangs, topo.filled and topo.Check come to plain functions of the vertices. -/
namespace Go.Proofs.YtcoccegmkcdeiaaDoor
open Go.RowKit
set_option linter.unusedVariables false

theorem below1 (w : World) (o : Obj) : Below w.heap.size w (w.alloc o) := (Below.refl _ _).alloc (Nat.le_refl _) o

theorem wrap_dec {l : Int} (h : In64 l) (h3 : l ≤ 3) : wrap64 (l - 1) = Tp.dec l := by
  obtain ⟨h1, h2⟩ := h
  unfold wrap64 Tp.dec
  split <;> omega
set_option maxHeartbeats 1600000 in
theorem hangs_any (A : Option Addr) (n c : Nat) (vs : List (Int × Int)) (k : Nat) (w : World)
    (hn : Hid (vs.length = n)) (hl : n ≤ 9223372036854775807) (hf : Hid (Fit vs)) (hk : k < n) (hv : VRow w w.heap.size A vs) :
    Calls Tryd.prog 61 #[.slice A n c, .int .i64 k] w fun e w' => e = .returned (.bool (Tp.hangs vs k)) ∧ Below w.heap.size w w' := by
  obtain ⟨x, hx⟩ : ∃ x, vs[k]? = some x := ⟨_, List.getElem?_eq_getElem (by have := hn.out; omega)⟩
  obtain ⟨b, off, hA, hbk, hc1, hc2⟩ := hv k x hx
  subst hA
  have hfx : In64 x.1 ∧ In64 x.2 := hf.out x (List.mem_of_getElem? hx)
  obtain ⟨⟨f1, f2⟩, ⟨f3, f4⟩⟩ := hfx
  have HH : Hid (Tp.hangs vs k = Tp.hangsX vs k x) := Lib.hid (by unfold Tp.hangs; rw [hx]; rfl)
  clear hx
  by_cases h0 : k = 0
  · subst h0
    have e0 : ((0 : Int) == 0) = true := rfl
    have H : Hid (Tp.hangs vs 0 = (x.1 == -1 && x.2 == 0)) := Lib.hid (by rw [HH.out]; rfl)
    simp only [Nat.zero_mul, Nat.add_zero] at hc1 hc2
    clear HH
    cases hp : (x.1 == -1)
    · go_enter Tryd.func61, Tryd.ntmps61
      go_wp2
      go_ret
      exact ⟨by rw [H.out, hp]; rfl, below1 _ _⟩
    · go_enter Tryd.func61, Tryd.ntmps61
      go_wp2
      go_ret
      exact ⟨by rw [H.out, hp]; rfl, below1 _ _⟩
  · have e0 : ((k : Int) == 0) = false := by rw [beq_eq_false_iff_ne]; omega
    by_cases hlo : x.1 < 0
    · have H : Hid (Tp.hangs vs k = false) := Lib.hid (by rw [HH.out, Tp.hangsX, if_neg h0, if_pos (.inl hlo)])
      clear HH h0
      go_enter Tryd.func61, Tryd.ntmps61
      go_wp2
      go_ret
      exact ⟨by rw [H.out]; rfl, below1 _ _⟩
    · by_cases hhi : (k : Int) ≤ x.1
      · have H : Hid (Tp.hangs vs k = false) := Lib.hid (by rw [HH.out, Tp.hangsX, if_neg h0, if_pos (.inr hhi)])
        clear HH h0
        go_enter Tryd.func61, Tryd.ntmps61
        go_wp2
        go_ret
        exact ⟨by rw [H.out]; rfl, below1 _ _⟩
      · obtain ⟨j, hj⟩ := Int.eq_ofNat_of_zero_le (show 0 ≤ x.1 by omega)
        obtain ⟨y, hy⟩ : ∃ y, vs[j]? = some y := ⟨_, List.getElem?_eq_getElem (by have := hn.out; omega)⟩
        obtain ⟨b', off', hA', _, hd1, hd2⟩ := hv j y hy
        injection hA' with hA'
        injection hA' with hb' ho'
        subst hb' ho'
        rw [hj] at hc1
        have hjk : (j : Int) < k := by omega
        by_cases h3 : x.2 ≤ 3
        · have hd : decide (x.2 ≤ 3) = true := by simpa using h3
          have H : Hid (Tp.hangs vs k = (y.2 == wrap64 (x.2 - 1))) := Lib.hid (by
            rw [HH.out, Tp.hangsX, if_neg h0, if_neg (by omega), hj, Int.toNat_natCast, hy, wrap_dec ⟨f3, f4⟩ h3]
            simp [h3])
          clear HH h0 hlo hhi hj hy f1 f2 f3 f4 hd
          go_enter Tryd.func61, Tryd.ntmps61
          go_wp2
          go_quiet (fail)
          go_wp2
          go_ret
          exact ⟨by rw [H.out]; rfl, below_drewN (below1 _ _) _⟩
        · have hd : decide (x.2 ≤ 3) = false := by simpa using h3
          have H : Hid (Tp.hangs vs k = false) := Lib.hid (by
            rw [HH.out, Tp.hangsX, if_neg h0, if_neg (by omega), hd]; rfl)
          clear HH h0 hlo hhi hj hy f1 f2 f3 f4
          go_enter Tryd.func61, Tryd.ntmps61
          go_wp2
          go_quiet (fail)
          go_wp2
          go_ret
          exact ⟨by rw [H.out]; rfl, below_drewN (below1 _ _) _⟩

set_option maxHeartbeats 1600000 in
theorem filled_any (A : Option Addr) (n c : Nat) (vs : List (Int × Int)) (k : Nat) (w : World)
    (hn : Hid (vs.length = n)) (hl : n ≤ 9223372036854775807) (hby : n * 8 ≤ 140737488351232) (hk : k < n) (hv : VRow w w.heap.size A vs) :
    Calls Tryd.prog 62 #[.slice A n c, .int .i64 k] w fun e w' => e = .returned (.bool (Tp.filled vs k)) ∧ Below w.heap.size w w' := by
  obtain ⟨x, hx⟩ : ∃ x, vs[k]? = some x := ⟨_, List.getElem?_eq_getElem (by have := hn.out; omega)⟩
  obtain ⟨b, off, hA, hbk, hc1, hc2⟩ := hv k x hx
  subst hA
  by_cases h3 : 3 ≤ x.2
  · have H : Hid (Tp.filled vs k = true) := Lib.hid (by unfold Tp.filled; rw [hx]; exact if_pos h3)
    clear hx
    go_enter Tryd.func62, Tryd.ntmps62
    go_wp2
    go_ret
    exact ⟨by rw [H.out]; rfl, Below.refl _ _⟩
  · have H : Hid (Tp.filled vs k = (decide (1 ≤ Tp.kidsN vs k) && decide (Tp.kidsN vs k ≤ 8))) := Lib.hid (by unfold Tp.filled; rw [hx]; exact if_neg h3)
    have HK : Hid ((Tp.those (kidsP k) vs).length = Tp.kidsN vs k) := Lib.hid rfl
    have hle := Tp.those_le (kidsP k) vs n
    rw [show vs.take n = vs from List.take_of_length_le (by have := hn.out; omega)] at hle
    clear hx
    go_enter Tryd.func62, Tryd.ntmps62
    go_wp2_with fail
    refine (kids_any _ n c vs k _ hn hl hby hv).mono ?_
    rintro e w1 ⟨A1, c1, rfl, _, hb1⟩
    rw [HK.out] at hle ⊢
    by_cases h1 : 1 ≤ Tp.kidsN vs k
    · go_wp2
      go_ret
      refine ⟨?_, hb1⟩
      rw [H.out, decide_eq_true h1]
      exact ret_bool (a := decide ((Tp.kidsN vs k : Int) ≤ 8)) (Bool.eq_iff_iff.2 (by simp; omega))
    · go_wp2
      go_ret
      exact ⟨by rw [H.out, decide_eq_false h1]; rfl, hb1⟩

set_option maxHeartbeats 1600000 in
theorem check_any (A : Option Addr) (n c : Nat) (vs : List (Int × Int)) (w : World)
    (hn : Hid (vs.length = n)) (hl : n ≤ 9223372036854775807) (hf : Hid (Fit vs)) (hv : VRow w w.heap.size A vs) :
    Calls Tryd.prog 48 #[.slice A n c] w fun e w' => e = .returned (.int .i64 (Tp.errno (Tp.may vs))) ∧ Below w.heap.size w w' := by
  have hle := Tp.those_le (levelP 3) vs n
  rw [show vs.take n = vs from List.take_of_length_le (by have := hn.out; omega)] at hle
  by_cases h1 : 1 ≤ n
  · by_cases h64 : n ≤ 64
    · by_cases h32 : (Tp.those (levelP 3) vs).length ≤ 32
      · have H0 : Hid (Tp.may vs = Tp.bodyTo vs n) := Lib.hid (by
          have e := hn.out
          unfold Tp.may Tp.headOK
          rw [e, decide_eq_true h1, decide_eq_true h64, decide_eq_true (show (Tp.those (fun x => x.2 == 3) vs).length ≤ 32 from h32)]
          rfl)
        go_enter Tryd.func48, Tryd.ntmps48
        go_wp2_with fail
        refine (procs_any _ n c vs _ hn hl (by omega) hv).mono ?_
        rintro e w1 ⟨A1, c1, rfl, _, hb1⟩
        go_wp2_with fail
        go_loopw [20] (fun i wr => ∃ k : Nat, k ≤ n ∧ i = .int .i64 k ∧ Hid (Tp.bodyTo vs k = true) ∧ Below w.heap.size w wr) (fun i _ => n - (intOf i).toNat)
        case atStart => exact ⟨0, Nat.zero_le _, rfl, Lib.hid rfl, hb1⟩
        case round =>
          obtain ⟨k, hk, rfl, hto, hbe⟩ := hrel
          by_cases hlt : k < n
          · have hv' := (hv.below hbe).more hbe.size
            go_wp2_with fail
            refine (hangs_any _ n c vs k _ hn hl hf hlt hv').mono ?_
            rintro e w2 ⟨rfl, hb2⟩
            have hbe2 := hbe.trans (hb2.mono hbe.size)
            cases hh : Tp.hangs vs k
            · have H : Hid (Tp.may vs = false) := Lib.hid (by rw [H0.out]; exact Tp.bodyTo_false hlt (by rw [hh]; rfl))
              clear hh
              go_wp2_with fail
              go_ret
              exact ⟨by rw [H.out]; rfl, hbe2⟩
            · have hv2 := (hv.below hbe2).more hbe2.size
              have HG : Hid (Tp.hangs vs k = true) := Lib.hid hh
              clear hh
              go_wp2_with fail
              refine (filled_any _ n c vs k _ hn hl (by omega) hlt hv2).mono ?_
              rintro e w3 ⟨rfl, hb3⟩
              have hbe3 := hbe2.trans (hb3.mono hbe2.size)
              cases hh : Tp.filled vs k
              · have H : Hid (Tp.may vs = false) := Lib.hid (by rw [H0.out]; exact Tp.bodyTo_false hlt (by rw [hh]; simp))
                clear hh
                go_wp2_with fail
                go_ret
                exact ⟨by rw [H.out]; rfl, hbe3⟩
              · have H : Hid (Tp.bodyTo vs (k + 1) = true) := Lib.hid (by rw [Tp.bodyTo_succ, hto.out, HG.out, hh]; rfl)
                clear hh
                go_wp2_with fail
                go_roundw
                case rel => exact ⟨k + 1, by omega, by go_num, H, hbe3⟩
                case measure => simp [intOf]; omega
          · have H : Hid (Tp.may vs = true) := Lib.hid (by rw [H0.out, show n = k by omega]; exact hto.out)
            go_wp2_with fail
            go_ret
            exact ⟨by rw [H.out]; rfl, hbe⟩
      · have H : Hid (Tp.may vs = false) := Lib.hid (by
          unfold Tp.may Tp.headOK
          rw [decide_eq_false (show ¬ (Tp.those (fun x => x.2 == 3) vs).length ≤ 32 from h32)]
          simp)
        go_enter Tryd.func48, Tryd.ntmps48
        go_wp2_with fail
        refine (procs_any _ n c vs _ hn hl (by omega) hv).mono ?_
        rintro e w1 ⟨A1, c1, rfl, _, hb1⟩
        go_wp2_with fail
        go_ret
        exact ⟨by rw [H.out]; rfl, hb1⟩
    · have H : Hid (Tp.may vs = false) := Lib.hid (by
        have e := hn.out
        unfold Tp.may Tp.headOK
        rw [e, decide_eq_false h64]
        simp)
      go_enter Tryd.func48, Tryd.ntmps48
      go_wp2_with fail
      go_ret
      exact ⟨by rw [H.out]; rfl, Below.refl _ _⟩
  · have H : Hid (Tp.may vs = false) := Lib.hid (by
      have e := hn.out
      unfold Tp.may Tp.headOK
      rw [e, decide_eq_false h1]
      simp)
    go_enter Tryd.func48, Tryd.ntmps48
    go_wp2_with fail
    go_ret
    exact ⟨by rw [H.out]; rfl, Below.refl _ _⟩
end Go.Proofs.YtcoccegmkcdeiaaDoor


/- topo.Nodes, by its contract: the numbers of the vertices of level 1, in new memory. -/
namespace Go.Proofs.YtcoccegmkcdeiaaDoor
open Go.RowKit
set_option linter.unusedVariables false

theorem nodesTest (p l : Int) (w : World) :
    Calls Tryd.prog 65 #[.agg #[.int .i64 p, .int .i64 l]] w fun e w' => e = .returned (.bool (l == 1)) ∧ Below w.heap.size w w' := by
  go_enter Tryd.func65, Tryd.ntmps65
  go_wp2
  go_ret
  exact ⟨rfl, (Below.refl _ _).alloc (Nat.le_refl _) _⟩

theorem nodes_any (A : Option Addr) (n c : Nat) (vs : List (Int × Int)) (w : World)
    (hn : Hid (vs.length = n)) (hl : n ≤ 9223372036854775807) (hby : n * 8 ≤ 140737488351232) (hv : VRow w w.heap.size A vs) :
    Calls Tryd.prog 52 #[.slice A n c] w (Made w (Tp.those (levelP 1) vs)) := by
  have hT : Tests w 65 #[] (levelP 1) := fun x W _ => nodesTest x.1 x.2 W
  go_enter Tryd.func52, Tryd.ntmps52
  go_wp2_with fail
  refine (those_any A n c vs _ _ (levelP 1) _ hn hl hby hv (fun _ _ => by kernel_rfl) hT).mono ?_
  rintro e w1 ⟨u, rfl, hown, hb1⟩
  have M := made_of (Below.refl _ _) hown hb1
  clear hown
  go_wp2
  go_ret
  exact M
end Go.Proofs.YtcoccegmkcdeiaaDoor


/- The document's own lists (Kids, Of), by contracts. -/
namespace Go.Proofs.YtcoccegmkcdeiaaDoor
open Go.RowKit
set_option linter.unusedVariables false

set_option maxHeartbeats 1600000 in
set_option maxRecDepth 1000000 in
theorem refKids_any (A : Option Addr) (n c : Nat) (vs : List (Int × Int)) (v : Int) (w : World)
    (hn : Hid (vs.length = n)) (hl : n ≤ 9223372036854775807) (hby : n * 8 ≤ 140737488351232) (hv : VRow w w.heap.size A vs) :
    Calls Tryd.prog 54 #[.slice A n c, .int .i64 v] w (Made w (Tp.those (kidsP v) vs)) := by
  obtain ⟨i0, hi, hz0, hz1, hz2⟩ := info_parts info_int
  go_enter Tryd.func54, Tryd.ntmps54
  go_wp2
  go_loopw [5, 6] (fun u i wr => ∃ k : Nat, k ≤ n ∧ i = .int .i64 k ∧ wr.ownsRow w.heap.size 3 1 u (Tp.those (kidsP v) (vs.take k)).length ((Tp.those (kidsP v) (vs.take k)).map (Value.int .i64)) ∧ Below w.heap.size w wr)
    (fun _ i _ => n - (intOf i).toNat)
  case atStart => exact ⟨0, Nat.zero_le _, rfl, World.ownsRow_nil _ _ _ _, Below.refl _ _⟩
  case round =>
    obtain ⟨k, hk, rfl, hown, hbe⟩ := hrel
    by_cases hlt : k < n
    · obtain ⟨x, hx⟩ : ∃ x, vs[k]? = some x := ⟨_, List.getElem?_eq_getElem (by have := hn.out; omega)⟩
      obtain ⟨b, off, hA, hbk, hc1, hc2⟩ := (hv.below hbe) k x hx
      subst hA
      have HX : Hid (vs[k]? = some x) := hx
      clear hx
      have hle := Tp.those_le (kidsP v) vs k
      cases hp : (x.1 == v)
      · have hm := Hid.out HX
        have R := Tp.those_miss (p := kidsP v) hm hp
        clear hm
        have R' := Lib.hid R
        clear R
        go_wp2
        go_roundw
        case rel => exact ⟨k + 1, by omega, by go_num, by rw [R'.out]; exact hown, hbe⟩
        case measure => simp [intOf]; omega
      · have hm := Hid.out HX
        have R := Tp.those_hit (p := kidsP v) hm hp
        clear hm
        have R' := Lib.hid R
        clear R
        go_wp2_with (at_builtin; refine wpList_append_own _ rfl _ _ 42 rfl w.heap.size 3 i0 (.int .i64 0) 1 8 Tryd.underlying42 hi hz0 hz1 hz2 rfl (by decide) _ _ _ rfl (hown.alloc _) ⟨wr.heap.size, 0, none⟩ 1 1 [.int .i64 (k : Int)] rfl rfl ?c1 ?c2 ?c3 ?c4 ?c5 ?_)
        case c1 => exact one_cell _ _ _
        case c2 => intro u hu; simp at hu; subst hu; rfl
        case c3 => unfold maxLen; omega
        case c4 => omega
        case c5 => have := hbe.size; simp; omega
        intro v' w2 hown2 hg _
        go_wp2
        go_roundw
        case rel =>
          refine ⟨k + 1, by omega, by go_num, ?_, (hbe.alloc hbe.size _).grown hg (by have := hbe.size; simp; omega) (fun j hj => (hown.lt j hj).1)⟩
          rw [R'.out]; simpa using hown2
        case measure => simp [intOf]; omega
    · have hkn : k = n := by omega
      have e := hn.out
      have H := Lib.hid (show vs.take k = vs by rw [List.take_of_length_le (by omega)])
      clear hkn e
      go_wp2
      go_ret
      rw [H.out] at hown
      exact made_of (Below.refl _ _) hown hbe

set_option maxHeartbeats 1600000 in
set_option maxRecDepth 1000000 in
theorem refOf_any (A : Option Addr) (n c : Nat) (vs : List (Int × Int)) (v : Int) (w : World)
    (hn : Hid (vs.length = n)) (hl : n ≤ 9223372036854775807) (hby : n * 8 ≤ 140737488351232) (hv : VRow w w.heap.size A vs) :
    Calls Tryd.prog 22 #[.slice A n c, .int .i64 v] w (Made w (Tp.those (levelP v) vs)) := by
  obtain ⟨i0, hi, hz0, hz1, hz2⟩ := info_parts info_int
  go_enter Tryd.func22, Tryd.ntmps22
  go_wp2
  go_loopw [5, 6] (fun u i wr => ∃ k : Nat, k ≤ n ∧ i = .int .i64 k ∧ wr.ownsRow w.heap.size 3 1 u (Tp.those (levelP v) (vs.take k)).length ((Tp.those (levelP v) (vs.take k)).map (Value.int .i64)) ∧ Below w.heap.size w wr)
    (fun _ i _ => n - (intOf i).toNat)
  case atStart => exact ⟨0, Nat.zero_le _, rfl, World.ownsRow_nil _ _ _ _, Below.refl _ _⟩
  case round =>
    obtain ⟨k, hk, rfl, hown, hbe⟩ := hrel
    by_cases hlt : k < n
    · obtain ⟨x, hx⟩ : ∃ x, vs[k]? = some x := ⟨_, List.getElem?_eq_getElem (by have := hn.out; omega)⟩
      obtain ⟨b, off, hA, hbk, hc1, hc2⟩ := (hv.below hbe) k x hx
      subst hA
      have HX : Hid (vs[k]? = some x) := hx
      clear hx
      have hle := Tp.those_le (levelP v) vs k
      cases hp : (x.2 == v)
      · have hm := Hid.out HX
        have R := Tp.those_miss (p := levelP v) hm hp
        clear hm
        have R' := Lib.hid R
        clear R
        go_wp2
        go_roundw
        case rel => exact ⟨k + 1, by omega, by go_num, by rw [R'.out]; exact hown, hbe⟩
        case measure => simp [intOf]; omega
      · have hm := Hid.out HX
        have R := Tp.those_hit (p := levelP v) hm hp
        clear hm
        have R' := Lib.hid R
        clear R
        go_wp2_with (at_builtin; refine wpList_append_own _ rfl _ _ 42 rfl w.heap.size 3 i0 (.int .i64 0) 1 8 Tryd.underlying42 hi hz0 hz1 hz2 rfl (by decide) _ _ _ rfl (hown.alloc _) ⟨wr.heap.size, 0, none⟩ 1 1 [.int .i64 (k : Int)] rfl rfl ?c1 ?c2 ?c3 ?c4 ?c5 ?_)
        case c1 => exact one_cell _ _ _
        case c2 => intro u hu; simp at hu; subst hu; rfl
        case c3 => unfold maxLen; omega
        case c4 => omega
        case c5 => have := hbe.size; simp; omega
        intro v' w2 hown2 hg _
        go_wp2
        go_roundw
        case rel =>
          refine ⟨k + 1, by omega, by go_num, ?_, (hbe.alloc hbe.size _).grown hg (by have := hbe.size; simp; omega) (fun j hj => (hown.lt j hj).1)⟩
          rw [R'.out]; simpa using hown2
        case measure => simp [intOf]; omega
    · have hkn : k = n := by omega
      have e := hn.out
      have H := Lib.hid (show vs.take k = vs by rw [List.take_of_length_le (by omega)])
      clear hkn e
      go_wp2
      go_ret
      rw [H.out] at hown
      exact made_of (Below.refl _ _) hown hbe

end Go.Proofs.YtcoccegmkcdeiaaDoor


/- What follows of a tree that may be, in plain mathematics. -/
namespace Go.Proofs.YtcoccegmkcdeiaaDoor.Tp

structure Tree (vs : List (Int × Int)) : Prop where
  pos : 1 ≤ vs.length
  few : vs.length ≤ 64
  procs : (those (fun x => x.2 == 3) vs).length ≤ 32
  hangs : ∀ k, k < vs.length → hangs vs k = true
  filled : ∀ k, k < vs.length → filled vs k = true

theorem tree_iff (vs : List (Int × Int)) : may vs = true ↔ Tree vs := by
  unfold may headOK bodyTo
  simp only [Bool.and_eq_true, decide_eq_true_eq, List.all_eq_true, List.mem_range]
  exact ⟨fun ⟨⟨⟨a, b⟩, c⟩, d⟩ => ⟨a, b, c, fun k hk => (d k hk).1, fun k hk => (d k hk).2⟩, fun h => ⟨⟨⟨h.pos, h.few⟩, h.procs⟩, fun k hk => ⟨h.hangs k hk, h.filled k hk⟩⟩⟩
theorem Tree.not {vs : List (Int × Int)} (h : ¬ Tree vs) : may vs = false := by
  cases hm : may vs
  · rfl
  · exact absurd ((tree_iff vs).1 hm) h

theorem Tree.first {vs : List (Int × Int)} (h : Tree vs) : vs[0]? = some (-1, 0) := by
  have h0 := h.hangs 0 h.pos
  obtain ⟨x, hx⟩ : ∃ x, vs[0]? = some x := ⟨_, List.getElem?_eq_getElem h.pos⟩
  unfold Tp.hangs at h0
  rw [hx] at h0
  simp only [Option.getD_some, hangsX, if_true, Bool.and_eq_true, beq_iff_eq] at h0
  rw [hx]
  obtain ⟨a, b⟩ := x
  simp only at h0
  rw [h0.1, h0.2]
/-- Each vertex but the first: a Parent ahead of it, of a Level one less; Levels from 1 to 3. -/
theorem Tree.next {vs : List (Int × Int)} (h : Tree vs) (k : Nat) : ∀ x, vs[k]? = some x → 0 < k → ∃ (p : Nat) (y : Int × Int), x.1 = p ∧ p < k ∧ vs[p]? = some y ∧ x.2 = y.2 + 1 ∧ 0 ≤ y.2 ∧ x.2 ≤ 3 := by
  induction k using Nat.strongRecOn with
  | ind k ih =>
    intro x hx hk
    have hkl := (List.getElem?_eq_some_iff.1 hx).1
    have h0 := h.hangs k hkl
    unfold Tp.hangs at h0
    rw [hx] at h0
    simp only [Option.getD_some, hangsX, if_neg (show ¬ k = 0 by omega)] at h0
    split at h0
    · cases h0
    · rename_i hb
      obtain ⟨p, hp⟩ := Int.eq_ofNat_of_zero_le (show 0 ≤ x.1 by omega)
      obtain ⟨y, hy⟩ : ∃ y, vs[p]? = some y := ⟨_, List.getElem?_eq_getElem (by omega)⟩
      rw [hp, Int.toNat_natCast, hy] at h0
      simp only [Option.getD_some, Bool.and_eq_true, decide_eq_true_eq, beq_iff_eq] at h0
      obtain ⟨h3, hd⟩ := h0
      have hy2 : 0 ≤ y.2 ∧ y.2 ≤ 3 := by
        by_cases e : p = 0
        · subst e
          have := h.first
          rw [this] at hy
          injection hy with hy
          subst hy
          exact ⟨by decide, by decide⟩
        · obtain ⟨_, _, _, _, _, a, b, c⟩ := ih p (by omega) y hy (by omega)
          omega
      refine ⟨p, y, hp, by omega, hy, ?_, hy2.1, h3⟩
      unfold dec at hd
      split at hd <;> omega
theorem Tree.level {vs : List (Int × Int)} (h : Tree vs) {k : Nat} {x : Int × Int} (hx : vs[k]? = some x) : 0 ≤ x.2 ∧ x.2 ≤ 3 := by
  by_cases e : k = 0
  · subst e
    rw [h.first] at hx
    injection hx with hx
    subst hx
    exact ⟨by decide, by decide⟩
  · obtain ⟨_, _, _, _, _, a, b, c⟩ := h.next k x hx (by omega)
    omega
/-- What lies above a vertex. -/
theorem Tree.up {vs : List (Int × Int)} (h : Tree vs) (l : Int) (k : Nat) : ∀ x, vs[k]? = some x → (x.2 < l → up vs l vs.length k = -1) ∧ (0 ≤ l → l ≤ x.2 → ∃ (v : Nat) (y : Int × Int), up vs l vs.length k = v ∧ v ≤ k ∧ vs[v]? = some y ∧ y.2 = l) := by
  induction k using Nat.strongRecOn with
  | ind k ih =>
    intro x hx
    have hkl := (List.getElem?_eq_some_iff.1 hx).1
    by_cases hl : x.2 = l
    · rw [up_hit hkl hx hl]
      exact ⟨fun hh => by omega, fun _ _ => ⟨k, x, rfl, Nat.le_refl _, hx, hl⟩⟩
    · rw [up_step hkl hx hl]
      by_cases e : k = 0
      · subst e
        rw [h.first] at hx
        injection hx with hx
        subst hx
        refine ⟨fun _ => up_out (by simp), fun h0 h1 => ?_⟩
        simp only at hl h1
        omega
      · obtain ⟨p, y, hp, hpk, hy, hxy, _, _⟩ := h.next k x hx (by omega)
        rw [hp, up_bound (b := vs.length) (by omega) (by omega) (by omega)]
        obtain ⟨i1, i2⟩ := ih p hpk y hy
        refine ⟨fun hh => i1 (by omega), fun h0 h1 => ?_⟩
        obtain ⟨v, z, e1, e2, e3, e4⟩ := i2 h0 (by omega)
        exact ⟨v, z, e1, by omega, e3, e4⟩
theorem mem_thoseF {p : Int × Int → Bool} {z : Int} : ∀ (xs : List (Int × Int)) (k : Nat), z ∈ thoseF p k xs ↔ ∃ (j : Nat) (x : Int × Int), z = ((k + j : Nat) : Int) ∧ xs[j]? = some x ∧ p x = true := by
  intro xs
  induction xs with
  | nil => intro k; simp [thoseF]
  | cons y ys ih =>
    intro k
    have split2 : (∃ (j : Nat) (x : Int × Int), z = ((k + j : Nat) : Int) ∧ (y :: ys)[j]? = some x ∧ p x = true) ↔ (z = (k : Int) ∧ p y = true) ∨ ∃ (j : Nat) (x : Int × Int), z = ((k + 1 + j : Nat) : Int) ∧ ys[j]? = some x ∧ p x = true := by
      constructor
      · rintro ⟨j, x, e, hx, hp⟩
        cases j with
        | zero => injection hx with hx; subst hx; exact .inl ⟨by simpa using e, hp⟩
        | succ j => exact .inr ⟨j, x, by rw [e]; congr 1; omega, hx, hp⟩
      · rintro (⟨e, hp⟩ | ⟨j, x, e, hx, hp⟩)
        · exact ⟨0, y, by simpa using e, rfl, hp⟩
        · exact ⟨j + 1, x, by rw [e]; congr 1; omega, hx, hp⟩
    rw [split2, thoseF]
    split
    · rename_i hp
      rw [List.mem_cons, ih]
      simp [hp]
    · rename_i hp
      rw [ih]
      simp [hp]
theorem mem_those {p : Int × Int → Bool} {z : Int} {vs : List (Int × Int)} : z ∈ those p vs ↔ ∃ (j : Nat) (x : Int × Int), z = (j : Int) ∧ vs[j]? = some x ∧ p x = true := by
  unfold those; rw [mem_thoseF]; simp
/-- Each vertex that is no processor has one below it; a processor none. -/
theorem Tree.child {vs : List (Int × Int)} (h : Tree vs) {k : Nat} {x : Int × Int} (hx : vs[k]? = some x) (h3 : x.2 < 3) : ∃ (j : Nat) (y : Int × Int), k < j ∧ vs[j]? = some y ∧ y.1 = k ∧ y.2 = x.2 + 1 := by
  have hkl := (List.getElem?_eq_some_iff.1 hx).1
  have hf := h.filled k hkl
  unfold Tp.filled at hf
  rw [hx, Option.getD_some, if_neg (by omega), Bool.and_eq_true, decide_eq_true_eq, decide_eq_true_eq] at hf
  unfold kidsN at hf
  obtain ⟨z, hz⟩ := List.exists_mem_of_length_pos (l := those (fun x => x.1 == (k : Int)) vs) (by omega)
  obtain ⟨j, y, _, hy, hp⟩ := mem_those.1 hz
  rw [beq_iff_eq] at hp
  have hj : j ≠ 0 := by
    rintro rfl
    rw [h.first] at hy
    injection hy with hy
    subst hy
    simp only at hp
    omega
  obtain ⟨p, u, h1, h2, h3', h4, _, _⟩ := h.next j y hy (by omega)
  have : p = k := by omega
  subst this
  rw [hx] at h3'
  injection h3' with h3'
  subst h3'
  exact ⟨j, y, h2, hy, hp, h4⟩
theorem Tree.kid {vs : List (Int × Int)} (h : Tree vs) {k j : Nat} {y : Int × Int} (hy : vs[j]? = some y) (hk : y.1 = k) : k < j ∧ ∃ x, vs[k]? = some x ∧ y.2 = x.2 + 1 := by
  have hj : j ≠ 0 := by
    rintro rfl
    rw [h.first] at hy
    injection hy with hy
    subst hy
    simp only at hk
    omega
  obtain ⟨p, u, h1, h2, h3', h4, _, _⟩ := h.next j y hy (by omega)
  have : p = k := by omega
  subst this
  exact ⟨h2, u, h3', h4⟩
theorem Tree.leaf {vs : List (Int × Int)} (h : Tree vs) {k : Nat} {x : Int × Int} (hx : vs[k]? = some x) (h3 : x.2 = 3) : kidsN vs k = 0 := by
  unfold kidsN
  cases hm : those (fun x => x.1 == (k : Int)) vs with
  | nil => rfl
  | cons z zs =>
    obtain ⟨j, y, _, hy, hp⟩ := mem_those.1 (show z ∈ those (fun x => x.1 == (k : Int)) vs by rw [hm]; exact List.mem_cons_self)
    obtain ⟨_, u, hu, e⟩ := h.kid hy (by simpa using hp)
    rw [hx] at hu
    injection hu with hu
    subst hu
    have := (h.level hy).2
    omega
theorem Tree.kids {vs : List (Int × Int)} (h : Tree vs) {k : Nat} {x : Int × Int} (hx : vs[k]? = some x) : kidsN vs k ≤ 8 ∧ (kidsN vs k = 0 ↔ x.2 = 3) := by
  have hkl := (List.getElem?_eq_some_iff.1 hx).1
  by_cases h3 : x.2 < 3
  · have hf := h.filled k hkl
    unfold Tp.filled at hf
    rw [hx, Option.getD_some, if_neg (by omega), Bool.and_eq_true, decide_eq_true_eq, decide_eq_true_eq] at hf
    omega
  · have e : x.2 = 3 := by have := (h.level hx).2; omega
    rw [h.leaf hx e]
    omega
theorem thoseF_rise (p : Int × Int → Bool) : ∀ (xs : List (Int × Int)) (k : Nat), (thoseF p k xs).Pairwise (· < ·) ∧ ∀ z ∈ thoseF p k xs, (k : Int) ≤ z := by
  intro xs
  induction xs with
  | nil => intro k; simp [thoseF]
  | cons y ys ih =>
    intro k
    obtain ⟨i1, i2⟩ := ih (k + 1)
    rw [thoseF]
    split
    · refine ⟨List.pairwise_cons.2 ⟨fun z hz => ?_, i1⟩, fun z hz => ?_⟩
      · have := i2 z hz; omega
      · rcases List.mem_cons.1 hz with rfl | hz
        · exact Int.le_refl _
        · have := i2 z hz; omega
    · exact ⟨i1, fun z hz => by have := i2 z hz; omega⟩
theorem those_rise {p : Int × Int → Bool} {vs : List (Int × Int)} {i j : Nat} {a b : Int} (hi : (those p vs)[i]? = some a) (hj : (those p vs)[j]? = some b) (hij : i < j) : a < b := by
  have h := (thoseF_rise p vs 0).1
  obtain ⟨hil, ei⟩ := List.getElem?_eq_some_iff.1 hi
  obtain ⟨hjl, ej⟩ := List.getElem?_eq_some_iff.1 hj
  have := (List.pairwise_iff_getElem.1 h) i j hil hjl hij
  unfold those at ei ej
  rw [ei, ej] at this
  exact this
theorem has_level {vs : List (Int × Int)} {k : Nat} {x : Int × Int} {l : Int} (hx : vs[k]? = some x) : has (those (fun x => x.2 == l) vs) k = (x.2 == l) := by
  unfold has
  rw [Bool.eq_iff_iff, List.contains_iff_mem, mem_those]
  constructor
  · rintro ⟨j, y, e, hy, hp⟩
    have : k = j := by omega
    subst this
    rw [hx] at hy
    injection hy with hy
    subst hy
    exact hp
  · intro hp
    exact ⟨k, x, rfl, hx, hp⟩
def countF (p : Int × Int → Bool) : List (Int × Int) → Nat
  | [] => 0
  | x :: xs => (if p x then 1 else 0) + countF p xs
theorem thoseF_len (p : Int × Int → Bool) : ∀ (xs : List (Int × Int)) (k : Nat), (thoseF p k xs).length = countF p xs := by
  intro xs
  induction xs with
  | nil => intro k; rfl
  | cons y ys ih =>
    intro k
    rw [thoseF, countF]
    split <;> simp [ih] <;> omega
theorem countF_add (p q r : Int × Int → Bool) (h : ∀ x, (if r x then 1 else 0) = (if p x then 1 else 0) + (if q x then (1 : Nat) else 0)) : ∀ xs, countF r xs = countF p xs + countF q xs := by
  intro xs
  induction xs with
  | nil => rfl
  | cons y ys ih => rw [countF, countF, countF, ih, h y]; omega
theorem countF_le (p : Int × Int → Bool) : ∀ xs, countF p xs ≤ xs.length := by
  intro xs
  induction xs with
  | nil => exact Nat.le_refl _
  | cons y ys ih => rw [countF, List.length_cons]; split <;> omega
theorem countF_all (p : Int × Int → Bool) : ∀ (xs : List (Int × Int)), (∀ x ∈ xs, p x = true) → countF p xs = xs.length := by
  intro xs
  induction xs with
  | nil => intro _; rfl
  | cons y ys ih => intro h; rw [countF, ih (fun x hx => h x (List.mem_cons_of_mem _ hx)), h y List.mem_cons_self, List.length_cons]; simp; omega
/-- How many lie below the first m vertices, all together. -/
def belowN (vs : List (Int × Int)) (m : Nat) : Nat := countF (fun x => decide (0 ≤ x.1 ∧ x.1 < m)) vs
theorem belowN_zero (vs : List (Int × Int)) : belowN vs 0 = 0 := by
  unfold belowN
  induction vs with
  | nil => rfl
  | cons y ys ih =>
    rw [countF, ih]
    have : decide (0 ≤ y.1 ∧ y.1 < ((0 : Nat) : Int)) = false := by simp
    rw [this]; rfl
theorem belowN_succ (vs : List (Int × Int)) (m : Nat) : belowN vs (m + 1) = belowN vs m + kidsN vs m := by
  unfold belowN kidsN those
  rw [thoseF_len]
  refine countF_add _ _ _ (fun x => ?_) vs
  by_cases h1 : 0 ≤ x.1 ∧ x.1 < (m : Int)
  · have h2 : ¬ x.1 = m := by omega
    have h3 : 0 ≤ x.1 ∧ x.1 < ((m + 1 : Nat) : Int) := by omega
    rw [decide_eq_true h1, decide_eq_true h3, beq_eq_false_iff_ne.2 h2]; rfl
  · by_cases h2 : x.1 = m
    · have h3 : 0 ≤ x.1 ∧ x.1 < ((m + 1 : Nat) : Int) := by omega
      rw [decide_eq_false h1, decide_eq_true h3, beq_iff_eq.2 h2]; rfl
    · have h3 : ¬ (0 ≤ x.1 ∧ x.1 < ((m + 1 : Nat) : Int)) := by omega
      rw [decide_eq_false h1, decide_eq_false h3, beq_eq_false_iff_ne.2 h2]; rfl
theorem belowN_le (vs : List (Int × Int)) (m : Nat) : belowN vs m ≤ vs.length := countF_le _ _
theorem Tree.belowN {vs : List (Int × Int)} (h : Tree vs) : Tp.belowN vs vs.length = vs.length - 1 := by
  have h0 := h.first
  have hk : ∀ k x, vs[k]? = some x → 0 < k → 0 ≤ x.1 ∧ x.1 < (vs.length : Int) := fun k x hx hk => by
    obtain ⟨p, _, e, hp, _⟩ := h.next k x hx hk
    have := (List.getElem?_eq_some_iff.1 hx).1
    omega
  unfold Tp.belowN
  generalize hn : vs.length = n at hk ⊢
  cases vs with
  | nil => simp at h0
  | cons y ys =>
    injection h0 with h0
    subst h0
    rw [List.length_cons] at hn
    rw [countF, countF_all _ ys (fun x hx => ?_)]
    · simp; omega
    · obtain ⟨i, hi⟩ := List.mem_iff_getElem?.1 hx
      exact decide_eq_true (hk (i + 1) x hi (by omega))
/-- There are a node, and a processor below each node. -/
theorem Tree.node {vs : List (Int × Int)} (h : Tree vs) : ∃ (j : Nat) (y : Int × Int), vs[j]? = some y ∧ y.2 = 1 := by
  obtain ⟨j, y, _, hy, _, e⟩ := h.child h.first (by decide)
  exact ⟨j, y, hy, e⟩
theorem Tree.below {vs : List (Int × Int)} (h : Tree vs) {k : Nat} {x : Int × Int} (hx : vs[k]? = some x) (h1 : x.2 = 1) : ∃ (j : Nat) (y : Int × Int), vs[j]? = some y ∧ y.2 = 3 ∧ Tp.up vs 1 vs.length j = k := by
  have hkl := (List.getElem?_eq_some_iff.1 hx).1
  obtain ⟨i, y, _, hy, hyk, ey⟩ := h.child hx (by omega)
  obtain ⟨j, z, _, hz, hzi, ez⟩ := h.child hy (by omega)
  have hil := (List.getElem?_eq_some_iff.1 hy).1
  have hjl := (List.getElem?_eq_some_iff.1 hz).1
  refine ⟨j, z, hz, by omega, ?_⟩
  rw [up_step hjl hz (by omega), hzi, up_step (by omega) hy (by omega), hyk, up_hit (by omega) hx h1]
theorem may_long {vs : List (Int × Int)} (h : 64 < vs.length) : may vs = false := Tree.not (fun t => by have := t.few; omega)
theorem may_nil : may [] = false := Tree.not (fun t => by have := t.pos; simp at this)
theorem Tree.two {vs : List (Int × Int)} (h : Tree vs) : 2 ≤ vs.length := by
  obtain ⟨j, y, hj, hy, _⟩ := h.child h.first (by decide)
  have := (List.getElem?_eq_some_iff.1 hy).1
  omega
theorem Tree.drop1 {vs : List (Int × Int)} (h : Tree vs) : may (vs.drop 1) = false := Tree.not (fun t => by
  have h0 := t.first
  rw [List.getElem?_drop] at h0
  obtain ⟨p, _, e, _⟩ := h.next _ _ h0 (by omega)
  simp only at e
  omega)
theorem Tree.none_below {vs : List (Int × Int)} (h : Tree vs) : kidsN vs vs.length = 0 := by
  unfold kidsN
  cases hm : those (fun x => x.1 == (vs.length : Int)) vs with
  | nil => rfl
  | cons z zs =>
    obtain ⟨j, y, _, hy, hp⟩ := mem_those.1 (show z ∈ those (fun x => x.1 == (vs.length : Int)) vs by rw [hm]; exact List.mem_cons_self)
    have := (h.kid hy (by simpa using hp)).1
    have := (List.getElem?_eq_some_iff.1 hy).1
    omega
theorem Tree.twin {vs : List (Int × Int)} (h : Tree vs) {k : Nat} {x : Int × Int} (hx : vs[k]? = some x) : may (vs ++ [((k : Int), x.2)]) = false := Tree.not (fun t => by
  have hk := (List.getElem?_eq_some_iff.1 hx).1
  obtain ⟨p, y, e1, _, e3, e4, _, _⟩ := t.next vs.length ((k : Int), x.2) (by rw [List.getElem?_append_right (Nat.le_refl _)]; simp) h.pos
  have : p = k := by simp only at e1; omega
  subst this
  rw [List.getElem?_append_left hk, hx] at e3
  injection e3 with e3
  subst e3
  simp only at e4
  omega)
theorem Tree.self {vs : List (Int × Int)} (h : Tree vs) : may (vs ++ [((vs.length : Int), 3)]) = false := Tree.not (fun t => by
  obtain ⟨p, y, e1, e2, _⟩ := t.next vs.length ((vs.length : Int), 3) (by rw [List.getElem?_append_right (Nat.le_refl _)]; simp) h.pos
  simp only at e1
  omega)
theorem Tree.moved {vs : List (Int × Int)} (h : Tree vs) {k : Nat} {x : Int × Int} (hx : vs[k]? = some x) : may (vs.set k (x.1 + 64, x.2)) = false := Tree.not (fun t => by
  have hk := (List.getElem?_eq_some_iff.1 hx).1
  have hs : (vs.set k (x.1 + 64, x.2))[k]? = some (x.1 + 64, x.2) := by rw [List.getElem?_set_self hk]
  by_cases e : k = 0
  · subst e
    have h0 := t.first
    rw [hs] at h0
    rw [h.first] at hx
    injection hx with hx
    subst hx
    injection h0 with h0
    injection h0 with h0 _
    simp only at h0
    omega
  · obtain ⟨p, _, e1, e2, _⟩ := t.next k _ hs (by omega)
    obtain ⟨p', _, e1', _⟩ := h.next k x hx (by omega)
    have := h.few
    simp only at e1
    omega)
theorem kidsN_count (vs : List (Int × Int)) (k : Nat) : kidsN vs k = countF (fun x => x.1 == (k : Int)) vs := thoseF_len _ vs 0
theorem countF_append (p : Int × Int → Bool) : ∀ a b, countF p (a ++ b) = countF p a + countF p b := by
  intro a b
  induction a with
  | nil => simp [countF]
  | cons y ys ih => rw [List.cons_append, countF, countF, ih]; omega
theorem hangs_take {vs : List (Int × Int)} {m k : Nat} (hk : k < m) (hm : m ≤ vs.length) (hh : Tp.hangs vs k = true) : Tp.hangs (vs.take m) k = true := by
  obtain ⟨x, hx⟩ : ∃ x, vs[k]? = some x := ⟨_, List.getElem?_eq_getElem (by omega)⟩
  have hx' : (vs.take m)[k]? = some x := by rw [List.getElem?_take, if_pos hk]; exact hx
  unfold Tp.hangs at hh ⊢
  rw [hx] at hh
  rw [hx']
  simp only [Option.getD_some] at hh ⊢
  unfold hangsX at hh ⊢
  split
  · rename_i e
    rw [if_pos e] at hh
    exact hh
  · rename_i e
    rw [if_neg e] at hh
    split
    · rename_i e2
      rw [if_pos e2] at hh
      cases hh
    · rename_i e2
      rw [if_neg e2] at hh
      rw [List.getElem?_take, if_pos (by omega)]
      exact hh
/-- Without its last vertex a tree is one, just if that had a sister. -/
theorem Tree.less {vs : List (Int × Int)} (h : Tree vs) : ∃ (p : Nat) (u : Int × Int), vs[vs.length - 1]? = some u ∧ u.1 = p ∧ u.2 = 3 ∧ may (vs.take (vs.length - 1)) = decide (1 < kidsN vs p) := by
  have h2 := h.two
  obtain ⟨u, hu⟩ : ∃ u, vs[vs.length - 1]? = some u := ⟨_, List.getElem?_eq_getElem (by omega)⟩
  obtain ⟨p, y, e1, e2, e3, e4, e5, e6⟩ := h.next _ u hu (by omega)
  have hu3 : u.2 = 3 := by
    by_cases e : u.2 < 3
    · obtain ⟨j, z, hj, hz, _⟩ := h.child hu e
      have := (List.getElem?_eq_some_iff.1 hz).1
      omega
    · omega
  have hsplit : vs = vs.take (vs.length - 1) ++ [u] := by
    have := List.take_append_drop (vs.length - 1) vs
    rw [List.drop_eq_getElem_cons (by omega), List.drop_of_length_le (by omega)] at this
    rw [List.getElem?_eq_getElem (by omega)] at hu
    injection hu with hu
    rw [hu] at this
    exact this.symm
  have hkids : ∀ k, kidsN vs k = kidsN (vs.take (vs.length - 1)) k + if u.1 == (k : Int) then 1 else 0 := by
    intro k
    rw [kidsN_count, kidsN_count]
    conv => lhs; rw [hsplit]
    rw [countF_append]
    simp [countF]
  refine ⟨p, u, hu, e1, hu3, ?_⟩
  have hy' : (vs.take (vs.length - 1))[p]? = some y := by rw [List.getElem?_take, if_pos (by omega)]; exact e3
  have hlen : (vs.take (vs.length - 1)).length = vs.length - 1 := by rw [List.length_take]; omega
  have hkp := hkids p
  rw [beq_iff_eq.2 e1] at hkp
  simp only [if_true] at hkp
  by_cases hk : 1 < kidsN vs p
  · rw [decide_eq_true hk, tree_iff]
    refine ⟨by omega, by have := h.few; omega, ?_, fun k hkl => hangs_take (by omega) (by omega) (h.hangs k (by omega)), fun k hkl => ?_⟩
    · have := h.procs
      unfold those at this ⊢
      rw [thoseF_len] at this ⊢
      rw [hsplit, countF_append] at this
      omega
    · obtain ⟨x, hx⟩ : ∃ x, vs[k]? = some x := ⟨_, List.getElem?_eq_getElem (by omega)⟩
      have hx' : (vs.take (vs.length - 1))[k]? = some x := by rw [List.getElem?_take, if_pos (by omega)]; exact hx
      have hf := h.filled k (by omega)
      unfold Tp.filled at hf ⊢
      rw [hx] at hf
      rw [hx']
      simp only [Option.getD_some] at hf ⊢
      split
      · rfl
      · rename_i e
        rw [if_neg e] at hf
        simp only [Bool.and_eq_true, decide_eq_true_eq] at hf ⊢
        have := hkids k
        by_cases ek : k = p
        · subst ek
          omega
        · have := hkids k
          rw [beq_eq_false_iff_ne.2 (show u.1 ≠ (k : Int) by omega)] at this
          simp at this
          omega
  · rw [decide_eq_false hk]
    refine Tree.not (fun t => ?_)
    obtain ⟨_, h8⟩ := t.kids hy'
    have : kidsN (vs.take (vs.length - 1)) p = 0 := by omega
    have := h8.1 this
    omega
end Go.Proofs.YtcoccegmkcdeiaaDoor.Tp

