/- TopoTurned: a tree with one vertex more, of a wrong level, or above itself, may not be; without its last processor's only sister it may: the call answers true and changes nothing that was there; for every input. -/
import Derived.Test.YtfcbpfopibilcaaShown
import Derived.Test.YtfcbpfopibilcaaTree
import Derived.Test.YtfcbpfopibilcaaFrame
import Derived.Test.YtfcbpfopibilcaaVx
import Derived.Deep.RegionHeld3
import Derived.Deep.AppendLies
import Derived.Deep.DeepCutAuto
namespace Go.Proofs.Ytfcbpfopibilcaa.topoTurned
open Go.ChangeShapes Go.WideShapes Go.ChangeAt Go.RowKit
set_option linter.unusedVariables false

/-- What the law asks of a tree without its last vertex. -/
theorem err_any (A : Option Addr) (n c : Nat) (vs : List (Int × Int)) (p : Nat) (u : Int × Int) (w : World)
    (hn : Hid (vs.length = n)) (h64 : n ≤ 64) (h2 : 2 ≤ n) (hu : vs[n - 1]? = some u) (hp : u.1 = p) (h3 : u.2 = 3) (hv : VRow w w.heap.size A vs) :
    Calls Try.prog 20 #[.slice A n c] w fun e w' => e = .returned (.int .i64 (Tp.errno (decide (1 < Tp.kidsN vs p)))) ∧ Below w.heap.size w w' := by
  obtain ⟨b, off, hA, hbk, hc1, hc2⟩ := hv _ u hu
  subst hA
  rw [hp] at hc1
  rw [h3] at hc2
  have HU := Lib.hid hu
  clear hp h3 hu
  have HK : Hid ((Tp.those (kidsP p) vs).length = Tp.kidsN vs p) := Lib.hid rfl
  have hle := Tp.those_le (kidsP p) vs n
  rw [show vs.take n = vs from List.take_of_length_le (by have := hn.out; omega)] at hle
  have f1 : ((n : Int) - 1).toNat = n - 1 := by omega
  go_enter Try.func20, Try.ntmps20
  go_wp2_with fail
  refine (kids_any _ n c vs p _ hn (by omega) (by omega) hv).mono ?_
  rintro e w1 ⟨A1, c1, rfl, _, hb1⟩
  have hd2 := (hb1.cell (p := ⟨b, off + (n - 1) * 2 + 1, none⟩) hbk).trans hc2
  rw [HK.out] at hle ⊢
  by_cases hk : 1 < Tp.kidsN vs p
  · have HD' := Lib.hid (decide_eq_true hk)
    go_wp2_with fail
    go_ret
    exact ⟨by first | rfl | (rw [HD'.out]; rfl), hb1⟩
  · have HD' := Lib.hid (decide_eq_false hk)
    go_wp2_with fail
    go_ret
    exact ⟨by first | rfl | (rw [HD'.out]; rfl), hb1⟩

theorem keptB {w2 w5 : World} {q l : Int} (hgrow : ((w2.alloc (.cells #[] 34)).alloc (.cells #[.int .i64 q, .int .i64 l] 34)).drew.grownBy w5 (Value.slice (some ⟨w2.heap.size, 0, none⟩) 0 0).ownBlock) :
    ∀ j u, (vcells [(q, l)])[j]? = some u → w5.cell? ((⟨w2.heap.size + 1, 0, none⟩ : Addr).add j) = some u := by
  refine news_kept_drew (row := w2.heap.size) (g := w2.heap.size + 1) hgrow rfl (by omega) (by simp) ?_
  have := two_cells (w2.alloc (.cells #[] 34)) q l 34
  simpa using this
theorem keptC {w2 w5 : World} {q l : Int} (hgrow : ((w2.alloc (.cells #[.int .i64 q, .int .i64 l] 34)).alloc (.cells #[] 34)).drew.grownBy w5 (Value.slice (some ⟨w2.heap.size + 1, 0, none⟩) 0 0).ownBlock) :
    ∀ j u, (vcells [(q, l)])[j]? = some u → w5.cell? ((⟨w2.heap.size, 0, none⟩ : Addr).add j) = some u := by
  refine news_kept_drew (row := w2.heap.size + 1) (g := w2.heap.size) hgrow rfl (by omega) (by simp; omega) ?_
  intro j u hj
  have := two_cells w2 q l 34 j u hj
  rw [add_at] at this ⊢
  rw [World.cell?_alloc_past _ _ _ (by simp)]
  exact this
set_option maxHeartbeats 4000000 in
set_option maxRecDepth 100000 in
theorem walk (A : Option Addr) (n c : Nat) (vs : List (Int × Int)) (more : Int) (w : World)
    (hn : Hid (vs.length = n)) (hl : n ≤ 9223372036854775807) (hf : Hid (Fit vs)) (hv : VRow w w.heap.size A vs) (hcn : n ≤ c) (hcm : c ≤ 9223372036854775807) (hu : (Lit.int .u8 more).wf = true) :
    Calls Try.prog 6 #[.slice A n c, .int .u8 more] w fun e w' => e = .returned (.bool true) ∧ Below w.heap.size w w' := by
  go_enter Try.func6, Try.ntmps6
  go_wp2_with fail
  refine (shown_any _).mono ?_
  rintro e w1 ⟨rfl, hb1⟩
  have hv1 := (hv.below hb1).more hb1.size
  go_wp2_with fail
  refine (check_any _ n c vs _ hn hl hf hv1).mono ?_
  rintro e w2 ⟨he, hb2⟩
  have hbe2 := hb1.trans (hb2.mono hb1.size)
  clear hb1 hb2 hv1
  cases hm : Tp.may vs
  · rw [hm] at he
    have he' : e = .returned (.int .i64 2) := he
    subst he'
    clear hm he
    go_wp2_with fail
    go_ret
    exact ⟨rfl, hbe2⟩
  · rw [hm] at he
    have he' : e = .returned (.int .i64 0) := he
    subst he'
    have T := (Tp.tree_iff vs).1 hm
    have h64 : n ≤ 64 := by have := T.few; have := hn.out; omega
    have h2n : 2 ≤ n := by have := T.two; have := hn.out; omega
    clear hm he
    obtain ⟨b, off, hA, hbk, _, _⟩ := hv 0 _ T.first
    subst hA
    have hu' : 0 ≤ more ∧ more ≤ 255 := by simpa [Lit.wf, IntKind.min, IntKind.max, IntKind.signed, IntKind.bits] using hu
    obtain ⟨u0, u1⟩ := hu'
    obtain ⟨mo, rfl⟩ := Int.eq_ofNat_of_zero_le u0
    clear hu u0
    obtain ⟨q, hq⟩ : ∃ q, q = mo % n := ⟨_, rfl⟩
    have hqn : q < n := by rw [hq]; exact Nat.mod_lt _ (by omega)
    obtain ⟨x, hx⟩ : ∃ x, vs[q]? = some x := ⟨_, List.getElem?_eq_getElem (by have := hn.out; omega)⟩
    obtain ⟨l0, l3⟩ := T.level hx
    obtain ⟨b', off', hA, _, _, hc2⟩ := (hv.below hbe2) q x hx
    injection hA with hA
    injection hA with e1 e2
    subst e1 e2
    have t1 : ((mo : Int).tmod (n : Int)) = (q : Int) := by rw [hq]; rfl
    have t2 : IntKind.i64.wrap (mo : Int) = (mo : Int) := IntWalk.i64_in _ (by omega)
    have t3 : (mo : Int) % (n : Int) = (q : Int) := by rw [hq]; rfl
    have t5 : (0 : Int) ≤ (q : Int) := by omega
    have t6 : (q : Int) < (n : Int) := by omega
    have t7 : IntKind.i64.wrap (q : Int) = (q : Int) := IntWalk.i64_in _ (by omega)
    have t8 : ((n : Int) == 0) = false := by rw [beq_eq_false_iff_ne]; omega
    have t9 : ¬ n = 0 := by omega
    have HX := Lib.hid hx
    have hfx := hf.out x (List.mem_of_getElem? hx)
    have hlen : (vcells vs).length = n * 2 := by rw [vcells_length, hn.out]
    have HLEN := Lib.hid hlen
    clear hlen hx hq
    obtain ⟨i0, hi, hz0, hz1, hz2⟩ := info_parts info_vx
    have hr2 : VRow w2 w2.heap.size (some ⟨b, off, none⟩) vs := (hv.below hbe2).more hbe2.size
    have hbw : b < w2.heap.size := by have := hbe2.size; omega
    have hownA := own_empty w2 w2.heap.size 34 (Nat.le_refl _)
    have hownC : ((w2.alloc (.cells #[.int .i64 (q : Int), .int .i64 x.2] 34)).alloc (.cells #[] 34)).ownsRow w2.heap.size 34 2 (.slice (some ⟨w2.heap.size + 1, 0, none⟩) 0 0) 0 (vcells []) := by
      have := own_empty (w2.alloc (.cells #[.int .i64 (q : Int), .int .i64 x.2] 34)) w2.heap.size 34 (by simp)
      simpa using this
    have rA := Lib.hid (hr2.below (below1 w2 (.cells #[] 34))).cells
    have rB := Lib.hid (hr2.below ((below1 w2 (.cells #[] 34)).alloc (by simp) (.cells #[.int .i64 (q : Int), .int .i64 x.2] 34))).cells
    have rC := Lib.hid (hr2.below ((below1 w2 (.cells #[.int .i64 (q : Int), .int .i64 x.2] 34)).alloc (by simp) (.cells #[] 34))).cells
    go_upto_region 5 with fail
    go_cut [7] (fun s7 wx => wx.ownsRow w2.heap.size 34 2 s7 (n + 1) (vcells (vs ++ [((q : Int), x.2)])) ∧ Below w2.heap.size w2 wx)
    case first =>
      go_wp2_with fail
      go_region_held3 (fun w' => w'.cell? ⟨b, off + q * 2 + 1, none⟩ = some (.int .i64 x.2))
        (first | go_keep | (rw [hgrow2.cell_far _ (by simp; omega) (by simp [Value.ownBlock]; omega)]; assumption) | (rw [hgrow.cell_far _ (by simp; omega) (by simp [Value.ownBlock]; omega)]; assumption))
        ((first
          | (refine step_append_lies _ (by rfl) _ _ _ (by rfl) w2.heap.size 34 i0 _ 2 16 Try.underlying22 hi hz0 hz1 hz2 rfl (by omega) (.slice (some ⟨w2.heap.size, 0, none⟩) 0 0) 0 (vcells []) (by rfl) hownA.drew ⟨b, off, none⟩ n c (vcells vs) (by rfl) HLEN.out rA.out (vcells_one' vs) (by omega) (by unfold maxLen; omega) (by omega) (by simp) (w2.heap.size + 1) (by simp) ?_; intro gg cap w5 hown5 hgrow hat hlt5; have hown5z := hown5; simp only [Nat.zero_add, vcells_nil, List.nil_append] at hown5; have hgg : w2.heap.size ≤ gg := (hown5.lt gg rfl).1; have k1 : w2.heap.size ≤ w5.heap.size := (by omega))
          | (refine step_append_lies _ (by rfl) _ _ _ (by rfl) w2.heap.size 34 i0 _ 2 16 Try.underlying22 hi hz0 hz1 hz2 rfl (by omega) (.slice (some ⟨w2.heap.size, 0, none⟩) 0 0) 0 (vcells []) (by rfl) (hownA.alloc _).drew ⟨b, off, none⟩ n c (vcells vs) (by rfl) HLEN.out rB.out (vcells_one' vs) (by omega) (by unfold maxLen; omega) (by omega) (by simp; omega) (w2.heap.size + 1 + 1) (by simp) ?_; intro gg cap w5 hown5 hgrow hat hlt5; have hown5z := hown5; simp only [Nat.zero_add, vcells_nil, List.nil_append] at hown5; have hgg : w2.heap.size ≤ gg := (hown5.lt gg rfl).1; have k1 : w2.heap.size ≤ w5.heap.size := (by omega); have k2 := keptB hgrow)
          | (refine step_append_lies _ (by rfl) _ _ _ (by rfl) w2.heap.size 34 i0 _ 2 16 Try.underlying22 hi hz0 hz1 hz2 rfl (by omega) (.slice (some ⟨w2.heap.size + 1, 0, none⟩) 0 0) 0 (vcells []) (by rfl) hownC.drew ⟨b, off, none⟩ n c (vcells vs) (by rfl) HLEN.out rC.out (vcells_one' vs) (by omega) (by unfold maxLen; omega) (by omega) (by simp; omega) (w2.heap.size + 1 + 1) (by simp) ?_; intro gg cap w5 hown5 hgrow hat hlt5; have hown5z := hown5; simp only [Nat.zero_add, vcells_nil, List.nil_append] at hown5; have hgg : w2.heap.size ≤ gg := (hown5.lt gg rfl).1; have k1 : w2.heap.size ≤ w5.heap.size := (by omega); have k2 := keptC hgrow)
          | (refine step_append_lies _ (by rfl) _ _ _ (by rfl) w2.heap.size 34 i0 _ 2 16 Try.underlying22 hi hz0 hz1 hz2 rfl (by omega) _ _ _ (by rfl) (hown5.alloc _) ⟨w5.heap.size, 0, none⟩ 1 1 (vcells [((q : Int), x.2)]) (by rfl) (by rfl) (two_cells w5 q x.2 _) (vcells_one' _) (by omega) (by unfold maxLen; omega) (by omega) (by have := hgrow.size; simp at this; simp; omega) (w5.heap.size + 1) (by simp) ?_; intro gg2 cap2 w6 hown6 hgrow2 hat2 hlt6)
          | (refine step_append_lies _ (by rfl) _ _ _ (by rfl) w2.heap.size 34 i0 _ 2 16 Try.underlying22 hi hz0 hz1 hz2 rfl (by omega) _ _ _ (by rfl) hown5z _ 1 1 (vcells [((q : Int), x.2)]) (by rfl) (by rfl) k2 (vcells_one' _) (by omega) (by unfold maxLen; omega) (by omega) k1 _ rfl ?_; intro gg2 cap2 w6 hown6 hgrow2 hat2 hlt6)))
      all_goals go_wp2_with fail
      all_goals go_meet
      all_goals
        simp only [Nat.zero_add, vcells_nil, List.nil_append, ← vcells_append] at hown6
        refine ⟨hown6, ?_⟩
        first
          | exact (((below1 w2 _).drew.grown hgrow (by simp) (fun k hk => by simp [Value.ownBlock] at hk; omega)).alloc k1 _).grown hgrow2 (by simp; omega) (fun k hk => (hown5.lt k hk).1)
          | exact ((((below1 w2 _).alloc (by simp) _).drew).grown hgrow (by simp; omega) (fun k hk => by simp [Value.ownBlock] at hk; omega)).grown hgrow2 k1 (fun k hk => (hown5.lt k (by simpa using hk)).1)
    case rest =>
      obtain ⟨hown7, hb7⟩ := hcut
      obtain ⟨A7, c7, hv7⟩ := own_form hown7
      subst hv7
      have hbe7 := hbe2.trans (hb7.mono hbe2.size)
      have hr7 := VRow.of_own hown7
      have hvc := hv.below hbe7
      clear hown7 hb7 rA rB rC hownA hownC hr2 hbw hc2
      have hown0 := own_empty wc wc.heap.size 34 (Nat.le_refl _)
      have hrc : VRow (wc.alloc (.cells #[] 34)) wc.heap.size (some ⟨b, off, none⟩) vs := (hvc.more hbe7.size).below (below1 wc _)
      go_wp2_with (at_builtin; refine wpList_append_own _ rfl _ _ 22 rfl wc.heap.size 34 i0 _ 2 16 Try.underlying22 hi hz0 hz1 hz2 rfl (by decide) _ _ _ rfl hown0 ⟨b, off, none⟩ n c (vcells vs) rfl HLEN.out ?c1 ?c2 ?c3 ?c4 ?c5 ?_)
      case c1 => exact hrc.cells
      case c2 => exact vcells_one' vs
      case c3 => unfold maxLen; omega
      case c4 => omega
      case c5 => simp
      intro v3 w3 hown3 hg3 _
      have hb3 : Below wc.heap.size wc w3 := ((Below.refl _ _).alloc (Nat.le_refl _) _).grown hg3 (by simp) (fun k hk => by simp [Value.ownBlock] at hk; omega)
      rw [vcells_nil, List.nil_append] at hown3
      clear hg3 hown0 hrc
      go_wp2_with (at_builtin; refine wpList_append_own _ rfl _ _ 22 rfl wc.heap.size 34 i0 _ 2 16 Try.underlying22 hi hz0 hz1 hz2 rfl (by decide) _ _ _ rfl (hown3.alloc _) ⟨w3.heap.size, 0, none⟩ 1 1 (vcells [((n : Int), 3)]) rfl rfl ?c1 ?c2 ?c3 ?c4 ?c5 ?_)
      case c1 => exact two_cells _ _ _ _
      case c2 => exact vcells_one' _
      case c3 => unfold maxLen; omega
      case c4 => omega
      case c5 => have := hb3.size; simp; omega
      intro v4 w4 hown4 hg4 _
      have hb4 : Below wc.heap.size wc w4 := (hb3.alloc hb3.size _).grown hg4 (by have := hb3.size; simp; omega) (fun k hk => (hown3.lt k hk).1)
      rw [← vcells_append] at hown4
      clear hown3 hg4 hb3
      obtain ⟨A8, c8, hv8⟩ := own_form hown4
      subst hv8
      have hr8 := VRow.of_own hown4
      have hr7 := (hr7.below hb4).more hb4.size
      have hbe8 := hbe7.trans (hb4.mono hbe7.size)
      have hvc := hv.below hbe8
      clear hown4 hb4 hbe7
      have hown0 := own_empty w4 w4.heap.size 34 (Nat.le_refl _)
      have hrc : VRow (w4.alloc (.cells #[] 34)) w4.heap.size (some ⟨b, off, none⟩) vs := (hvc.more hbe8.size).below (below1 w4 _)
      go_wp2_with (at_builtin; refine wpList_append_own _ rfl _ _ 22 rfl w4.heap.size 34 i0 _ 2 16 Try.underlying22 hi hz0 hz1 hz2 rfl (by decide) _ _ _ rfl hown0 ⟨b, off, none⟩ n c (vcells vs) rfl HLEN.out ?c1 ?c2 ?c3 ?c4 ?c5 ?_)
      case c1 => exact hrc.cells
      case c2 => exact vcells_one' vs
      case c3 => unfold maxLen; omega
      case c4 => omega
      case c5 => simp
      intro v5 w5 hown5 hg5 _
      have hb5 : Below w4.heap.size w4 w5 := ((Below.refl _ _).alloc (Nat.le_refl _) _).grown hg5 (by simp) (fun k hk => by simp [Value.ownBlock] at hk; omega)
      rw [vcells_nil, List.nil_append] at hown5
      clear hg5 hown0 hrc
      obtain ⟨g, c9, hv9, hgb, hgl⟩ := hown5.form (by omega)
      subst hv9
      have hcx := hown5.cellAt (q * 2) (by omega)
      rw [(vcells_at vs q).1, HX.out] at hcx
      have hcx' : w5.cell? ⟨g, q * 2, none⟩ = some (.int .i64 x.1) := hcx
      have hfz := hown5.frozenAt (q * 2)
      obtain ⟨hst, _⟩ := hown5.stored (q * 2) (.int .i64 (x.1 + 64))
      rw [vcells_set vs q (x.1 + 64) x HX.out] at hst
      have hx1 : -1 ≤ x.1 ∧ x.1 ≤ 64 := by
        by_cases e : q = 0
        · have h0 := HX.out
          rw [e, T.first] at h0
          injection h0 with h0
          rw [← h0]
          exact ⟨by decide, by decide⟩
        · obtain ⟨p, _, e1, e2, _⟩ := T.next q x HX.out (by omega)
          omega
      obtain ⟨x1a, x1b⟩ := hx1
      have hb6 : Below w4.heap.size w4 (w5.setCell ⟨g, q * 2, none⟩ (.int .i64 (x.1 + 64))) := hb5.setCell hgb _
      have hbe9 := hbe8.trans (hb6.mono hbe8.size)
      have hr7 := (hr7.below hb6).more hb6.size
      have hr8 := (hr8.below hb6).more hb6.size
      have hr9 := VRow.of_own hst
      have hvl := hv.below hbe9
      clear hcx hst hb5 hb6 hown5 hbe8 hvc hi hz0 hz1 hz2 i0
      have F7 : Hid (Fit (vs ++ [((q : Int), x.2)])) := Lib.hid (hf.out.append (fun y hy => by
        rw [List.mem_singleton] at hy
        subst hy
        exact ⟨⟨by omega, by omega⟩, ⟨by simp only; omega, by simp only; omega⟩⟩))
      have F8 : Hid (Fit (vs ++ [((n : Int), 3)])) := Lib.hid (hf.out.append (fun y hy => by
        rw [List.mem_singleton] at hy
        subst hy
        exact ⟨⟨by omega, by omega⟩, ⟨by simp only; omega, by simp only; omega⟩⟩))
      have F9 : Hid (Fit (vs.set q (x.1 + 64, x.2))) := Lib.hid (fun y hy => by
        rcases List.mem_or_eq_of_mem_set hy with h | h
        · exact hf.out y h
        · subst h
          exact ⟨⟨by simp only; omega, by simp only; omega⟩, ⟨by simp only; omega, by simp only; omega⟩⟩)
      have L7 : Hid ((vs ++ [((q : Int), x.2)]).length = n + 1) := Lib.hid (by rw [List.length_append, hn.out]; rfl)
      have L8 : Hid ((vs ++ [((n : Int), 3)]).length = n + 1) := Lib.hid (by rw [List.length_append, hn.out]; rfl)
      have L9 : Hid ((vs.set q (x.1 + 64, x.2)).length = n) := Lib.hid (by rw [List.length_set, hn.out])
      have LT : Hid ((vs.take (n - 1)).length = n - 1) := Lib.hid (by rw [List.length_take, hn.out]; omega)
      have FT : Hid (Fit (vs.take (n - 1))) := Lib.hid (hf.out.take _)
      have M7 : Hid (Tp.may (vs ++ [((q : Int), x.2)]) = false) := Lib.hid (T.twin HX.out)
      have M8 : Hid (Tp.may (vs ++ [((n : Int), 3)]) = false) := Lib.hid (by have := T.self; rw [hn.out] at this; exact this)
      have M9 : Hid (Tp.may (vs.set q (x.1 + 64, x.2)) = false) := Lib.hid (T.moved HX.out)
      obtain ⟨p, u, hu1, hu2, hu3, hless⟩ := T.less
      rw [hn.out] at hu1 hless
      have HU1 := Lib.hid hu1
      have HU2 := Lib.hid hu2
      have HU3 := Lib.hid hu3
      have HLESS := Lib.hid hless
      clear hu1 hu2 hu3 hless
      have R7 := Lib.hid hr7
      have R8 := Lib.hid hr8
      have R9 := Lib.hid hr9
      clear hr7 hr8 hr9
      have hcx2 := hcx'
      go_wp2_with fail
      refine (check_any _ (n + 1) c7 _ _ L7 (by omega) F7 R7.out).mono ?_
      rintro e w10 ⟨he, hb10⟩
      rw [M7.out] at he
      have he' : e = .returned (.int .i64 2) := he
      subst he'
      have R8 := Lib.hid ((R8.out.below hb10).more hb10.size)
      have R9 := Lib.hid ((R9.out.below hb10).more hb10.size)
      have hbe10 := hbe9.trans (hb10.mono hbe9.size)
      clear he hb10 hbe9 hvl hcx' hcx2 hfz
      go_wp2_with fail
      refine (check_any _ (n + 1) c8 _ _ L8 (by omega) F8 R8.out).mono ?_
      rintro e w11 ⟨he, hb11⟩
      rw [M8.out] at he
      have he' : e = .returned (.int .i64 2) := he
      subst he'
      have R9 := Lib.hid ((R9.out.below hb11).more hb11.size)
      have hbe11 := hbe10.trans (hb11.mono hbe10.size)
      clear he hb11 hbe10
      go_wp2_with fail
      refine (check_any _ n c9 _ _ L9 (by omega) F9 R9.out).mono ?_
      rintro e w12 ⟨he, hb12⟩
      rw [M9.out] at he
      have he' : e = .returned (.int .i64 2) := he
      subst he'
      have hbe12 := hbe11.trans (hb12.mono hbe11.size)
      have hv12 := (hv.below hbe12).more hbe12.size
      clear he hb12 hbe11
      go_wp2_with fail
      refine (check_any _ (n - 1) c (vs.take (n - 1)) _ LT (by omega) FT (hv12.take _)).mono ?_
      rintro e w13 ⟨he, hb13⟩
      have hbe13 := hbe12.trans (hb13.mono hbe12.size)
      have hv13 := (hv.below hbe13).more hbe13.size
      rw [HLESS.out] at he
      clear hb13 hbe12
      cases hk : decide (1 < Tp.kidsN vs p)
      · rw [hk] at he
        have he' : e = .returned (.int .i64 2) := he
        subst he'
        have HK := Lib.hid hk
        clear he hk
        go_wp2_with fail
        refine (err_any _ n c vs p u _ hn (by omega) (by omega) HU1.out HU2.out HU3.out hv13).mono ?_
        rintro e w14 ⟨he, hb14⟩
        rw [HK.out] at he
        have he' : e = .returned (.int .i64 2) := he
        subst he'
        have hbe14 := hbe13.trans (hb14.mono hbe13.size)
        clear he
        go_wp2_with fail
        go_ret
        exact ⟨rfl, hbe14⟩
      · rw [hk] at he
        have he' : e = .returned (.int .i64 0) := he
        subst he'
        have HK := Lib.hid hk
        clear he hk
        go_wp2_with fail
        refine (err_any _ n c vs p u _ hn (by omega) (by omega) HU1.out HU2.out HU3.out hv13).mono ?_
        rintro e w14 ⟨he, hb14⟩
        rw [HK.out] at he
        have he' : e = .returned (.int .i64 0) := he
        subst he'
        have hbe14 := hbe13.trans (hb14.mono hbe13.size)
        clear he
        go_wp2_with fail
        go_ret
        exact ⟨rfl, hbe14⟩
set_option maxRecDepth 100000 in
theorem lifted (os : Os) (started : os.Started) (H : Type) (enc : TypeId × Value → H) :
    ReturnsInHanded {} Try.checked os 6 .any (Rows.topoTurnedSpec.pre6 enc Try.prog Try.f6 Rows.topoTurnedRow.domain false) (Rows.topoTurnedSpec.post enc Try.prog Try.f6 false true false false) := by
  refine returnsInHanded_of_change (C := Try.checked) own started (by kernel_rfl) Try.func6
    (ChangeSpec.witness6 (enc := enc) (C := Try.checked) false ⟨#[], #[.slice none 0 0, .int .u8 0], []⟩ 8 (by kernel_rfl) (by kernel_rfl) (by kernel_rfl) (by kernel_rfl)) ?_
  intro W base args ds gs before hval0 hW hcnd _
  have hval : ∀ (j : Nat) t v, Try.f6.params[j]? = some t → args[j]? = some v → Value.okWide Try.prog W .any base t v := hval0
  have hW' := hW
  obtain ⟨p, q, hA0, hV, rfl, hfz, hnd⟩ := hW
  have hA : DataW.TrodAll enc Try.prog W 0 (fun _ => true) true Try.f6.params.toList args.toList ds p := hA0
  rw [Try.params6] at hA hval
  obtain ⟨v0, vs0, d0, ds0, p0, q0, hargs, rfl, rfl, h0, r0⟩ := trodAll_cons hA
  obtain ⟨v1, vs1, d1, ds1, p1, q1, rfl, rfl, rfl, h1, r1⟩ := trodAll_cons r0
  obtain ⟨rfl, rfl, rfl⟩ := trodAll_nil r1
  obtain rfl : args = #[v0, v1] := by cases args; simp_all
  obtain ⟨rfl, rfl⟩ := trodVars_none hV
  obtain ⟨a0, len0, cap0, rfl⟩ := okWide_slice Try.underlying22 (hval 0 22 v0 rfl rfl)
  have k0 := h0
  have lt0 : ∀ x ∈ p0, x.block < W.heap.size := by obtain ⟨m, hm⟩ := k0; exact DataW.trod_lt m _ _ _ hm
  obtain ⟨hl0, hc0, z0, hn0, hf0, hr0⟩ : len0 ≤ 9223372036854775807 ∧ (len0 ≤ cap0 ∧ cap0 ≤ 9223372036854775807) ∧ ∃ vs : List (Int × Int), vs.length = len0 ∧ Fit vs ∧ VRow W W.heap.size a0 vs := by
    obtain ⟨fuel, hf⟩ := h0
    exact open_vs (by simpa [Value.cells] using hf)
  obtain ⟨a1, rfl, rfl, rfl, w1⟩ := open_int Try.underlying5 (hval 1 5 v1 rfl rfl) h1
  clear hA0 hval0
  refine (walk a0 len0 cap0 z0 a1 W (Lib.hid hn0) hl0 (Lib.hid hf0) hr0 hc0.1 hc0.2 w1).mono fun e W' ⟨he, bel⟩ => ?_
  subst he
  exact ⟨_, rfl, _, _, _, [], _, [], hW', trodAll_mk1 (shut_bool Try.underlying4 _), (trodAll_cons_mk (Below.trod laidOut (by kernel_rfl) (of_decide_eq_true (by kernel_rfl)) k0 bel lt0) (trodAll_cons_mk (shut_int Try.underlying5 w1) trodAll_mk0)), rfl, bel.frame _, fun h => by cases h⟩
theorem over : Rows.topoTurnedRow.holds Try.pinned (OpenSpec.ofChange Rows.topoTurnedSpec) :=
  OpenClaim.holds_of_wide 6 Try.f6 rfl rfl rfl rfl rfl rfl rfl ⟨rfl, rfl, rfl, rfl, rfl⟩ rfl rfl rfl rfl rfl (by kernel_rfl) Try.func6 (by kernel_rfl)
    (of_decide_eq_true (by kernel_rfl)) (by unfold Func.isWrapper; first | (rw [if_pos (by decide +kernel)]; kernel_rfl) | (rw [if_neg (by decide +kernel)]; exact ⟨rfl, rfl⟩))
    (fun os started H enc _ => lifted os started H enc)
theorem proved : Rows.TopoTurnedSaid := over
end Go.Proofs.Ytfcbpfopibilcaa.topoTurned

