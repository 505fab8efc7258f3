/- The document's Drop and Pop, by their contracts. -/
import Derived.Test.YthljecllmdbbbaaQRefPush
import Derived.StillTailTactics
namespace Go.Proofs.Ythljecllmdbbbaa
open Go.RowKit
set_option linter.unusedVariables false

/-- What a call leaves that has made an arena, and tells whether. -/
def MadeXB (P : Nat → Prop) (m : Int) (q : List (List Int)) (s : Bool) (w0 : World) (e : Ending) (w' : World) : Prop :=
  ∃ A n c, e = .returned (.tuple #[.agg #[.int .i64 m, .slice A n c], .bool s]) ∧ Rws w' P A n c q ∧ Below w0.heap.size w0 w'
theorem drop_set {m : Int} {q : List (List Int)} (h : Qp.Ok m q) {k : Nat} {l : List Int} {g : Int} (hk : q[k]? = some l) (hg : g ∈ l) : q.set k (Qp.but g l) = Qp.drop q g := by
  apply List.ext_getElem?
  intro i
  have hlt := (List.getElem?_eq_some_iff.1 hk).1
  rw [Qp.drop_at, List.getElem?_set]
  by_cases e : k = i
  · subst e; rw [if_pos rfl, if_pos hlt, hk]; rfl
  · rw [if_neg e]
    cases hi : q[i]? with
    | none => rfl
    | some l' => simp [Qp.but_none (fun hx => e (h.one _ _ _ _ _ hk hi hg hx))]
theorem but_le (g : Int) (l : List Int) : (Qp.but g l).length ≤ l.length := by unfold Qp.but; exact List.length_filter_le _ _
set_option maxHeartbeats 4000000 in
set_option maxRecDepth 100000 in
theorem refDrop_any (m m' : Int) (P : Nat → Prop) (A : Option Addr) (n c : Nat) (q : List (List Int)) (g : Int) (w : World) (h : Rws w P A n c q) (hB : ∀ b, w.heap.size ≤ b → P b) (hn : n ≤ 1000) (hll : ∀ (i : Nat) l, q[i]? = some l → l.length ≤ 1000) (hok : Qp.Ok m' q) :
    Calls Try.prog 17 #[.agg #[.int .i64 m, .slice A n c], .int .i64 g] w (MadeXB P m (Qp.drop q g) (Qp.stands q g) w) := by
  obtain ⟨i0, hi, hz0, hz1, hz2⟩ := info_parts info_int
  have H := Lib.hid h
  have hcap := h.cap
  have hmost := h.most
  have HLEN := Lib.hid h.len
  have HLL := Lib.hid hll
  have HOK := Lib.hid hok
  clear h hll hok
  obtain ⟨W0, hW0, hX0⟩ := Bx.start w (.int .i64 m) (.slice A n c) (.int .i64 0) (.slice none 0 0) 30 30
  have X0 := Lib.hid hX0
  have E0 := Lib.hid hW0
  clear hX0 hW0
  have c0 := X0.out.c0
  have c1 := X0.out.c1
  by_cases ho : Qp.of q g < 0
  · have HS := Lib.hid (show Qp.stands q g = false by unfold Qp.stands; simp; omega)
    have HD := Lib.hid (Qp.drop_none ho)
    obtain ⟨o, hoe⟩ : ∃ o, o = Qp.of q g := ⟨_, rfl⟩
    have HO := Lib.hid hoe
    rw [← hoe] at ho
    clear hoe
    go_enter Try.func17, Try.ntmps17
    go_wp2_with fail
    rw [← E0.out]
    clear E0
    refine (refOf_any m P A n c q g W0 (H.out.step X0.out.below)).mono ?_
    rintro e w2 ⟨rfl, hb2⟩
    rw [← HO.out]
    have X2 := X0.out.step hb2
    have d0 := X2.c0
    have d1 := X2.c1
    have d2 := X2.r0
    have d3 := X2.r1
    have d4 := X2.f0
    have d5 := X2.f1
    obtain ⟨k0, k1⟩ := told2 (u := .int .i64 m) (v := .slice A n c) d2 d3
    have hbw := (X2.below.setCell (p := ⟨w.heap.size + 1, 0, none⟩) (by simp only; omega) (.int .i64 m)).setCell (p := ⟨w.heap.size + 1, 1, none⟩) (by simp only; omega) (.slice A n c)
    have HM := Lib.hid (show MadeXB P m q false w (.returned (.tuple #[.agg #[.int .i64 m, .slice A n c], .bool false])) _ from ⟨A, n, c, rfl, H.out.step hbw, hbw⟩)
    clear hbw hb2 X2
    go_wp2_with fail
    refine bodyPost_ret (v := .tuple #[.agg #[.int .i64 m, .slice A n c], .bool false]) ?_ rfl ?_
    · simp [results, Try.results17, go_sem, k0, k1]
    rw [HD.out, HS.out]
    exact HM.out
  · have HS := Lib.hid (show Qp.stands q g = true by unfold Qp.stands; simp; omega)
    obtain ⟨k, l, hk, hat, hg⟩ := Qp.of_at (q := q) (g := g) (by omega)
    have HD := Lib.hid (drop_set HOK.out hat hg)
    have hkn : k < n := by have := (List.getElem?_eq_some_iff.1 hat).1; rw [HLEN.out] at this; exact this
    have HO := Lib.hid hk
    obtain ⟨b, off, rfl, hb, hcells⟩ := H.out.cells (by omega)
    obtain ⟨Ak, ck, hck, hrk, _⟩ := hcells k l hat
    obtain ⟨N, hN⟩ : ∃ N, l.length = N := ⟨_, rfl⟩
    have hNb : N ≤ 1000 := by rw [← hN]; exact HLL.out k l hat
    rw [hN] at hck hrk
    have RK := Lib.hid hrk
    have HN := Lib.hid hN
    have hho : ¬ ((k : Int) < 0) := by omega
    clear ho hat hg hcells hrk hN hk
    go_enter Try.func17, Try.ntmps17
    go_wp2_with fail
    rw [← E0.out]
    clear E0
    refine (refOf_any m P _ n c q g W0 (H.out.step X0.out.below)).mono ?_
    rintro e w1 ⟨rfl, hb1⟩
    rw [HO.out]
    have X1 := Lib.hid (X0.out.step hb1)
    have hs1 := X1.out.size
    clear hb1 c0 c1
    go_wp2_with fail
    go_loopw [7, 8] (fun u i wr => ∃ j : Nat, j ≤ N ∧ i = .int .i64 j ∧ Hid (wr.ownsRow (w.heap.size + 2) 3 1 u (Qp.but g (l.take j)).length ((Qp.but g (l.take j)).map (Value.int .i64))) ∧ Hid (Bx w wr (.int .i64 m) (.slice (some ⟨b, off, none⟩) n c) (.int .i64 0) (.slice none 0 0))) (fun _ i _ => N - (intOf i).toNat)
    case atStart => exact ⟨0, Nat.zero_le _, rfl, Lib.hid (World.ownsRow_nil _ _ _ _), X1⟩
    case round =>
      obtain ⟨j, hj, rfl, HO2, HX2⟩ := hrel
      have d0 := HX2.out.c0
      have d1 := HX2.out.c1
      have hs2 := HX2.out.size
      have hckw : wr.cell? ⟨b, off + k, none⟩ = some (.slice Ak N ck) := (HX2.out.below.cell (p := ⟨b, off + k, none⟩) hb).trans hck
      by_cases hjn : j < N
      · obtain ⟨x, hx⟩ : ∃ x, l[j]? = some x := ⟨_, List.getElem?_eq_getElem (by rw [HN.out]; exact hjn)⟩
        obtain ⟨b9, o9, rfl, hb9, hc9⟩ := (RK.out.below HX2.out.below).cells (by omega)
        have c9 := hc9 j x hx
        have hts : l.take (j + 1) = l.take j ++ [x] := by rw [List.take_add_one, hx]; rfl
        by_cases hxg : x = g
        · have k1 : (x != g) = false := by simp [hxg]
          have HT := Lib.hid (show Qp.but g (l.take (j + 1)) = Qp.but g (l.take j) by rw [hts, hxg]; unfold Qp.but; rw [List.filter_append]; simp)
          clear hc9 hx hts hxg
          go_wp2_with fail
          go_roundw
          case rel => exact ⟨j + 1, by omega, by go_num, by rw [HT.out]; exact HO2, HX2⟩
          case measure => simp [intOf]; omega
        · have k1 : (x != g) = true := by simp [hxg]
          have HT := Lib.hid (show Qp.but g (l.take (j + 1)) = Qp.but g (l.take j) ++ [x] by rw [hts]; unfold Qp.but; rw [List.filter_append]; simp [hxg])
          obtain ⟨lw, hlw⟩ : ∃ lw, lw = Qp.but g (l.take j) := ⟨_, rfl⟩
          have hlw64 : lw.length ≤ 1000 := by
            rw [hlw]
            have h1 := but_le g (l.take j)
            have h2 := List.length_take_le j l
            omega
          have ho := HO2.out
          rw [← hlw] at ho HT
          clear hc9 hx hts hxg hlw
          go_wp2_with (at_builtin; refine wpList_append_own _ rfl _ _ 44 rfl (w.heap.size + 2) 3 i0 (.int .i64 0) 1 8 Try.underlying44 hi hz0 hz1 hz2 rfl (by decide) _ _ _ rfl (ho.alloc _) ⟨wr.heap.size, 0, none⟩ 1 1 [.int .i64 x] rfl rfl ?c1 ?c2 ?c3 ?c4 ?c5 ?_)
          case c1 => exact one_cell _ _ _
          case c2 => intro u hu; simp at hu; subst hu; rfl
          case c3 => unfold maxLen; omega
          case c4 => omega
          case c5 => simp; omega
          intro v' w11 hown2 hgr _
          have HX11 := Lib.hid ((HX2.out.step (below_new wr (.cells #[.int .i64 x] 3))).grown hgr (fun j hj => (ho.lt j hj).1))
          have HO11 := Lib.hid hown2
          clear hown2 hgr ho d0 d1 c9 hckw
          go_wp2_with fail
          go_roundw
          case rel => exact ⟨j + 1, by omega, by go_num, by rw [HT.out]; simpa using HO11, HX11⟩
          case measure => simp [intOf]; omega
      · obtain rfl : j = N := by omega
        have ho := HO2.out
        rw [List.take_of_length_le (by rw [HN.out]; exact Nat.le_refl _)] at ho
        obtain ⟨lw, hlw⟩ : ∃ lw, lw = Qp.but g l := ⟨_, rfl⟩
        rw [← hlw] at ho HD
        obtain ⟨Aw, cw, rfl, hrw, hfw⟩ := Row.of_own' ho
        obtain ⟨nw, hnw⟩ : ∃ nw, nw = lw.length := ⟨_, rfl⟩
        rw [← hnw] at hrw ⊢
        have RW := Lib.hid hrw
        have FW := Lib.hid hfw
        clear ho hrw hfw hlw hnw HO2
        go_wp2_with fail
        refine (with_any m (fun x => P x ∧ x ≠ w.heap.size + 1) (some ⟨b, off, none⟩) n c q k Aw nw cw lw wr ((H.out.imp (fun x hx hp => ⟨hp, by omega⟩)).step HX2.out.below) RW.out (FW.out.fromP (fun x hx => ⟨hB x (by omega), by omega⟩) _) (fun x hx => ⟨hB x (by omega), by omega⟩) hkn hn).mono ?_
        rintro e w4 ⟨A4, n4, c4, rfl, hR4, hb4⟩
        have X4 := HX2.out.step hb4
        have l2 := X4.r0
        have l3 := X4.r1
        have l4 := X4.f0
        have l5 := X4.f1
        obtain ⟨k0, k1⟩ := told2 (u := .int .i64 m) (v := .slice A4 n4 c4) l2 l3
        have hbw := (X4.below.setCell (p := ⟨w.heap.size + 1, 0, none⟩) (by simp only; omega) (.int .i64 m)).setCell (p := ⟨w.heap.size + 1, 1, none⟩) (by simp only; omega) (.slice A4 n4 c4)
        have HM := Lib.hid (show MadeXB P m (q.set k lw) true w (.returned (.tuple #[.agg #[.int .i64 m, .slice A4 n4 c4], .bool true])) _ from ⟨A4, n4, c4, rfl, hR4.told, hbw⟩)
        clear hbw hR4 hb4 X4 d0 d1 hckw
        go_wp2_with fail
        refine bodyPost_ret (v := .tuple #[.agg #[.int .i64 m, .slice A4 n4 c4], .bool true]) ?_ rfl ?_
        · simp [results, Try.results17, go_sem, k0, k1]
        rw [← HD.out, HS.out]
        exact HM.out
end Go.Proofs.Ythljecllmdbbbaa

