/- All of a queue, and how many these are. -/
import Derived.Test.YthljecllmdbbbaaQAhead
import Derived.Test.YthljecllmdbbbaaRRow
import Derived.Deep.RegionHeld3
namespace Go.Proofs.Ythljecllmdbbbaa
open Go.RowKit
set_option linter.unusedVariables false

theorem rank_hd {a1 a2 : List Int} (hn : (a1 ++ a2).Nodup) (h0 : (0 : Int) ∉ a1 ++ a2) : rank (a1 ++ a2) (hd a2) = a2.length := by
  unfold rank hd
  cases a2 with
  | nil => simp at h0 ⊢; rw [List.idxOf_eq_length h0]; omega
  | cons x t =>
    have hx : x ∉ a1 := (Qp.not_mid hn).1
    simp [List.idxOf_append, hx]
def On (b k : Nat) (l : List Int) (w : World) (A : Act) (W : World) : Prop :=
  ∃ (a1 a2 : List Int) (v u7 u8 u9 u10 u11 u12 u13 u14 u15 u16 u17 u18 u19 u20 u21 u22 u23 u24 u25 u26 u27 u28 u29 : Value),
    A = { tmps := #[.pointer (some ⟨b, 0, none⟩), .int .i64 k, undef, undef, .slice none 0 0, v, .int .i64 (hd a2), u7, u8, u9, u10, u11, u12, u13, u14, u15, u16, u17, u18, u19, u20, u21, u22, u23, u24, u25, u26, u27, u28, u29], defers := [] } ∧
    a1 ++ a2 = l ∧ Hid (W.ownsRow w.heap.size 3 1 v a1.length (a1.map (Value.int .i64))) ∧ Hid (Below w.heap.size w W)
set_option maxRecDepth 100000 in
theorem all_any (b m : Nat) (q : List (List Int)) (k : Int) (w : World) (h : Ar w b m q) :
    Calls Try.prog 20 #[.pointer (some ⟨b, 0, none⟩), .int .i64 k] w (MadeO w (Qp.all q k)) := by
  have C1 := Lib.hid (hasList_ar b m q k w h)
  have H := Lib.hid h
  clear h
  obtain ⟨i0, hi, hz0, hz1, hz2⟩ := info_parts info_int
  cases hk : Qp.hasL k q.length with
  | false =>
    rw [hk] at C1
    have HA := Lib.hid (Qp.all_none hk)
    clear hk
    go_enter Try.func20, Try.ntmps20
    go_wp2
    apply wp_scope_straight
    go_wp2_with fail
    refine C1.out.mono ?_
    rintro e w' ⟨rfl, rfl⟩
    go_wp2_with fail
    go_ret
    rw [HA.out]
    exact ⟨_, 0, rfl, World.ownsRow_nil _ _ _ _, Below.refl _ _⟩
  | true =>
    obtain ⟨k0, k1⟩ := Qp.hasL_iff.1 hk
    obtain ⟨k, rfl⟩ : ∃ i : Nat, k = i := ⟨k.toNat, by omega⟩
    have hq := Qp.getD_at (q := q) (k := k) (by omega)
    obtain ⟨l, hl⟩ : ∃ l, l = q.getD k [] := ⟨_, rfl⟩
    rw [← hl] at hq
    have n64 := H.out.n64
    have m64 := H.out.m64
    have HA := Lib.hid (Qp.all_at hq)
    obtain ⟨N, I, F, L, hr, hlay⟩ := H.out.raw
    have cf := hr.f k (by omega)
    rw [show F k = hd l by rw [hlay.fst, ← hl]; rfl] at cf
    have HM := Lib.hid (fun x hx => hlay.ok.mem _ _ x hq hx)
    have HN := Lib.hid (hlay.ok.nodup _ _ hq)
    have HL := Lib.hid (hlay.link _ _ hq)
    have HR := Lib.hid hr
    rw [hk] at C1
    have i1 : (k : Int) < 64 := by omega
    have i2 : k < 64 := by omega
    clear hk hl hr hlay hq
    go_enter Try.func20, Try.ntmps20
    go_wp2
    refine wp_scope_again 0 (On b k l w) (fun A _ => rank l (intOf (A.tmps.getD 6 undef))) rfl ?_ ?_
    · rintro A W ⟨a1, a2, v, u7, u8, u9, u10, u11, u12, u13, u14, u15, u16, u17, u18, u19, u20, u21, u22, u23, u24, u25, u26, u27, u28, u29, rfl, ha, HO, HB⟩
      have hz := Lib.hid (show (0 : Int) ∉ l from fun hx => by have := HM.out 0 hx; omega)
      cases a2 with
      | nil =>
        rw [show hd [] = 0 from rfl] at *
        rw [List.append_nil] at ha
        subst ha
        go_wp2_with fail
        simp only [Exit.jump]
        go_ret
        rw [HA.out]
        exact ⟨v, _, rfl, HO.out, HB.out⟩
      | cons x t =>
        subst ha
        rw [show hd (x :: t) = x from rfl] at *
        have hmx := HM.out x (by simp)
        obtain ⟨j, rfl⟩ : ∃ j : Nat, x = j := ⟨x.toNat, by omega⟩
        have hne : ((j : Int) != 0) = true := by rw [bne_iff_ne]; omega
        have hnj := (Qp.links_after HL.out).1
        have hlen := Qp.len_le m _ HN.out HM.out
        have hl1 : a1.length + t.length + 1 ≤ 64 := by simp at hlen; omega
        have r1 := rank_hd (a1 := a1) (a2 := (j : Int) :: t) HN.out hz.out
        have r2 := rank_hd (a1 := a1 ++ [(j : Int)]) (a2 := t) (by simpa using HN.out) (by simpa using hz.out)
        rw [show hd ((j : Int) :: t) = (j : Int) from rfl] at r1
        have RK := Lib.hid (And.intro r1 r2)
        have cn0 := (HB.out.cell (p := ⟨b, 2 + j, none⟩) HR.out.lt).trans (HR.out.n j (by omega))
        rw [show N (j : Int) = hd t from hnj] at cn0
        have hblt := HR.out.lt
        have ho := HO.out
        have i3 : (j : Int) < 65 := by omega
        have i4 : j < 65 := by omega
        clear hnj hlen r1 r2 cf hmx
        go_wp2_with (at_builtin; refine wpList_append_own _ rfl _ _ 44 rfl w.heap.size 3 i0 (.int .i64 0) 1 8 Try.underlying44 hi hz0 hz1 hz2 rfl (by decide) _ _ _ rfl (ho.alloc _) ⟨W.heap.size, 0, none⟩ 1 1 [.int .i64 (j : Int)] rfl rfl ?c1 ?c2 ?c3 ?c4 ?c5 ?_)
        case c1 => exact one_cell _ _ _
        case c2 => intro u hu; simp at hu; subst hu; rfl
        case c3 => unfold maxLen; omega
        case c4 => omega
        case c5 => have := HB.out.size; simp; omega
        intro v' w2 hown2 hg _
        have HB2 := Lib.hid ((HB.out.alloc HB.out.size (.cells #[.int .i64 (j : Int)] 3)).grown hg (by have := HB.out.size; simp; omega) (fun j hj => (ho.lt j hj).1))
        have cn : w2.cell? ⟨b, 2 + j, none⟩ = some (.int .i64 (hd t)) := by
          rw [HB2.out.cell (p := ⟨b, 2 + j, none⟩) hblt, ← HB.out.cell (p := ⟨b, 2 + j, none⟩) hblt]; exact cn0
        have HO2 := Lib.hid hown2
        clear hown2 hg ho cn0
        go_wp2_with fail
        go_step3
        exact ⟨rfl, ⟨a1 ++ [(j : Int)], t, v', _, _, _, _, _, _, _, _, _, _, _, _, _, _, _, _, _, _, _, _, _, _, _, rfl, by simp, Lib.hid (by simpa using HO2.out), HB2⟩, by
          have e1 := RK.out.1
          have e2 := RK.out.2
          rw [List.append_assoc] at e2
          simp only [List.singleton_append] at e2
          show rank _ (hd t) < rank _ (j : Int)
          rw [e2, e1]
          simp⟩
    · intro rest
      go_wp2_with fail
      refine C1.out.mono ?_
      rintro e w' ⟨rfl, rfl⟩
      go_wp2_with fail
      go_step3
      rename_i hK
      refine hK _ _ (rest _ _ ⟨[], l, _, _, _, _, _, _, _, _, _, _, _, _, _, _, _, _, _, _, _, _, _, _, _, _, rfl, rfl, Lib.hid (World.ownsRow_nil _ _ _ _), Lib.hid (Below.refl _ _)⟩)
theorem own_slice {w : World} {base n : Nat} {e : TypeId} {v : Value} {zs : List Int} (h : w.ownsRow base e 1 v n (zs.map (Value.int .i64))) : ∃ A c, v = .slice A zs.length c := by
  obtain ⟨A, c, rfl⟩ := own_form h
  exact ⟨A, c, by rw [own_len h]⟩
theorem len_any (b m : Nat) (q : List (List Int)) (k : Int) (w : World) (h : Ar w b m q) :
    Calls Try.prog 21 #[.pointer (some ⟨b, 0, none⟩), .int .i64 k] w fun e w' => e = .returned (.int .i64 ((Qp.all q k).length : Nat)) ∧ Below w.heap.size w w' := by
  have C := Lib.hid (all_any b m q k w h)
  obtain ⟨l, hl⟩ : ∃ l, l = Qp.all q k := ⟨_, rfl⟩
  rw [← hl] at C ⊢
  clear h hl
  go_enter Try.func21, Try.ntmps21
  go_wp2_with fail
  refine C.out.mono ?_
  rintro e w1 ⟨v, n, rfl, ho, hb⟩
  obtain ⟨A, c, rfl⟩ := own_slice ho
  have HB := Lib.hid hb
  clear ho hb
  go_wp2_with fail
  go_ret
  exact ⟨rfl, HB.out⟩
theorem all_nil_any (k : Int) (w : World) : Calls Try.prog 20 #[.pointer none, .int .i64 k] w fun e w' => e = .returned (.slice none 0 0) ∧ w = w' := by
  go_enter Try.func20, Try.ntmps20
  go_wp2
  apply wp_scope_straight
  go_wp2_with fail
  refine (hasList_nil k w).mono ?_
  rintro e w' ⟨rfl, rfl⟩
  go_wp2_with fail
  rw [Exit.noGoto_ret]
  go_ret
  exact ⟨rfl, rfl⟩
theorem len_nil_any (k : Int) (w : World) : Calls Try.prog 21 #[.pointer none, .int .i64 k] w fun e w' => e = .returned (.int .i64 0) ∧ w = w' := by
  go_enter Try.func21, Try.ntmps21
  go_wp2_with fail
  refine (all_nil_any k w).mono ?_
  rintro e w' ⟨rfl, rfl⟩
  go_wp2_with fail
  go_ret
  exact ⟨rfl, rfl⟩
end Go.Proofs.Ythljecllmdbbbaa

