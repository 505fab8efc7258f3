/- FifoOnce: nobody stands in two queues, nor twice in one; who is dropped stands in none, and the others as they stood: the call answers true and changes nothing that was there; for every input. -/
import Derived.Test.YthljecllmdbbbaaQCel
import Derived.Test.YthljecllmdbbbaaIn
import Derived.StillTailTactics
namespace Go.Proofs.Ythljecllmdbbbaa.fifoOnce
open Go.ChangeShapes Go.WideShapes Go.ChangeAt Go.RowKit
set_option linter.unusedVariables false

/-- How many stand in the first k queues. -/
def many (q : List (List Int)) : Nat → Nat
  | 0 => 0
  | k + 1 => many q k + (q.getD k []).length
theorem many_le {m : Nat} {q : List (List Int)} (h : Qp.Ok (m : Int) q) (k : Nat) : many q k ≤ k * m := by
  induction k with
  | zero => simp [many]
  | succ k ih =>
    have : (q.getD k []).length ≤ m := by
      by_cases hk : k < q.length
      · have hat := Qp.getD_at hk
        exact Qp.len_le m _ (h.nodup _ _ hat) (fun g hg => h.mem _ _ _ hat hg)
      · rw [List.getD_eq_getElem?_getD, List.getElem?_eq_none (by omega)]; simp
    simp only [many]
    rw [Nat.succ_mul]
    omega
theorem but_count {l : List Int} (g : Int) (hn : l.Nodup) : l.length = (Qp.but g l).length + (if g ∈ l then 1 else 0) := by
  by_cases h : g ∈ l
  · rw [if_pos h, but_length hn h]
  · rw [if_neg h, Qp.but_none h]; rfl
theorem drop_getD (q : List (List Int)) (g : Int) (k : Nat) : (Qp.drop q g).getD k [] = Qp.but g (q.getD k []) := by
  rw [List.getD_eq_getElem?_getD, List.getD_eq_getElem?_getD, Qp.drop_at]
  cases q[k]? <;> rfl
/-- How many fewer there are when one is dropped. -/
theorem many_drop {m : Int} {q : List (List Int)} (h : Qp.Ok m q) (h4 : q.length = 4) (g : Int) : many q 4 = many (Qp.drop q g) 4 + (if 0 ≤ Qp.of q g then 1 else 0) := by
  match q, h4 with
  | [a, b, c, d], _ =>
    have ha := but_count g (h.nodup 0 a rfl)
    have hb := but_count g (h.nodup 1 b rfl)
    have hc := but_count g (h.nodup 2 c rfl)
    have hd := but_count g (h.nodup 3 d rfl)
    have ab := fun x y => h.one 0 1 a b g rfl rfl x y
    have ac := fun x y => h.one 0 2 a c g rfl rfl x y
    have ad := fun x y => h.one 0 3 a d g rfl rfl x y
    have bc := fun x y => h.one 1 2 b c g rfl rfl x y
    have bd := fun x y => h.one 1 3 b d g rfl rfl x y
    have cd := fun x y => h.one 2 3 c d g rfl rfl x y
    have hs : 0 ≤ Qp.of [a, b, c, d] g ↔ g ∈ a ∨ g ∈ b ∨ g ∈ c ∨ g ∈ d := by
      constructor
      · intro h0
        obtain ⟨i, l, _, hi, hl⟩ := Qp.of_at h0
        match i, hi with
        | 0, hi => injection hi with hi; subst hi; exact .inl hl
        | 1, hi => injection hi with hi; subst hi; exact .inr (.inl hl)
        | 2, hi => injection hi with hi; subst hi; exact .inr (.inr (.inl hl))
        | 3, hi => injection hi with hi; subst hi; exact .inr (.inr (.inr hl))
        | n + 4, hi => cases hi
      · rintro (hg | hg | hg | hg)
        · rw [Qp.of_eq h (i := 0) rfl hg]; decide
        · rw [Qp.of_eq h (i := 1) rfl hg]; decide
        · rw [Qp.of_eq h (i := 2) rfl hg]; decide
        · rw [Qp.of_eq h (i := 3) rfl hg]; decide
    have e1 : many [a, b, c, d] 4 = a.length + b.length + c.length + d.length := by simp [many]
    have e2 : many (Qp.drop [a, b, c, d] g) 4 = (Qp.but g a).length + (Qp.but g b).length + (Qp.but g c).length + (Qp.but g d).length := by simp [many, Qp.drop]
    rw [e1, e2]
    by_cases ga : g ∈ a
    · have nb : g ∉ b := fun x => by cases ab ga x
      have nc : g ∉ c := fun x => by cases ac ga x
      have nd : g ∉ d := fun x => by cases ad ga x
      rw [if_pos (hs.2 (.inl ga))]
      simp only [ga, nb, nc, nd, if_true, if_false] at ha hb hc hd
      omega
    · by_cases gb : g ∈ b
      · have nc : g ∉ c := fun x => by cases bc gb x
        have nd : g ∉ d := fun x => by cases bd gb x
        rw [if_pos (hs.2 (.inr (.inl gb)))]
        simp only [ga, gb, nc, nd, if_true, if_false] at ha hb hc hd
        omega
      · by_cases gc : g ∈ c
        · have nd : g ∉ d := fun x => by cases cd gc x
          rw [if_pos (hs.2 (.inr (.inr (.inl gc))))]
          simp only [ga, gb, gc, nd, if_true, if_false] at ha hb hc hd
          omega
        · by_cases gd : g ∈ d
          · rw [if_pos (hs.2 (.inr (.inr (.inr gd))))]
            simp only [ga, gb, gc, gd, if_true, if_false] at ha hb hc hd
            omega
          · rw [if_neg (fun h0 => by rcases hs.1 h0 with x | x | x | x <;> contradiction)]
            simp only [ga, gb, gc, gd, if_false] at ha hb hc hd
            omega
/-- Block c holds what stood in each of the first k queues. -/
structure Bef (W : World) (c : Nat) (q : List (List Int)) (k : Nat) (v : Nat → Value) : Prop where
  cell : ∀ j, j < 4 → W.cell? ⟨c, j, none⟩ = some (v j)
  frz : ∀ j, W.frozen? ⟨c, j, none⟩ = false
  row : ∀ j, j < k → ∃ A cp, v j = .slice A (q.getD j []).length cp ∧ Row W A (q.getD j []).length cp (q.getD j []) ∧ From (c + 1) A
theorem Bef.lt {W : World} {c k : Nat} {q : List (List Int)} {v : Nat → Value} (h : Bef W c q k v) : c < W.heap.size := World.block_lt_of_cell? W ⟨c, 0, none⟩ (h.cell 0 (by omega))
theorem Bef.step {W W' : World} {c k : Nat} {q : List (List Int)} {v : Nat → Value} (h : Bef W c q k v) (hb : Below W.heap.size W W') : Bef W' c q k v :=
  ⟨fun j hj => keepcell hb (h.cell j hj), fun j => (hb.frozen (p := ⟨c, j, none⟩) h.lt).trans (h.frz j), fun j hj => by obtain ⟨A, cp, e, hr, hf⟩ := h.row j hj; exact ⟨A, cp, e, hr.below hb, hf⟩⟩
theorem Bef.turned {W W' : World} {b c k : Nat} {q : List (List Int)} {v : Nat → Value} (h : Bef W c q k v) (hg : W.grownBy W' (some b)) (hb : b < c) : Bef W' c q k v :=
  ⟨fun j hj => (hg.cell_far ⟨c, j, none⟩ h.lt (fun e => by injection e with e; simp only at e; omega)).trans (h.cell j hj), fun j => (hg.frozen_far ⟨c, j, none⟩ h.lt (fun e => by injection e with e; simp only at e; omega)).trans (h.frz j),
   fun j hj => by obtain ⟨A, cp, e, hr, hf⟩ := h.row j hj; exact ⟨A, cp, e, hr.turned (hf.mono (by omega)) hg, hf⟩⟩
theorem Bef.drewN {W : World} {c k : Nat} {q : List (List Int)} {v : Nat → Value} (h : Bef W c q k v) (n : Nat) : Bef (W.drewN n) c q k v := h.step (below_drewN (Below.refl _ _) n)
/-- What stands in the next queue is laid down. -/
theorem Bef.lay {W : World} {c k n cp : Nat} {q : List (List Int)} {v : Nat → Value} {A : Option Addr} (h : Bef W c q k v) (hk : k < 4) (hr : Row W A n cp (q.getD k [])) (hf : From (c + 1) A) :
    Bef (W.setCell ⟨c, k, none⟩ (.slice A n cp)) c q (k + 1) (fun j => if j = k then .slice A n cp else v j) := by
  have hn := hr.len
  subst hn
  refine ⟨fun j hj => ?_, fun j => by rw [World.frozen?_setCell]; exact h.frz j, fun j hj => ?_⟩
  · by_cases e : j = k
    · subst e
      simp only [if_pos]
      exact World.cell?_setCell_same' _ _ _ (by rw [h.cell j hj]; rfl)
    · simp only [if_neg e]
      rw [World.cell?_setCell_other _ _ _ _ (fun e' => by injection e' with _ e'; exact e e'.symm)]
      exact h.cell j hj
  · by_cases e : j = k
    · subst e
      simp only [if_pos]
      exact ⟨A, cp, rfl, hr.set hf, hf⟩
    · simp only [if_neg e]
      obtain ⟨A', cp', e', hr', hf'⟩ := h.row j (by omega)
      exact ⟨A', cp', e', hr'.set hf', hf'⟩
theorem bef_new (w : World) (T : TypeId) (q : List (List Int)) : Bef (w.alloc (.cells #[.slice none 0 0, .slice none 0 0, .slice none 0 0, .slice none 0 0] T)) w.heap.size q 0 (fun _ => .slice none 0 0) := by
  refine ⟨fun j hj => ?_, fun j => by rw [World.frozen?_alloc_at _ _ _ _ rfl], fun j hj => by omega⟩
  rw [World.cell?_alloc_at _ _ _ _ rfl]
  match j, hj with
  | 0, _ => rfl
  | 1, _ => rfl
  | 2, _ => rfl
  | 3, _ => rfl
theorem push_four {q : List (List Int)} (k g : Int) (h : q.length = 4) : (Qp.push q ((64 : Nat) : Int) k g).1.length = 4 := by rw [Qp.push_length]; exact h
set_option maxHeartbeats 4000000 in
set_option maxRecDepth 100000 in
theorem walk (A : Option Addr) (n c : Nat) (zs : List Int) (t : Int) (w : World) (hn : Hid (zs.length = n)) (hl : n ≤ 9223372036854775807) (hr : BRow w A zs) (hu : (Lit.int .u8 t).wf = true) :
    Calls Try.prog 5 #[.slice A n c, .int .u8 t] w fun e w' => e = .returned (.bool true) ∧ Below w.heap.size w w' := by
  have hu' : 0 ≤ t ∧ t ≤ 255 := by simpa [Lit.wf, IntKind.min, IntKind.max, IntKind.signed, IntKind.bits] using hu
  obtain ⟨u0, u1⟩ := hu'
  have HR := Lib.hid hr
  obtain ⟨i0, hi, hz0, hz1, hz2⟩ := info_parts info_int
  clear hu hr
  go_enter Try.func5, Try.ntmps5
  go_wp2_with fail
  refine (shown_any _).mono ?_
  rintro e w1 ⟨rfl, hb1⟩
  have B1 := Lib.hid hb1
  clear hb1
  go_wp2_with fail
  refine (new_yes 64 4 w1 (by omega) (by omega) (by omega) (by omega)).mono ?_
  rintro e w2 ⟨rfl, hA, hb⟩
  obtain ⟨b, hbb⟩ : ∃ b, b = w1.heap.size := ⟨_, rfl⟩
  rw [← hbb] at hA ⊢
  have hwb : w.heap.size ≤ b := by rw [hbb]; exact B1.out.size
  have A2 := Lib.hid (show Ar w2 b 64 [[], [], [], []] from hA)
  have B2 := Lib.hid (B1.out.trans (hb.mono B1.out.size))
  clear hA hb hbb B1
  go_wp2_with fail
  go_loopw [8] (fun i wr => ∃ (k : Nat) (q : List (List Int)), k ≤ n ∧ k ≤ 200 ∧ i = .int .i64 k ∧ q.length = 4 ∧ Hid (Ar wr b 64 q) ∧ Hid (Below w.heap.size w wr)) (fun i _ => 200 - (intOf i).toNat)
  case atStart => exact ⟨0, _, Nat.zero_le _, Nat.zero_le _, rfl, rfl, A2, B2⟩
  case round =>
    obtain ⟨k, q, hk, hk2, rfl, hq4, HA, HB⟩ := hrel
    by_cases hlt : k < n
    · by_cases h200 : k < 200
      · obtain ⟨z, hz⟩ : ∃ z, zs[k]? = some z := ⟨_, List.getElem?_eq_getElem (by have := hn.out; omega)⟩
        obtain ⟨b', off, hAA, hlt', hc, z0, z1⟩ := HR.out k z hz
        subst hAA
        have hcw : wr.cell? ⟨b', off + k, none⟩ = some (.int .u8 z) := (HB.out.cell (p := ⟨b', off + k, none⟩) hlt').trans hc
        have m1 : z.tmod 4 = z % 4 := Int.tmod_eq_emod_of_nonneg z0
        have m2 : z.tdiv 4 = z / 4 := Int.tdiv_eq_ediv_of_nonneg z0
        clear hz hc
        have s1 : IntKind.i64.wrap (1 + z / 4) = 1 + z / 4 := IntWalk.i64_in _ (by omega)
        go_wp2_with fail
        go_still_tail 14, (by kernel_rfl)
        change wpList _ _ _ _ _ wr.drew
        have AD := Lib.hid (HA.out.keep (W' := wr.drew) rfl)
        have BD := Lib.hid (HB.out.drew)
        generalize wr.drew = wd at AD BD ⊢
        go_wp2_with fail
        refine (push_any b 64 q (z % 4) (1 + z / 4) wd AD.out).mono ?_
        rintro e w3 ⟨rfl, hA, hg⟩
        obtain ⟨q1, hq1⟩ : ∃ q1, q1 = (Qp.push q ((64 : Nat) : Int) (z % 4) (1 + z / 4)).1 := ⟨_, rfl⟩
        obtain ⟨e1, he1⟩ : ∃ e1, e1 = (Qp.push q ((64 : Nat) : Int) (z % 4) (1 + z / 4)).2 := ⟨_, rfl⟩
        rw [← hq1] at hA
        rw [← he1]
        have hq14 : q1.length = 4 := by rw [hq1]; exact push_four _ _ hq4
        have A3 := Lib.hid hA
        have B3 := Lib.hid (below_turned BD.out hg BD.out.size hwb)
        clear hA hg hcw hq1 he1 AD BD
        go_wp2_with fail
        go_roundw
        case rel => exact ⟨k + 1, q1, by omega, by omega, by go_num, hq14, A3, B3⟩
        case measure => simp [intOf]; omega
      · obtain rfl : k = 200 := by omega
        obtain ⟨wo, rfl⟩ : ∃ wo : World, wo = wr := ⟨_, rfl⟩
        have t1 : t.tmod 64 = t % 64 := Int.tmod_eq_emod_of_nonneg u0
        obtain ⟨g, hg⟩ : ∃ g, 1 + t % 64 = g := ⟨_, rfl⟩
        obtain ⟨o, ho⟩ : ∃ o, o = Qp.of q g := ⟨_, rfl⟩
        have HO := Lib.hid ho
        have hbo := HA.out.lt
        clear ho
        go_wp2_with fail
        refine (of_any b 64 q g wo HA.out).mono ?_
        rintro e w3 ⟨rfl, rfl⟩
        rw [← HO.out]
        have hbn := below_new wo (.cells #[.slice none 0 0, .slice none 0 0, .slice none 0 0, .slice none 0 0] 54)
        have W4 := Lib.hid (bef_new wo 54 q)
        have A4 := Lib.hid (HA.out.step hbn)
        have B4 := Lib.hid (HB.out.trans (hbn.mono HB.out.size))
        have HOK := Lib.hid HA.out.ok
        clear hbn
        go_wp2_with fail
        generalize wo.alloc (.cells #[.slice none 0 0, .slice none 0 0, .slice none 0 0, .slice none 0 0] 54) = w4 at W4 A4 B4 ⊢
        generalize hcc : wo.heap.size = cc at hbo W4 ⊢
        clear hcc
        go_loopw [12, 13] (fun al i wr => ∃ (kk : Nat) (v : Nat → Value), kk ≤ 4 ∧ i = .int .i64 kk ∧ al = .int .i64 (many q kk) ∧ Hid (Bef wr cc q kk v) ∧ Hid (Ar wr b 64 q) ∧ Hid (Below w.heap.size w wr)) (fun _ i _ => 4 - (intOf i).toNat)
        case atStart => exact ⟨0, _, Nat.zero_le _, rfl, rfl, W4, A4, B4⟩
        case round =>
          obtain ⟨kk, v, hkk, rfl, rfl, HW', HA', HB'⟩ := hrel
          by_cases hk4 : kk < 4
          · obtain ⟨wp, rfl⟩ : ∃ wp : World, wp = wr := ⟨_, rfl⟩
            obtain ⟨lk, hlk⟩ : ∃ lk, lk = q.getD kk [] := ⟨_, rfl⟩
            have HLK := Lib.hid hlk
            have i3 : (kk : Int) < 4 := by omega
            have d3 : decide ((kk : Int) < 4) = true := by simpa using i3
            obtain ⟨mk, hmk⟩ : ∃ mk, mk = many q kk := ⟨_, rfl⟩
            have HMK := Lib.hid hmk
            have hm64 := many_le (m := 64) HOK.out kk
            rw [← hmk] at hm64 ⊢
            have hqa : Qp.all q kk = lk := by rw [hlk]; exact Qp.all_at (q := q) (k := kk) (Qp.getD_at (by omega))
            have HQA := Lib.hid hqa
            clear hlk hmk hqa
            go_wp2_with fail
            refine (all_row b 64 q kk wp HA'.out).mono ?_
            rintro e w5 ⟨A5, n5, cp5, rfl, hr5, hf5, hb5⟩
            rw [HQA.out] at hr5
            have hn5 := hr5.len
            have hn64 : n5 ≤ 64 := by have := Qp.all_length (m := 64) HOK.out kk; rw [HQA.out] at this; omega
            have c5 := (HW'.out.step hb5).cell kk hk4
            have f5 := (HW'.out.step hb5).frz kk
            have W5 := Lib.hid ((HW'.out.step hb5).lay hk4 (by rw [← HLK.out]; exact hr5) (hf5.mono HW'.out.lt))
            have A6 := Lib.hid ((HA'.out.step hb5).keep (W' := w5.setCell ⟨cc, kk, none⟩ (.slice A5 n5 cp5)) (Below.heap_setCell _ _ _ _ (by simp only; omega)))
            have B6 := Lib.hid ((HB'.out.trans (hb5.mono HB'.out.size)).setCell (p := ⟨cc, kk, none⟩) (by simp only; omega) (.slice A5 n5 cp5))
            have HN5 := Lib.hid hn5
            clear hr5 hf5 hb5 hn5
            obtain ⟨v2, hv2⟩ : ∃ v2 : Nat → Value, v2 = fun j => if j = kk then .slice A5 n5 cp5 else v j := ⟨_, rfl⟩
            have HV := Lib.hid (show v2 kk = .slice A5 n5 cp5 by rw [hv2]; simp)
            rw [← hv2] at W5
            clear hv2
            go_wp2_with fail
            generalize w5.setCell ⟨cc, kk, none⟩ (.slice A5 n5 cp5) = w6 at W5 A6 B6 ⊢
            go_loopw [12, 14] (fun al i wr => ∃ j : Nat, j ≤ n5 ∧ i = .int .i64 j ∧ al = .int .i64 ((mk : Int) + (j : Int)) ∧ Hid (Bef wr cc q (kk + 1) v2) ∧ Hid (Ar wr b 64 q) ∧ Hid (Below w.heap.size w wr)) (fun _ i _ => n5 - (intOf i).toNat)
            case atStart => exact ⟨0, Nat.zero_le _, rfl, by simp, W5, A6, B6⟩
            case round =>
              obtain ⟨j, hj, rfl, rfl, HW7, HA7, HB7⟩ := hrel
              have c0 := HW7.out.cell kk hk4
              rw [HV.out] at c0
              by_cases hjn : j < n5
              · obtain ⟨x, hx⟩ : ∃ x, lk[j]? = some x := ⟨_, List.getElem?_eq_getElem (by rw [HN5.out]; exact hjn)⟩
                obtain ⟨A9, cp9, e9, hr9, hf9⟩ := HW7.out.row kk (by omega)
                rw [HV.out] at e9
                injection e9 with ea eb ec
                subst ea ec
                rw [← HLK.out, HN5.out] at hr9
                obtain ⟨b9, o9, rfl, hb9, hc9⟩ := hr9.cells (by omega)
                have c9 := hc9 j x hx
                have hxm : x ∈ lk := List.mem_of_getElem? hx
                have hat : q[kk]? = some lk := by rw [HLK.out]; exact Qp.getD_at (by omega)
                have hof := Qp.of_eq HOK.out hat hxm
                have GO : Hid (∀ p : Nat, Calls Try.prog 22 #[.pointer (some ⟨b, 0, none⟩), .int .i64 x] (wr.drewN p) fun e w' => e = .returned (.int .i64 (kk : Int)) ∧ w' = wr.drewN p) :=
                  Lib.hid (fun p => (of_any b 64 q x (wr.drewN p) (HA7.out.drewN p)).mono fun e w' ⟨he, hw⟩ => ⟨by rw [he, hof], hw.symm⟩)
                have htk := hr9.take j (by omega)
                have hno : Tp.has (lk.take j) x = false := by
                  unfold Tp.has
                  rw [← Bool.not_eq_true, List.contains_iff_mem]
                  have hnd := HOK.out.nodup _ _ hat
                  have e1 : lk = lk.take j ++ x :: lk.drop (j + 1) := by
                    conv => lhs; rw [← List.take_append_drop j lk]
                    rw [List.drop_eq_getElem?_toList_append, hx]; rfl
                  rw [e1] at hnd
                  exact (Qp.not_mid hnd).1
                have GI : Hid (∀ p : Nat, Calls Try.prog 24 #[.slice (some ⟨b9, o9, none⟩) j cp5, .int .i64 x] (wr.drewN p) fun e w' => e = .returned (.bool false) ∧ w' = wr.drewN p) :=
                  Lib.hid (fun p => (in_any (some ⟨b9, o9, none⟩) j cp5 (lk.take j) x (wr.drewN p) wr.heap.size (Lib.hid htk.len) (by omega) (htk.below (below_drewN (Below.refl _ _) p)).row).mono fun e w' ⟨he, hw⟩ => ⟨by rw [he, hno], hw⟩)
                have k1 : ((kk : Int) != (kk : Int)) = false := by simp
                have i5 : (j : Int) < (n5 : Int) := by omega
                have i6 : (0 : Int) ≤ (j : Int) := by omega
                have i7 : (j : Int) ≤ (cp5 : Int) := by have := hr9.cap; omega
                have i8 : j ≤ cp5 := by have := hr9.cap; omega
                clear hr9 hc9 hx hof htk hno hat hxm eb
                go_wp2_with fail
                go_quiet ((first | (go_at_call 22; (with_reducible exact Calls.quiet_of_same (GO.out _))) | (go_at_call 24; (with_reducible exact Calls.quiet_of_same (GI.out _)))))
                go_wp2_with fail
                go_roundw
                case rel => exact ⟨j + 1, by omega, by go_num, by rw [Int.natCast_add, Int.add_assoc]; rfl, Lib.hid (HW7.out.drewN _), Lib.hid (HA7.out.drewN _), Lib.hid (below_drewN HB7.out _)⟩
                case measure => simp [intOf]; omega
              · obtain rfl : j = n5 := by omega
                have HM2 := Lib.hid (show many q (kk + 1) = mk + j by rw [many, ← HMK.out, ← HLK.out, HN5.out])
                go_wp2_with fail
                go_roundw
                case rel => exact ⟨kk + 1, v2, by omega, by go_num, by rw [HM2.out]; rfl, HW7, HA7, HB7⟩
                case measure => simp [intOf]; omega
          · obtain rfl : kk = 4 := by omega
            obtain ⟨wq, rfl⟩ : ∃ wq : World, wq = wr := ⟨_, rfl⟩
            obtain ⟨s, hs⟩ : ∃ s, s = Qp.stands q g := ⟨_, rfl⟩
            obtain ⟨q2, hq2⟩ : ∃ q2, q2 = Qp.drop q g := ⟨_, rfl⟩
            have HS := Lib.hid (show s = decide (0 ≤ o) by rw [hs, HO.out]; rfl)
            have HQ2 := Lib.hid hq2
            have HGO := Lib.hid (show Qp.of q2 g = -1 by rw [hq2]; exact of_gone HOK.out g)
            have HMD := Lib.hid (show many q 4 = many q2 4 + (if 0 ≤ o then 1 else 0) by rw [hq2, HO.out]; exact many_drop HOK.out hq4 g)
            obtain ⟨M, hM⟩ : ∃ M, M = many q 4 := ⟨_, rfl⟩
            have hM64 := many_le (m := 64) HOK.out 4
            rw [← hM] at HMD hM64 ⊢
            clear hq2 hM
            go_wp2_with fail
            refine (drop_any b 64 q g wq HA'.out).mono ?_
            rintro e w8 ⟨rfl, hA, hgr⟩
            rw [← hs]
            rw [← HQ2.out] at hA
            have A8 := Lib.hid hA
            have B8 := Lib.hid (below_turned HB'.out hgr HB'.out.size hwb)
            have W8 := Lib.hid (HW'.out.turned hgr hbo)
            have OK2 := Lib.hid hA.ok
            clear hA hgr hs
            go_wp2_with fail
            go_loopw [12, 16] (fun al i wr => ∃ kk : Nat, kk ≤ 4 ∧ i = .int .i64 kk ∧ al = .int .i64 ((M : Int) - (many q2 kk : Nat)) ∧ Hid (Bef wr cc q 4 v) ∧ Hid (Ar wr b 64 q2) ∧ Hid (Below w.heap.size w wr)) (fun _ i _ => 4 - (intOf i).toNat)
            case atStart => exact ⟨0, Nat.zero_le _, rfl, by simp [many], W8, A8, B8⟩
            case round =>
              obtain ⟨kk, hkk, rfl, rfl, HW9, HA9, HB9⟩ := hrel
              obtain ⟨mk, hmk⟩ : ∃ mk, mk = many q2 kk := ⟨_, rfl⟩
              have hm64 := many_le (m := 64) OK2.out kk
              have HMK := Lib.hid hmk
              rw [← hmk] at hm64 ⊢
              clear hmk
              by_cases hk4 : kk < 4
              · obtain ⟨wp, rfl⟩ : ∃ wp : World, wp = wr := ⟨_, rfl⟩
                obtain ⟨lk, hlk⟩ : ∃ lk, lk = q.getD kk [] := ⟨_, rfl⟩
                obtain ⟨A5, n5, cp5, hv5, hn5⟩ : ∃ A5 n5 cp5, v kk = .slice A5 n5 cp5 ∧ lk.length = n5 := by
                  obtain ⟨A5, cp5, h1, _⟩ := HW9.out.row kk hk4
                  exact ⟨A5, _, cp5, h1, by rw [hlk]⟩
                have HV := Lib.hid hv5
                have HN5 := Lib.hid hn5
                have HLK := Lib.hid hlk
                have hn64 : n5 ≤ 64 := by
                  have h1 := Qp.all_length (m := 64) HOK.out kk
                  rw [Qp.all_at (q := q) (k := kk) (Qp.getD_at (by omega)), ← hlk, hn5] at h1
                  exact h1
                have HQA := Lib.hid (show Qp.all q2 kk = Qp.but g lk by
                  rw [Qp.all_at (q := q2) (k := kk) (Qp.getD_at (by rw [HQ2.out, Qp.drop_length]; omega)), HQ2.out, drop_getD, hlk])
                have HMS := Lib.hid (show many q2 (kk + 1) = mk + (Qp.but g lk).length by rw [many, ← HMK.out, HQ2.out, drop_getD, hlk])
                have i3 : (kk : Int) < 4 := by omega
                have d3 : decide ((kk : Int) < 4) = true := by simpa using i3
                clear hv5 hn5 hlk
                go_wp2_with fail
                go_loopw [17, 18] (fun u i wr => ∃ j : Nat, j ≤ n5 ∧ i = .int .i64 j ∧ Hid (wr.ownsRow wp.heap.size 3 1 u (Qp.but g (lk.take j)).length ((Qp.but g (lk.take j)).map (Value.int .i64))) ∧ Hid (Below wp.heap.size wp wr)) (fun _ i _ => n5 - (intOf i).toNat)
                case atStart => exact ⟨0, Nat.zero_le _, rfl, Lib.hid (World.ownsRow_nil _ _ _ _), Lib.hid (Below.refl _ _)⟩
                case round =>
                  obtain ⟨j, hj, rfl, HO10, HB10⟩ := hrel
                  have HW10 := Lib.hid (HW9.out.step HB10.out)
                  have c0 := HW10.out.cell kk hk4
                  rw [HV.out] at c0
                  by_cases hjn : j < n5
                  · obtain ⟨x, hx⟩ : ∃ x, lk[j]? = some x := ⟨_, List.getElem?_eq_getElem (by rw [HN5.out]; exact hjn)⟩
                    obtain ⟨A9, cp9, e9, hr9, hf9⟩ := HW10.out.row kk (by omega)
                    rw [HV.out] at e9
                    injection e9 with ea eb ec
                    subst ea ec
                    rw [← HLK.out, HN5.out] at hr9
                    obtain ⟨b9, o9, rfl, hb9, hc9⟩ := hr9.cells (by omega)
                    have c9 := hc9 j x hx
                    have hts : lk.take (j + 1) = lk.take j ++ [x] := by rw [List.take_add_one, hx]; rfl
                    by_cases hxg : x = g
                    · have k1 : (x != g) = false := by simp [hxg]
                      have HT := Lib.hid (show Qp.but g (lk.take (j + 1)) = Qp.but g (lk.take j) by rw [hts, hxg]; unfold Qp.but; rw [List.filter_append]; simp)
                      clear hr9 hc9 hx hts hxg eb
                      go_wp2_with fail
                      go_roundw
                      case rel => exact ⟨j + 1, by omega, by go_num, by rw [HT.out]; exact HO10, HB10⟩
                      case measure => simp [intOf]; omega
                    · have k1 : (x != g) = true := by simp [hxg]
                      have HT := Lib.hid (show Qp.but g (lk.take (j + 1)) = Qp.but g (lk.take j) ++ [x] by rw [hts]; unfold Qp.but; rw [List.filter_append]; simp [hxg])
                      obtain ⟨lw, hlw⟩ : ∃ lw, lw = Qp.but g (lk.take j) := ⟨_, rfl⟩
                      have hlw64 : lw.length ≤ 64 := by
                        rw [hlw]
                        unfold Qp.but
                        have h1 := List.length_filter_le (fun x => x != g) (lk.take j)
                        have h2 := List.length_take_le j lk
                        omega
                      have ho := HO10.out
                      rw [← hlw] at ho HT
                      have hsz := HB10.out.size
                      clear hr9 hc9 hx hts hxg eb hlw
                      go_wp2_with (at_builtin; refine wpList_append_own _ rfl _ _ 44 rfl wp.heap.size 3 i0 (.int .i64 0) 1 8 Try.underlying44 hi hz0 hz1 hz2 rfl (by decide) _ _ _ rfl (ho.alloc _) ⟨wr.heap.size, 0, none⟩ 1 1 [.int .i64 x] rfl rfl ?c1 ?c2 ?c3 ?c4 ?c5 ?_)
                      case c1 => exact one_cell _ _ _
                      case c2 => intro u hu; simp at hu; subst hu; rfl
                      case c3 => unfold maxLen; omega
                      case c4 => omega
                      case c5 => simp; omega
                      intro v' w11 hown2 hgr _
                      have HB11 := Lib.hid ((HB10.out.alloc HB10.out.size (.cells #[.int .i64 x] 3)).grown hgr (by simp; omega) (fun j hj => (ho.lt j hj).1))
                      have HO11 := Lib.hid hown2
                      clear hown2 hgr ho c0 c9
                      go_wp2_with fail
                      go_roundw
                      case rel => exact ⟨j + 1, by omega, by go_num, by rw [HT.out]; simpa using HO11, HB11⟩
                      case measure => simp [intOf]; omega
                  · obtain rfl : j = n5 := by omega
                    have ho := HO10.out
                    rw [List.take_of_length_le (by rw [HN5.out]; exact Nat.le_refl _)] at ho
                    obtain ⟨lw, hlw⟩ : ∃ lw, lw = Qp.but g lk := ⟨_, rfl⟩
                    rw [← hlw] at ho HQA HMS
                    obtain ⟨nw, hnw⟩ : ∃ nw, nw = lw.length := ⟨_, rfl⟩
                    rw [← hnw] at ho HMS
                    obtain ⟨Aw, cw, rfl, hrw⟩ := Row.of_own ho
                    have RW := Lib.hid hrw
                    have hnw64 : nw ≤ 64 := by
                      rw [hnw, hlw]
                      unfold Qp.but
                      have h1 := List.length_filter_le (fun x => x != g) lk
                      have h2 := HN5.out
                      omega
                    have A10 := Lib.hid (HA9.out.step HB10.out)
                    have B10 := Lib.hid (HB9.out.trans (HB10.out.mono HB9.out.size))
                    clear ho hrw hlw hnw
                    go_wp2_with fail
                    refine (all_row b 64 q2 kk wr A10.out).mono ?_
                    rintro e w12 ⟨A12, n12, c12, rfl, hr12, hf12, hb12⟩
                    rw [HQA.out] at hr12
                    have R12 := Lib.hid hr12
                    have RW12 := Lib.hid (RW.out.step hb12)
                    have A13 := Lib.hid (A10.out.step hb12)
                    have B13 := Lib.hid (B10.out.trans (hb12.mono B10.out.size))
                    have W13 := Lib.hid (HW10.out.step hb12)
                    clear hr12 hf12 hb12
                    go_wp2_with fail
                    refine (ints_row _ _ _ _ _ _ _ _ w12 (by rfl) R12.out RW12.out).mono ?_
                    rintro e w14 ⟨rfl, hb14⟩
                    have A14 := Lib.hid (A13.out.step hb14)
                    have B14 := Lib.hid (B13.out.trans (hb14.mono B13.out.size))
                    have W14 := Lib.hid (W13.out.step hb14)
                    clear hb14
                    go_wp2_with fail
                    go_roundw
                    case rel => exact ⟨kk + 1, by omega, by go_num, by rw [HMS.out, Int.natCast_add, Int.sub_sub], W14, A14, B14⟩
                    case measure => simp [intOf]; omega
              · obtain rfl : kk = 4 := by omega
                have HG2 := Lib.hid HGO.out
                rw [← HMK.out] at HMD
                by_cases h0 : 0 ≤ o
                · have hs1 : s = true := by rw [HS.out]; simpa using h0
                  subst hs1
                  have hMm := HMD.out
                  rw [if_pos h0] at hMm
                  obtain rfl : M = mk + 1 := hMm
                  have e1 : ((mk + 1 : Nat) : Int) - (mk : Int) = 1 := by omega
                  rw [e1]
                  go_wp2_with fail
                  refine (of_any b 64 q2 g wr HA9.out).mono ?_
                  rintro e w15 ⟨rfl, rfl⟩
                  rw [HGO.out]
                  go_wp2_with fail
                  go_ret
                  exact ⟨rfl, HB9.out⟩
                · have hs1 : s = false := by rw [HS.out]; simpa using h0
                  subst hs1
                  have hMm := HMD.out
                  rw [if_neg h0] at hMm
                  obtain rfl : M = mk := hMm
                  have e1 : (M : Int) - (M : Int) = 0 := by omega
                  rw [e1]
                  go_wp2_with fail
                  refine (of_any b 64 q2 g wr HA9.out).mono ?_
                  rintro e w15 ⟨rfl, rfl⟩
                  rw [HGO.out]
                  go_wp2_with fail
                  go_ret
                  exact ⟨rfl, HB9.out⟩
    · obtain rfl : k = n := by omega
      obtain ⟨wo, rfl⟩ : ∃ wo : World, wo = wr := ⟨_, rfl⟩
      have t1 : t.tmod 64 = t % 64 := Int.tmod_eq_emod_of_nonneg u0
      obtain ⟨g, hg⟩ : ∃ g, 1 + t % 64 = g := ⟨_, rfl⟩
      obtain ⟨o, ho⟩ : ∃ o, o = Qp.of q g := ⟨_, rfl⟩
      have HO := Lib.hid ho
      have hbo := HA.out.lt
      clear ho
      go_wp2_with fail
      refine (of_any b 64 q g wo HA.out).mono ?_
      rintro e w3 ⟨rfl, rfl⟩
      rw [← HO.out]
      have hbn := below_new wo (.cells #[.slice none 0 0, .slice none 0 0, .slice none 0 0, .slice none 0 0] 54)
      have W4 := Lib.hid (bef_new wo 54 q)
      have A4 := Lib.hid (HA.out.step hbn)
      have B4 := Lib.hid (HB.out.trans (hbn.mono HB.out.size))
      have HOK := Lib.hid HA.out.ok
      clear hbn
      go_wp2_with fail
      generalize wo.alloc (.cells #[.slice none 0 0, .slice none 0 0, .slice none 0 0, .slice none 0 0] 54) = w4 at W4 A4 B4 ⊢
      generalize hcc : wo.heap.size = cc at hbo W4 ⊢
      clear hcc
      go_loopw [12, 13] (fun al i wr => ∃ (kk : Nat) (v : Nat → Value), kk ≤ 4 ∧ i = .int .i64 kk ∧ al = .int .i64 (many q kk) ∧ Hid (Bef wr cc q kk v) ∧ Hid (Ar wr b 64 q) ∧ Hid (Below w.heap.size w wr)) (fun _ i _ => 4 - (intOf i).toNat)
      case atStart => exact ⟨0, _, Nat.zero_le _, rfl, rfl, W4, A4, B4⟩
      case round =>
        obtain ⟨kk, v, hkk, rfl, rfl, HW', HA', HB'⟩ := hrel
        by_cases hk4 : kk < 4
        · obtain ⟨wp, rfl⟩ : ∃ wp : World, wp = wr := ⟨_, rfl⟩
          obtain ⟨lk, hlk⟩ : ∃ lk, lk = q.getD kk [] := ⟨_, rfl⟩
          have HLK := Lib.hid hlk
          have i3 : (kk : Int) < 4 := by omega
          have d3 : decide ((kk : Int) < 4) = true := by simpa using i3
          obtain ⟨mk, hmk⟩ : ∃ mk, mk = many q kk := ⟨_, rfl⟩
          have HMK := Lib.hid hmk
          have hm64 := many_le (m := 64) HOK.out kk
          rw [← hmk] at hm64 ⊢
          have hqa : Qp.all q kk = lk := by rw [hlk]; exact Qp.all_at (q := q) (k := kk) (Qp.getD_at (by omega))
          have HQA := Lib.hid hqa
          clear hlk hmk hqa
          go_wp2_with fail
          refine (all_row b 64 q kk wp HA'.out).mono ?_
          rintro e w5 ⟨A5, n5, cp5, rfl, hr5, hf5, hb5⟩
          rw [HQA.out] at hr5
          have hn5 := hr5.len
          have hn64 : n5 ≤ 64 := by have := Qp.all_length (m := 64) HOK.out kk; rw [HQA.out] at this; omega
          have c5 := (HW'.out.step hb5).cell kk hk4
          have f5 := (HW'.out.step hb5).frz kk
          have W5 := Lib.hid ((HW'.out.step hb5).lay hk4 (by rw [← HLK.out]; exact hr5) (hf5.mono HW'.out.lt))
          have A6 := Lib.hid ((HA'.out.step hb5).keep (W' := w5.setCell ⟨cc, kk, none⟩ (.slice A5 n5 cp5)) (Below.heap_setCell _ _ _ _ (by simp only; omega)))
          have B6 := Lib.hid ((HB'.out.trans (hb5.mono HB'.out.size)).setCell (p := ⟨cc, kk, none⟩) (by simp only; omega) (.slice A5 n5 cp5))
          have HN5 := Lib.hid hn5
          clear hr5 hf5 hb5 hn5
          obtain ⟨v2, hv2⟩ : ∃ v2 : Nat → Value, v2 = fun j => if j = kk then .slice A5 n5 cp5 else v j := ⟨_, rfl⟩
          have HV := Lib.hid (show v2 kk = .slice A5 n5 cp5 by rw [hv2]; simp)
          rw [← hv2] at W5
          clear hv2
          go_wp2_with fail
          generalize w5.setCell ⟨cc, kk, none⟩ (.slice A5 n5 cp5) = w6 at W5 A6 B6 ⊢
          go_loopw [12, 14] (fun al i wr => ∃ j : Nat, j ≤ n5 ∧ i = .int .i64 j ∧ al = .int .i64 ((mk : Int) + (j : Int)) ∧ Hid (Bef wr cc q (kk + 1) v2) ∧ Hid (Ar wr b 64 q) ∧ Hid (Below w.heap.size w wr)) (fun _ i _ => n5 - (intOf i).toNat)
          case atStart => exact ⟨0, Nat.zero_le _, rfl, by simp, W5, A6, B6⟩
          case round =>
            obtain ⟨j, hj, rfl, rfl, HW7, HA7, HB7⟩ := hrel
            have c0 := HW7.out.cell kk hk4
            rw [HV.out] at c0
            by_cases hjn : j < n5
            · obtain ⟨x, hx⟩ : ∃ x, lk[j]? = some x := ⟨_, List.getElem?_eq_getElem (by rw [HN5.out]; exact hjn)⟩
              obtain ⟨A9, cp9, e9, hr9, hf9⟩ := HW7.out.row kk (by omega)
              rw [HV.out] at e9
              injection e9 with ea eb ec
              subst ea ec
              rw [← HLK.out, HN5.out] at hr9
              obtain ⟨b9, o9, rfl, hb9, hc9⟩ := hr9.cells (by omega)
              have c9 := hc9 j x hx
              have hxm : x ∈ lk := List.mem_of_getElem? hx
              have hat : q[kk]? = some lk := by rw [HLK.out]; exact Qp.getD_at (by omega)
              have hof := Qp.of_eq HOK.out hat hxm
              have GO : Hid (∀ p : Nat, Calls Try.prog 22 #[.pointer (some ⟨b, 0, none⟩), .int .i64 x] (wr.drewN p) fun e w' => e = .returned (.int .i64 (kk : Int)) ∧ w' = wr.drewN p) :=
                Lib.hid (fun p => (of_any b 64 q x (wr.drewN p) (HA7.out.drewN p)).mono fun e w' ⟨he, hw⟩ => ⟨by rw [he, hof], hw.symm⟩)
              have htk := hr9.take j (by omega)
              have hno : Tp.has (lk.take j) x = false := by
                unfold Tp.has
                rw [← Bool.not_eq_true, List.contains_iff_mem]
                have hnd := HOK.out.nodup _ _ hat
                have e1 : lk = lk.take j ++ x :: lk.drop (j + 1) := by
                  conv => lhs; rw [← List.take_append_drop j lk]
                  rw [List.drop_eq_getElem?_toList_append, hx]; rfl
                rw [e1] at hnd
                exact (Qp.not_mid hnd).1
              have GI : Hid (∀ p : Nat, Calls Try.prog 24 #[.slice (some ⟨b9, o9, none⟩) j cp5, .int .i64 x] (wr.drewN p) fun e w' => e = .returned (.bool false) ∧ w' = wr.drewN p) :=
                Lib.hid (fun p => (in_any (some ⟨b9, o9, none⟩) j cp5 (lk.take j) x (wr.drewN p) wr.heap.size (Lib.hid htk.len) (by omega) (htk.below (below_drewN (Below.refl _ _) p)).row).mono fun e w' ⟨he, hw⟩ => ⟨by rw [he, hno], hw⟩)
              have k1 : ((kk : Int) != (kk : Int)) = false := by simp
              have i5 : (j : Int) < (n5 : Int) := by omega
              have i6 : (0 : Int) ≤ (j : Int) := by omega
              have i7 : (j : Int) ≤ (cp5 : Int) := by have := hr9.cap; omega
              have i8 : j ≤ cp5 := by have := hr9.cap; omega
              clear hr9 hc9 hx hof htk hno hat hxm eb
              go_wp2_with fail
              go_quiet ((first | (go_at_call 22; (with_reducible exact Calls.quiet_of_same (GO.out _))) | (go_at_call 24; (with_reducible exact Calls.quiet_of_same (GI.out _)))))
              go_wp2_with fail
              go_roundw
              case rel => exact ⟨j + 1, by omega, by go_num, by rw [Int.natCast_add, Int.add_assoc]; rfl, Lib.hid (HW7.out.drewN _), Lib.hid (HA7.out.drewN _), Lib.hid (below_drewN HB7.out _)⟩
              case measure => simp [intOf]; omega
            · obtain rfl : j = n5 := by omega
              have HM2 := Lib.hid (show many q (kk + 1) = mk + j by rw [many, ← HMK.out, ← HLK.out, HN5.out])
              go_wp2_with fail
              go_roundw
              case rel => exact ⟨kk + 1, v2, by omega, by go_num, by rw [HM2.out]; rfl, HW7, HA7, HB7⟩
              case measure => simp [intOf]; omega
        · obtain rfl : kk = 4 := by omega
          obtain ⟨wq, rfl⟩ : ∃ wq : World, wq = wr := ⟨_, rfl⟩
          obtain ⟨s, hs⟩ : ∃ s, s = Qp.stands q g := ⟨_, rfl⟩
          obtain ⟨q2, hq2⟩ : ∃ q2, q2 = Qp.drop q g := ⟨_, rfl⟩
          have HS := Lib.hid (show s = decide (0 ≤ o) by rw [hs, HO.out]; rfl)
          have HQ2 := Lib.hid hq2
          have HGO := Lib.hid (show Qp.of q2 g = -1 by rw [hq2]; exact of_gone HOK.out g)
          have HMD := Lib.hid (show many q 4 = many q2 4 + (if 0 ≤ o then 1 else 0) by rw [hq2, HO.out]; exact many_drop HOK.out hq4 g)
          obtain ⟨M, hM⟩ : ∃ M, M = many q 4 := ⟨_, rfl⟩
          have hM64 := many_le (m := 64) HOK.out 4
          rw [← hM] at HMD hM64 ⊢
          clear hq2 hM
          go_wp2_with fail
          refine (drop_any b 64 q g wq HA'.out).mono ?_
          rintro e w8 ⟨rfl, hA, hgr⟩
          rw [← hs]
          rw [← HQ2.out] at hA
          have A8 := Lib.hid hA
          have B8 := Lib.hid (below_turned HB'.out hgr HB'.out.size hwb)
          have W8 := Lib.hid (HW'.out.turned hgr hbo)
          have OK2 := Lib.hid hA.ok
          clear hA hgr hs
          go_wp2_with fail
          go_loopw [12, 16] (fun al i wr => ∃ kk : Nat, kk ≤ 4 ∧ i = .int .i64 kk ∧ al = .int .i64 ((M : Int) - (many q2 kk : Nat)) ∧ Hid (Bef wr cc q 4 v) ∧ Hid (Ar wr b 64 q2) ∧ Hid (Below w.heap.size w wr)) (fun _ i _ => 4 - (intOf i).toNat)
          case atStart => exact ⟨0, Nat.zero_le _, rfl, by simp [many], W8, A8, B8⟩
          case round =>
            obtain ⟨kk, hkk, rfl, rfl, HW9, HA9, HB9⟩ := hrel
            obtain ⟨mk, hmk⟩ : ∃ mk, mk = many q2 kk := ⟨_, rfl⟩
            have hm64 := many_le (m := 64) OK2.out kk
            have HMK := Lib.hid hmk
            rw [← hmk] at hm64 ⊢
            clear hmk
            by_cases hk4 : kk < 4
            · obtain ⟨wp, rfl⟩ : ∃ wp : World, wp = wr := ⟨_, rfl⟩
              obtain ⟨lk, hlk⟩ : ∃ lk, lk = q.getD kk [] := ⟨_, rfl⟩
              obtain ⟨A5, n5, cp5, hv5, hn5⟩ : ∃ A5 n5 cp5, v kk = .slice A5 n5 cp5 ∧ lk.length = n5 := by
                obtain ⟨A5, cp5, h1, _⟩ := HW9.out.row kk hk4
                exact ⟨A5, _, cp5, h1, by rw [hlk]⟩
              have HV := Lib.hid hv5
              have HN5 := Lib.hid hn5
              have HLK := Lib.hid hlk
              have hn64 : n5 ≤ 64 := by
                have h1 := Qp.all_length (m := 64) HOK.out kk
                rw [Qp.all_at (q := q) (k := kk) (Qp.getD_at (by omega)), ← hlk, hn5] at h1
                exact h1
              have HQA := Lib.hid (show Qp.all q2 kk = Qp.but g lk by
                rw [Qp.all_at (q := q2) (k := kk) (Qp.getD_at (by rw [HQ2.out, Qp.drop_length]; omega)), HQ2.out, drop_getD, hlk])
              have HMS := Lib.hid (show many q2 (kk + 1) = mk + (Qp.but g lk).length by rw [many, ← HMK.out, HQ2.out, drop_getD, hlk])
              have i3 : (kk : Int) < 4 := by omega
              have d3 : decide ((kk : Int) < 4) = true := by simpa using i3
              clear hv5 hn5 hlk
              go_wp2_with fail
              go_loopw [17, 18] (fun u i wr => ∃ j : Nat, j ≤ n5 ∧ i = .int .i64 j ∧ Hid (wr.ownsRow wp.heap.size 3 1 u (Qp.but g (lk.take j)).length ((Qp.but g (lk.take j)).map (Value.int .i64))) ∧ Hid (Below wp.heap.size wp wr)) (fun _ i _ => n5 - (intOf i).toNat)
              case atStart => exact ⟨0, Nat.zero_le _, rfl, Lib.hid (World.ownsRow_nil _ _ _ _), Lib.hid (Below.refl _ _)⟩
              case round =>
                obtain ⟨j, hj, rfl, HO10, HB10⟩ := hrel
                have HW10 := Lib.hid (HW9.out.step HB10.out)
                have c0 := HW10.out.cell kk hk4
                rw [HV.out] at c0
                by_cases hjn : j < n5
                · obtain ⟨x, hx⟩ : ∃ x, lk[j]? = some x := ⟨_, List.getElem?_eq_getElem (by rw [HN5.out]; exact hjn)⟩
                  obtain ⟨A9, cp9, e9, hr9, hf9⟩ := HW10.out.row kk (by omega)
                  rw [HV.out] at e9
                  injection e9 with ea eb ec
                  subst ea ec
                  rw [← HLK.out, HN5.out] at hr9
                  obtain ⟨b9, o9, rfl, hb9, hc9⟩ := hr9.cells (by omega)
                  have c9 := hc9 j x hx
                  have hts : lk.take (j + 1) = lk.take j ++ [x] := by rw [List.take_add_one, hx]; rfl
                  by_cases hxg : x = g
                  · have k1 : (x != g) = false := by simp [hxg]
                    have HT := Lib.hid (show Qp.but g (lk.take (j + 1)) = Qp.but g (lk.take j) by rw [hts, hxg]; unfold Qp.but; rw [List.filter_append]; simp)
                    clear hr9 hc9 hx hts hxg eb
                    go_wp2_with fail
                    go_roundw
                    case rel => exact ⟨j + 1, by omega, by go_num, by rw [HT.out]; exact HO10, HB10⟩
                    case measure => simp [intOf]; omega
                  · have k1 : (x != g) = true := by simp [hxg]
                    have HT := Lib.hid (show Qp.but g (lk.take (j + 1)) = Qp.but g (lk.take j) ++ [x] by rw [hts]; unfold Qp.but; rw [List.filter_append]; simp [hxg])
                    obtain ⟨lw, hlw⟩ : ∃ lw, lw = Qp.but g (lk.take j) := ⟨_, rfl⟩
                    have hlw64 : lw.length ≤ 64 := by
                      rw [hlw]
                      unfold Qp.but
                      have h1 := List.length_filter_le (fun x => x != g) (lk.take j)
                      have h2 := List.length_take_le j lk
                      omega
                    have ho := HO10.out
                    rw [← hlw] at ho HT
                    have hsz := HB10.out.size
                    clear hr9 hc9 hx hts hxg eb hlw
                    go_wp2_with (at_builtin; refine wpList_append_own _ rfl _ _ 44 rfl wp.heap.size 3 i0 (.int .i64 0) 1 8 Try.underlying44 hi hz0 hz1 hz2 rfl (by decide) _ _ _ rfl (ho.alloc _) ⟨wr.heap.size, 0, none⟩ 1 1 [.int .i64 x] rfl rfl ?c1 ?c2 ?c3 ?c4 ?c5 ?_)
                    case c1 => exact one_cell _ _ _
                    case c2 => intro u hu; simp at hu; subst hu; rfl
                    case c3 => unfold maxLen; omega
                    case c4 => omega
                    case c5 => simp; omega
                    intro v' w11 hown2 hgr _
                    have HB11 := Lib.hid ((HB10.out.alloc HB10.out.size (.cells #[.int .i64 x] 3)).grown hgr (by simp; omega) (fun j hj => (ho.lt j hj).1))
                    have HO11 := Lib.hid hown2
                    clear hown2 hgr ho c0 c9
                    go_wp2_with fail
                    go_roundw
                    case rel => exact ⟨j + 1, by omega, by go_num, by rw [HT.out]; simpa using HO11, HB11⟩
                    case measure => simp [intOf]; omega
                · obtain rfl : j = n5 := by omega
                  have ho := HO10.out
                  rw [List.take_of_length_le (by rw [HN5.out]; exact Nat.le_refl _)] at ho
                  obtain ⟨lw, hlw⟩ : ∃ lw, lw = Qp.but g lk := ⟨_, rfl⟩
                  rw [← hlw] at ho HQA HMS
                  obtain ⟨nw, hnw⟩ : ∃ nw, nw = lw.length := ⟨_, rfl⟩
                  rw [← hnw] at ho HMS
                  obtain ⟨Aw, cw, rfl, hrw⟩ := Row.of_own ho
                  have RW := Lib.hid hrw
                  have hnw64 : nw ≤ 64 := by
                    rw [hnw, hlw]
                    unfold Qp.but
                    have h1 := List.length_filter_le (fun x => x != g) lk
                    have h2 := HN5.out
                    omega
                  have A10 := Lib.hid (HA9.out.step HB10.out)
                  have B10 := Lib.hid (HB9.out.trans (HB10.out.mono HB9.out.size))
                  clear ho hrw hlw hnw
                  go_wp2_with fail
                  refine (all_row b 64 q2 kk wr A10.out).mono ?_
                  rintro e w12 ⟨A12, n12, c12, rfl, hr12, hf12, hb12⟩
                  rw [HQA.out] at hr12
                  have R12 := Lib.hid hr12
                  have RW12 := Lib.hid (RW.out.step hb12)
                  have A13 := Lib.hid (A10.out.step hb12)
                  have B13 := Lib.hid (B10.out.trans (hb12.mono B10.out.size))
                  have W13 := Lib.hid (HW10.out.step hb12)
                  clear hr12 hf12 hb12
                  go_wp2_with fail
                  refine (ints_row _ _ _ _ _ _ _ _ w12 (by rfl) R12.out RW12.out).mono ?_
                  rintro e w14 ⟨rfl, hb14⟩
                  have A14 := Lib.hid (A13.out.step hb14)
                  have B14 := Lib.hid (B13.out.trans (hb14.mono B13.out.size))
                  have W14 := Lib.hid (W13.out.step hb14)
                  clear hb14
                  go_wp2_with fail
                  go_roundw
                  case rel => exact ⟨kk + 1, by omega, by go_num, by rw [HMS.out, Int.natCast_add, Int.sub_sub], W14, A14, B14⟩
                  case measure => simp [intOf]; omega
            · obtain rfl : kk = 4 := by omega
              have HG2 := Lib.hid HGO.out
              rw [← HMK.out] at HMD
              by_cases h0 : 0 ≤ o
              · have hs1 : s = true := by rw [HS.out]; simpa using h0
                subst hs1
                have hMm := HMD.out
                rw [if_pos h0] at hMm
                obtain rfl : M = mk + 1 := hMm
                have e1 : ((mk + 1 : Nat) : Int) - (mk : Int) = 1 := by omega
                rw [e1]
                go_wp2_with fail
                refine (of_any b 64 q2 g wr HA9.out).mono ?_
                rintro e w15 ⟨rfl, rfl⟩
                rw [HGO.out]
                go_wp2_with fail
                go_ret
                exact ⟨rfl, HB9.out⟩
              · have hs1 : s = false := by rw [HS.out]; simpa using h0
                subst hs1
                have hMm := HMD.out
                rw [if_neg h0] at hMm
                obtain rfl : M = mk := hMm
                have e1 : (M : Int) - (M : Int) = 0 := by omega
                rw [e1]
                go_wp2_with fail
                refine (of_any b 64 q2 g wr HA9.out).mono ?_
                rintro e w15 ⟨rfl, rfl⟩
                rw [HGO.out]
                go_wp2_with fail
                go_ret
                exact ⟨rfl, HB9.out⟩
set_option maxRecDepth 100000 in
theorem lifted (os : Os) (started : os.Started) (H : Type) (enc : TypeId × Value → H) :
    ReturnsInHanded {} Try.checked os 5 .any (Rows.fifoOnceSpec.pre6 enc Try.prog Try.f5 Rows.fifoOnceRow.domain false) (Rows.fifoOnceSpec.post enc Try.prog Try.f5 false true false false) := by
  refine returnsInHanded_of_change (C := Try.checked) own started (by kernel_rfl) Try.func5
    (ChangeSpec.witness6 (enc := enc) (C := Try.checked) false ⟨#[], #[.slice none 0 0, .int .u8 0], []⟩ 8 (by kernel_rfl) (by kernel_rfl) (by kernel_rfl) (by kernel_rfl)) ?_
  intro W base args ds gs before hval0 hW hcnd _
  have hval : ∀ (j : Nat) t v, Try.f5.params[j]? = some t → args[j]? = some v → Value.okWide Try.prog W .any base t v := hval0
  have hW' := hW
  obtain ⟨p, q, hA0, hV, rfl, hfz, hnd⟩ := hW
  have hA : DataW.TrodAll enc Try.prog W 0 (fun _ => true) true Try.f5.params.toList args.toList ds p := hA0
  rw [Try.params5] at hA hval
  obtain ⟨v0, vs0, d0, ds0, p0, q0, hargs, rfl, rfl, h0, r0⟩ := trodAll_cons hA
  obtain ⟨v1, vs1, d1, ds1, p1, q1, rfl, rfl, rfl, h1, r1⟩ := trodAll_cons r0
  obtain ⟨rfl, rfl, rfl⟩ := trodAll_nil r1
  obtain rfl : args = #[v0, v1] := by cases args; simp_all
  obtain ⟨rfl, rfl⟩ := trodVars_none hV
  have k0 := h0
  have lt0 : ∀ x ∈ p0, x.block < W.heap.size := by obtain ⟨m, hm⟩ := k0; exact DataW.trod_lt m _ _ _ hm
  obtain ⟨a0, len0, cap0, rfl⟩ := okWide_slice Try.underlying51 (hval 0 51 v0 rfl rfl)
  obtain ⟨aa0, ll0, cc0, z0, ev0, hn0, hr0⟩ : ∃ A n c zs, Value.slice a0 len0 cap0 = .slice A n c ∧ (zs.length = n ∧ n ≤ 9223372036854775807) ∧ BRow W A zs := by
    obtain ⟨fuel, hf⟩ := h0
    exact open_bytes (by simpa [Value.cells] using hf)
  injection ev0 with ea0 eb0 ec0
  subst ea0 eb0 ec0
  obtain ⟨a1, rfl, rfl, rfl, w1⟩ := open_int Try.underlying5 (hval 1 5 v1 rfl rfl) h1
  clear hA0 hval0
  refine (walk a0 len0 cap0 z0 a1 W (Lib.hid hn0.1) hn0.2 hr0 w1).mono fun e W' ⟨he, bel⟩ => ?_
  subst he
  exact ⟨_, rfl, _, _, _, [], _, [], hW', trodAll_mk1 (shut_bool Try.underlying4 _), (trodAll_cons_mk (Below.trod laidOut (by kernel_rfl) (of_decide_eq_true (by kernel_rfl)) k0 bel lt0) (trodAll_cons_mk (shut_int Try.underlying5 w1) trodAll_mk0)), rfl, bel.frame _, fun h => by cases h⟩
theorem over : Rows.fifoOnceRow.holds Try.pinned (OpenSpec.ofChange Rows.fifoOnceSpec) :=
  OpenClaim.holds_of_wide 5 Try.f5 rfl rfl rfl rfl rfl rfl rfl ⟨rfl, rfl, rfl, rfl, rfl⟩ rfl rfl rfl rfl rfl (by kernel_rfl) Try.func5 (by kernel_rfl)
    (of_decide_eq_true (by kernel_rfl)) (by unfold Func.isWrapper; first | (rw [if_pos (by decide +kernel)]; kernel_rfl) | (rw [if_neg (by decide +kernel)]; exact ⟨rfl, rfl⟩))
    (fun os started H enc _ => lifted os started H enc)
theorem proved : Rows.FifoOnceSaid := over
end Go.Proofs.Ythljecllmdbbbaa.fifoOnce

