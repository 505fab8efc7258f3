/- FifoParts: what is done to one queue leaves the others as they were: the call answers true and changes nothing that was there; for every input. -/
import Derived.Test.YthljecllmdbbbaaQCel
import Derived.Test.YthljecllmdbbbaaQFrame
namespace Go.Proofs.Ythljecllmdbbbaa.fifoParts
open Go.ChangeShapes Go.WideShapes Go.ChangeAt Go.RowKit
set_option linter.unusedVariables false

/-- The numbers from 40 on, k of them. -/
def high (k : Nat) : List Int := (List.range k).map fun (j : Nat) => 40 + (j : Int)
theorem high_length (k : Nat) : (high k).length = k := by unfold high; simp
theorem high_succ (k : Nat) : high (k + 1) = high k ++ [40 + (k : Int)] := by unfold high; rw [List.range_succ, List.map_append]; rfl
theorem high_mem {k : Nat} {x : Int} (h : x ∈ high k) : 40 ≤ x ∧ x < 40 + (k : Int) := by
  unfold high at h
  obtain ⟨j, hj, rfl⟩ := List.mem_map.1 h
  have := List.mem_range.1 hj
  omega
/-- The four queues. -/
def four (l1 : List Int) (k : Nat) : List (List Int) := [[], l1, high k, []]
def Low (l : List Int) : Prop := ∀ x ∈ l, 1 ≤ x ∧ x ≤ 30
theorem four_cases {l1 l : List Int} {k i : Nat} (h : (four l1 k)[i]? = some l) : l = [] ∨ (i = 1 ∧ l = l1) ∨ (i = 2 ∧ l = high k) := by
  unfold four at h
  match i, h with
  | 0, h => simp at h; exact .inl h
  | 1, h => simp at h; exact .inr (.inl ⟨rfl, h.symm⟩)
  | 2, h => simp at h; exact .inr (.inr ⟨rfl, h.symm⟩)
  | 3, h => simp at h; exact .inl h
  | n + 4, h => simp at h
theorem push_high (k : Nat) (hk : k < 20) : Qp.push (four [] k) ((64 : Nat) : Int) 2 (40 + (k : Int)) = (four [] (k + 1), 0) := by
  have ho : Qp.of (four [] k) (40 + (k : Int)) < 0 := by
    rw [Qp.of_none]
    intro i l hi hg
    rcases four_cases hi with rfl | ⟨_, rfl⟩ | ⟨_, rfl⟩
    · cases hg
    · cases hg
    · have := high_mem hg; omega
  have := push_last (q := four [] k) (k := 2) (g := 40 + (k : Int)) (l := high k) rfl (by omega) (by omega) ho
  rw [← high_succ] at this
  exact this
theorem drop_low {l1 : List Int} {k : Nat} {g : Int} (hl : Low l1) (hg : g ≤ 30) : Qp.drop (four l1 k) g = four (Qp.but g l1) k ∧ Low (Qp.but g l1) := by
  refine ⟨?_, fun x hx => hl x (Qp.mem_but.1 hx).1⟩
  unfold Qp.drop four
  simp only [List.map_cons, List.map_nil]
  rw [Qp.but_none (l := high k) (fun h => by have := high_mem h; omega)]
  rfl
theorem pop_low {l1 : List Int} {k : Nat} (hl : Low l1) : ∃ l2, Qp.pop (four l1 k) 1 = four l2 k ∧ Low l2 := by
  have ha : Qp.all (four l1 k) 1 = l1 := Qp.all_at (q := four l1 k) (k := 1) rfl
  unfold Qp.pop Qp.first
  rw [ha]
  cases l1 with
  | nil => exact ⟨[], rfl, hl⟩
  | cons x t =>
    have hx := hl x (by simp)
    obtain ⟨h1, h2⟩ := drop_low (k := k) (g := x) hl hx.2
    exact ⟨_, by simpa using h1, h2⟩
theorem push_low {l1 : List Int} {k : Nat} {g : Int} (hl : Low l1) (h1 : 1 ≤ g) (h2 : g ≤ 30) : ∃ l2 e, Qp.push (four l1 k) ((64 : Nat) : Int) 1 g = (four l2 k, e) ∧ Low l2 := by
  by_cases ho : 0 ≤ Qp.of (four l1 k) g
  · exact ⟨l1, 5, push_there (q := four l1 k) (k := 1) (by unfold four; simp) h1 (by omega) ho, hl⟩
  · refine ⟨l1 ++ [g], 0, push_last (q := four l1 k) (k := 1) rfl h1 (by omega) (by omega), fun x hx => ?_⟩
    simp at hx
    rcases hx with hx | rfl
    · exact hl x hx
    · exact ⟨h1, h2⟩
theorem tmod_30 (x : Int) : -29 ≤ x.tmod 30 ∧ x.tmod 30 ≤ 29 := by
  by_cases h : 0 ≤ x
  · rw [Int.tmod_eq_emod_of_nonneg h]; omega
  · obtain ⟨y, rfl⟩ : ∃ y, x = -y := ⟨-x, by omega⟩
    rw [Int.neg_tmod, Int.tmod_eq_emod_of_nonneg (by omega)]; omega
set_option maxHeartbeats 4000000 in
set_option maxRecDepth 100000 in
theorem walk (A : Option Addr) (n c : Nat) (zs : List Int) (D : Option Addr) (m d : Nat) (ds : List (Int × Int × Int)) (w : World) (hn : Hid (zs.length = n)) (hl : n ≤ 9223372036854775807) (hr : BRow w A zs) (hm : Hid (ds.length = m)) (hl2 : m ≤ 9223372036854775807) (hf : Hid (Fit3 ds)) (hd : DRow w D ds) :
    Calls Try.prog 7 #[.slice A n c, .slice D m d] w fun e w' => e = .returned (.bool true) ∧ Below w.heap.size w w' := by
  have HR := Lib.hid hr
  have HD := Lib.hid hd
  clear hr hd
  go_enter Try.func7, Try.ntmps7
  go_wp2_with fail
  refine (shown_any _).mono ?_
  rintro e w1 ⟨rfl, hb1⟩
  have B1 := Lib.hid hb1
  clear hb1
  go_wp2_with fail
  refine (new_yes 64 4 w1 (by omega) (by omega) (by omega) (by omega)).mono ?_
  rintro e w2 ⟨rfl, hA, hb⟩
  obtain ⟨b, hbb⟩ : ∃ b, b = w1.heap.size := ⟨_, rfl⟩
  rw [← hbb] at hA ⊢
  have hwb : w.heap.size ≤ b := by rw [hbb]; exact B1.out.size
  have A2 := Lib.hid (show Ar w2 b 64 (four [] 0) from hA)
  have B2 := Lib.hid (B1.out.trans (hb.mono B1.out.size))
  clear hA hb hbb B1
  go_wp2_with fail
  go_loopw [8] (fun i wr => ∃ (k : Nat), k ≤ n ∧ k ≤ 20 ∧ i = .int .i64 k ∧ Hid (Ar wr b 64 (four [] k)) ∧ Hid (Below w.heap.size w wr)) (fun i _ => 20 - (intOf i).toNat)
  case atStart => exact ⟨0, Nat.zero_le _, Nat.zero_le _, rfl, A2, B2⟩
  case round =>
    obtain ⟨k, hk, hk2, rfl, HA, HB⟩ := hrel
    by_cases hlt : k < n
    · by_cases h100 : k < 20
      · have HP := Lib.hid (push_high k h100)
        go_wp2_with fail
        refine (push_any b 64 (four [] k) 2 (40 + (k : Int)) wr HA.out).mono ?_
        rintro e w3 ⟨rfl, hA, hg⟩
        rw [HP.out] at hA ⊢
        have HA3 := Lib.hid hA
        have HB3 := Lib.hid (below_turned HB.out hg HB.out.size hwb)
        clear hA hg
        go_wp2_with fail
        go_roundw
        case rel => exact ⟨k + 1, by omega, by omega, by go_num, HA3, HB3⟩
        case measure => simp [intOf]; omega
      · obtain rfl : k = 20 := by omega
        have hn21 : (20 : Int) < (n : Int) := by omega
        go_wp2_with fail
        obtain ⟨wo, rfl⟩ : ∃ wo : World, wo = wr := ⟨_, rfl⟩
        refine (all_row b 64 (four [] 20) 2 wo HA.out).mono ?_
        rintro e w3 ⟨A3, n3, c3, rfl, hr3, hf3, hb3⟩
        rw [show Qp.all (four [] 20) 2 = high 20 from rfl] at hr3
        obtain rfl : 20 = n3 := by have := hr3.len; rw [high_length] at this; exact this
        have R3 := Lib.hid hr3
        have F3 := Lib.hid (hf3.mono (show b + 1 ≤ wo.heap.size from HA.out.lt))
        have HA3 := Lib.hid (HA.out.step hb3)
        have HB3 := Lib.hid (HB.out.trans (hb3.mono HB.out.size))
        clear hr3 hf3 hb3 HA HB
        go_wp2_with fail
        go_loopw [10] (fun i wr => ∃ (j : Nat) (l1 : List Int), j ≤ m ∧ j ≤ 200 ∧ i = .int .i64 j ∧ Hid (Low l1) ∧ Hid (Ar wr b 64 (four l1 20)) ∧ Hid (Below w.heap.size w wr) ∧ Hid (Row wr A3 20 c3 (high 20))) (fun i _ => 200 - (intOf i).toNat)
        case atStart => exact ⟨0, [], Nat.zero_le _, Nat.zero_le _, rfl, Lib.hid (fun x hx => by cases hx), HA3, HB3, R3⟩
        case round =>
          obtain ⟨j, l1, hj, hj2, rfl, HL, HA4, HB4, R4⟩ := hrel
          by_cases hjm : j < m
          · by_cases hj200 : j < 200
            · obtain ⟨x, hx⟩ : ∃ x, ds[j]? = some x := ⟨_, List.getElem?_eq_getElem (by have := hm.out; omega)⟩
              obtain ⟨kd, li, gg⟩ := x
              obtain ⟨b', off, hDD, hlt', hc0, hc1, hc2⟩ := HD.out j _ hx
              subst hDD
              have c0 := (HB4.out.cell (p := ⟨b', off + j * 3, none⟩) hlt').trans hc0
              have c1 := (HB4.out.cell (p := ⟨b', off + j * 3 + 1, none⟩) hlt').trans hc1
              have c2 := (HB4.out.cell (p := ⟨b', off + j * 3 + 2, none⟩) hlt').trans hc2
              simp only at c0 c1 c2
              obtain ⟨r, hr⟩ : ∃ r, gg.tmod 30 = r := ⟨_, rfl⟩
              have r0 : -29 ≤ r ∧ r ≤ 29 := by rw [← hr]; exact tmod_30 gg
              obtain ⟨r1, r2⟩ := r0
              obtain ⟨s, hs⟩ : ∃ s, (r + 30) % 30 = s := ⟨_, rfl⟩
              have s1 : 0 ≤ s := by omega
              have s2 : s ≤ 29 := by omega
              have hs' : (r + 30).tmod 30 = s := by rw [← hs]; exact Int.tmod_eq_emod_of_nonneg (by omega)
              have hblt := HA4.out.lt
              clear hc0 hc1 hc2 hx
              obtain ⟨W, hW⟩ : ∃ W, W = wr.alloc (.cells #[.int .i64 kd, .int .i64 li, .int .i64 gg] 34) := ⟨_, rfl⟩
              have hbn := below_new wr (.cells #[.int .i64 kd, .int .i64 li, .int .i64 gg] 34)
              rw [← hW] at hbn
              have HA5 := Lib.hid (HA4.out.step hbn)
              have HB5 := Lib.hid (HB4.out.trans (hbn.mono HB4.out.size))
              have R5 := Lib.hid (R4.out.step hbn)
              have E5 := Lib.hid hW
              clear hW hbn
              by_cases k1 : kd = 1
              · subst k1
                obtain ⟨l2, hp, hl2'⟩ := pop_low (k := 20) HL.out
                have HP := Lib.hid hp
                clear hp
                go_wp2_with fail
                rw [← E5.out]
                clear E5
                refine (pop_any b 64 (four l1 20) 1 W HA5.out).mono ?_
                rintro e w6 ⟨rfl, hA, hg⟩
                rw [HP.out] at hA
                have HA6 := Lib.hid hA
                have HB6 := Lib.hid (below_turned HB5.out hg HB5.out.size hwb)
                have R6 := Lib.hid (R5.out.turned F3.out hg)
                have HL6 := Lib.hid hl2'
                clear hA hg c0 c1 c2 hr hs hs'
                go_wp2_with fail
                go_roundw
                case rel => exact ⟨j + 1, l2, by omega, by omega, by go_num, HL6, HA6, HB6, R6⟩
                case measure => simp [intOf]; omega
              · have k1' : (kd == 1) = false := by rw [beq_eq_false_iff_ne]; exact k1
                by_cases k0 : kd = 0
                · subst k0
                  obtain ⟨l2, e2, hp, hl2'⟩ := push_low (k := 20) (g := 1 + s) HL.out (by omega) (by omega)
                  have HP := Lib.hid hp
                  clear hp
                  go_wp2_with fail
                  rw [← E5.out]
                  clear E5
                  refine (push_any b 64 (four l1 20) 1 (1 + s) W HA5.out).mono ?_
                  rintro e w6 ⟨rfl, hA, hg⟩
                  rw [HP.out] at hA
                  have HA6 := Lib.hid hA
                  have HB6 := Lib.hid (below_turned HB5.out hg HB5.out.size hwb)
                  have R6 := Lib.hid (R5.out.turned F3.out hg)
                  have HL6 := Lib.hid hl2'
                  clear hA hg c0 c1 c2 hr hs hs'
                  go_wp2_with fail
                  go_roundw
                  case rel => exact ⟨j + 1, l2, by omega, by omega, by go_num, HL6, HA6, HB6, R6⟩
                  case measure => simp [intOf]; omega
                · have k0' : (kd == 0) = false := by rw [beq_eq_false_iff_ne]; exact k0
                  obtain ⟨hp, hl2'⟩ := drop_low (k := 20) (g := 1 + s) HL.out (by omega)
                  obtain ⟨l2, hl2e⟩ : ∃ l2, l2 = Qp.but (1 + s) l1 := ⟨_, rfl⟩
                  rw [← hl2e] at hp hl2'
                  have HP := Lib.hid hp
                  clear hp hl2e
                  go_wp2_with fail
                  rw [← E5.out]
                  clear E5
                  refine (drop_any b 64 (four l1 20) (1 + s) W HA5.out).mono ?_
                  rintro e w6 ⟨rfl, hA, hg⟩
                  rw [HP.out] at hA
                  have HA6 := Lib.hid hA
                  have HB6 := Lib.hid (below_turned HB5.out hg HB5.out.size hwb)
                  have R6 := Lib.hid (R5.out.turned F3.out hg)
                  have HL6 := Lib.hid hl2'
                  clear hA hg c0 c1 c2 hr hs hs'
                  go_wp2_with fail
                  go_roundw
                  case rel => exact ⟨j + 1, l2, by omega, by omega, by go_num, HL6, HA6, HB6, R6⟩
                  case measure => simp [intOf]; omega
            · obtain rfl : j = 200 := by omega
              go_wp2_with fail
              refine (all_row b 64 _ 2 wr HA4.out).mono ?_
              rintro e w7 ⟨A7, n7, c7, rfl, hr7, hf7, hb7⟩
              have HA7 := Lib.hid (HA4.out.step hb7)
              have HB7 := Lib.hid (HB4.out.trans (hb7.mono HB4.out.size))
              have R7 := Lib.hid (R4.out.step hb7)
              have Q7 := Lib.hid hr7
              clear hr7 hf7 hb7 hj2
              go_wp2_with fail
              refine (ints_row _ _ _ _ _ _ _ _ w7 (by rfl) Q7.out R7.out).mono ?_
              rintro e w8 ⟨rfl, hb8⟩
              have HA8 := Lib.hid (HA7.out.step hb8)
              have HB8 := Lib.hid (HB7.out.trans (hb8.mono HB7.out.size))
              clear hb8
              go_wp2_with fail
              refine (len_any b 64 _ 0 w8 HA8.out).mono ?_
              rintro e w9 ⟨rfl, hb9⟩
              have HB9 := Lib.hid (HB8.out.trans (hb9.mono HB8.out.size))
              clear hb9
              rw [show ∀ l1, Qp.all (four l1 20) 0 = [] from fun _ => rfl]
              go_wp2_with fail
              go_ret
              exact ⟨rfl, HB9.out⟩
          · obtain rfl : j = m := by omega
            go_wp2_with fail
            refine (all_row b 64 _ 2 wr HA4.out).mono ?_
            rintro e w7 ⟨A7, n7, c7, rfl, hr7, hf7, hb7⟩
            have HA7 := Lib.hid (HA4.out.step hb7)
            have HB7 := Lib.hid (HB4.out.trans (hb7.mono HB4.out.size))
            have R7 := Lib.hid (R4.out.step hb7)
            have Q7 := Lib.hid hr7
            clear hr7 hf7 hb7 hj2
            go_wp2_with fail
            refine (ints_row _ _ _ _ _ _ _ _ w7 (by rfl) Q7.out R7.out).mono ?_
            rintro e w8 ⟨rfl, hb8⟩
            have HA8 := Lib.hid (HA7.out.step hb8)
            have HB8 := Lib.hid (HB7.out.trans (hb8.mono HB7.out.size))
            clear hb8
            go_wp2_with fail
            refine (len_any b 64 _ 0 w8 HA8.out).mono ?_
            rintro e w9 ⟨rfl, hb9⟩
            have HB9 := Lib.hid (HB8.out.trans (hb9.mono HB8.out.size))
            clear hb9
            rw [show ∀ l1, Qp.all (four l1 20) 0 = [] from fun _ => rfl]
            go_wp2_with fail
            go_ret
            exact ⟨rfl, HB9.out⟩
    · obtain rfl : k = n := by omega
      by_cases hn20 : k = 20
      · subst hn20
        go_wp2_with fail
        obtain ⟨wo, rfl⟩ : ∃ wo : World, wo = wr := ⟨_, rfl⟩
        refine (all_row b 64 (four [] 20) 2 wo HA.out).mono ?_
        rintro e w3 ⟨A3, n3, c3, rfl, hr3, hf3, hb3⟩
        rw [show Qp.all (four [] 20) 2 = high 20 from rfl] at hr3
        obtain rfl : 20 = n3 := by have := hr3.len; rw [high_length] at this; exact this
        have R3 := Lib.hid hr3
        have F3 := Lib.hid (hf3.mono (show b + 1 ≤ wo.heap.size from HA.out.lt))
        have HA3 := Lib.hid (HA.out.step hb3)
        have HB3 := Lib.hid (HB.out.trans (hb3.mono HB.out.size))
        clear hr3 hf3 hb3 HA HB
        go_wp2_with fail
        go_loopw [10] (fun i wr => ∃ (j : Nat) (l1 : List Int), j ≤ m ∧ j ≤ 200 ∧ i = .int .i64 j ∧ Hid (Low l1) ∧ Hid (Ar wr b 64 (four l1 20)) ∧ Hid (Below w.heap.size w wr) ∧ Hid (Row wr A3 20 c3 (high 20))) (fun i _ => 200 - (intOf i).toNat)
        case atStart => exact ⟨0, [], Nat.zero_le _, Nat.zero_le _, rfl, Lib.hid (fun x hx => by cases hx), HA3, HB3, R3⟩
        case round =>
          obtain ⟨j, l1, hj, hj2, rfl, HL, HA4, HB4, R4⟩ := hrel
          by_cases hjm : j < m
          · by_cases hj200 : j < 200
            · obtain ⟨x, hx⟩ : ∃ x, ds[j]? = some x := ⟨_, List.getElem?_eq_getElem (by have := hm.out; omega)⟩
              obtain ⟨kd, li, gg⟩ := x
              obtain ⟨b', off, hDD, hlt', hc0, hc1, hc2⟩ := HD.out j _ hx
              subst hDD
              have c0 := (HB4.out.cell (p := ⟨b', off + j * 3, none⟩) hlt').trans hc0
              have c1 := (HB4.out.cell (p := ⟨b', off + j * 3 + 1, none⟩) hlt').trans hc1
              have c2 := (HB4.out.cell (p := ⟨b', off + j * 3 + 2, none⟩) hlt').trans hc2
              simp only at c0 c1 c2
              obtain ⟨r, hr⟩ : ∃ r, gg.tmod 30 = r := ⟨_, rfl⟩
              have r0 : -29 ≤ r ∧ r ≤ 29 := by rw [← hr]; exact tmod_30 gg
              obtain ⟨r1, r2⟩ := r0
              obtain ⟨s, hs⟩ : ∃ s, (r + 30) % 30 = s := ⟨_, rfl⟩
              have s1 : 0 ≤ s := by omega
              have s2 : s ≤ 29 := by omega
              have hs' : (r + 30).tmod 30 = s := by rw [← hs]; exact Int.tmod_eq_emod_of_nonneg (by omega)
              have hblt := HA4.out.lt
              clear hc0 hc1 hc2 hx
              obtain ⟨W, hW⟩ : ∃ W, W = wr.alloc (.cells #[.int .i64 kd, .int .i64 li, .int .i64 gg] 34) := ⟨_, rfl⟩
              have hbn := below_new wr (.cells #[.int .i64 kd, .int .i64 li, .int .i64 gg] 34)
              rw [← hW] at hbn
              have HA5 := Lib.hid (HA4.out.step hbn)
              have HB5 := Lib.hid (HB4.out.trans (hbn.mono HB4.out.size))
              have R5 := Lib.hid (R4.out.step hbn)
              have E5 := Lib.hid hW
              clear hW hbn
              by_cases k1 : kd = 1
              · subst k1
                obtain ⟨l2, hp, hl2'⟩ := pop_low (k := 20) HL.out
                have HP := Lib.hid hp
                clear hp
                go_wp2_with fail
                rw [← E5.out]
                clear E5
                refine (pop_any b 64 (four l1 20) 1 W HA5.out).mono ?_
                rintro e w6 ⟨rfl, hA, hg⟩
                rw [HP.out] at hA
                have HA6 := Lib.hid hA
                have HB6 := Lib.hid (below_turned HB5.out hg HB5.out.size hwb)
                have R6 := Lib.hid (R5.out.turned F3.out hg)
                have HL6 := Lib.hid hl2'
                clear hA hg c0 c1 c2 hr hs hs'
                go_wp2_with fail
                go_roundw
                case rel => exact ⟨j + 1, l2, by omega, by omega, by go_num, HL6, HA6, HB6, R6⟩
                case measure => simp [intOf]; omega
              · have k1' : (kd == 1) = false := by rw [beq_eq_false_iff_ne]; exact k1
                by_cases k0 : kd = 0
                · subst k0
                  obtain ⟨l2, e2, hp, hl2'⟩ := push_low (k := 20) (g := 1 + s) HL.out (by omega) (by omega)
                  have HP := Lib.hid hp
                  clear hp
                  go_wp2_with fail
                  rw [← E5.out]
                  clear E5
                  refine (push_any b 64 (four l1 20) 1 (1 + s) W HA5.out).mono ?_
                  rintro e w6 ⟨rfl, hA, hg⟩
                  rw [HP.out] at hA
                  have HA6 := Lib.hid hA
                  have HB6 := Lib.hid (below_turned HB5.out hg HB5.out.size hwb)
                  have R6 := Lib.hid (R5.out.turned F3.out hg)
                  have HL6 := Lib.hid hl2'
                  clear hA hg c0 c1 c2 hr hs hs'
                  go_wp2_with fail
                  go_roundw
                  case rel => exact ⟨j + 1, l2, by omega, by omega, by go_num, HL6, HA6, HB6, R6⟩
                  case measure => simp [intOf]; omega
                · have k0' : (kd == 0) = false := by rw [beq_eq_false_iff_ne]; exact k0
                  obtain ⟨hp, hl2'⟩ := drop_low (k := 20) (g := 1 + s) HL.out (by omega)
                  obtain ⟨l2, hl2e⟩ : ∃ l2, l2 = Qp.but (1 + s) l1 := ⟨_, rfl⟩
                  rw [← hl2e] at hp hl2'
                  have HP := Lib.hid hp
                  clear hp hl2e
                  go_wp2_with fail
                  rw [← E5.out]
                  clear E5
                  refine (drop_any b 64 (four l1 20) (1 + s) W HA5.out).mono ?_
                  rintro e w6 ⟨rfl, hA, hg⟩
                  rw [HP.out] at hA
                  have HA6 := Lib.hid hA
                  have HB6 := Lib.hid (below_turned HB5.out hg HB5.out.size hwb)
                  have R6 := Lib.hid (R5.out.turned F3.out hg)
                  have HL6 := Lib.hid hl2'
                  clear hA hg c0 c1 c2 hr hs hs'
                  go_wp2_with fail
                  go_roundw
                  case rel => exact ⟨j + 1, l2, by omega, by omega, by go_num, HL6, HA6, HB6, R6⟩
                  case measure => simp [intOf]; omega
            · obtain rfl : j = 200 := by omega
              go_wp2_with fail
              refine (all_row b 64 _ 2 wr HA4.out).mono ?_
              rintro e w7 ⟨A7, n7, c7, rfl, hr7, hf7, hb7⟩
              have HA7 := Lib.hid (HA4.out.step hb7)
              have HB7 := Lib.hid (HB4.out.trans (hb7.mono HB4.out.size))
              have R7 := Lib.hid (R4.out.step hb7)
              have Q7 := Lib.hid hr7
              clear hr7 hf7 hb7 hj2
              go_wp2_with fail
              refine (ints_row _ _ _ _ _ _ _ _ w7 (by rfl) Q7.out R7.out).mono ?_
              rintro e w8 ⟨rfl, hb8⟩
              have HA8 := Lib.hid (HA7.out.step hb8)
              have HB8 := Lib.hid (HB7.out.trans (hb8.mono HB7.out.size))
              clear hb8
              go_wp2_with fail
              refine (len_any b 64 _ 0 w8 HA8.out).mono ?_
              rintro e w9 ⟨rfl, hb9⟩
              have HB9 := Lib.hid (HB8.out.trans (hb9.mono HB8.out.size))
              clear hb9
              rw [show ∀ l1, Qp.all (four l1 20) 0 = [] from fun _ => rfl]
              go_wp2_with fail
              go_ret
              exact ⟨rfl, HB9.out⟩
          · obtain rfl : j = m := by omega
            go_wp2_with fail
            refine (all_row b 64 _ 2 wr HA4.out).mono ?_
            rintro e w7 ⟨A7, n7, c7, rfl, hr7, hf7, hb7⟩
            have HA7 := Lib.hid (HA4.out.step hb7)
            have HB7 := Lib.hid (HB4.out.trans (hb7.mono HB4.out.size))
            have R7 := Lib.hid (R4.out.step hb7)
            have Q7 := Lib.hid hr7
            clear hr7 hf7 hb7 hj2
            go_wp2_with fail
            refine (ints_row _ _ _ _ _ _ _ _ w7 (by rfl) Q7.out R7.out).mono ?_
            rintro e w8 ⟨rfl, hb8⟩
            have HA8 := Lib.hid (HA7.out.step hb8)
            have HB8 := Lib.hid (HB7.out.trans (hb8.mono HB7.out.size))
            clear hb8
            go_wp2_with fail
            refine (len_any b 64 _ 0 w8 HA8.out).mono ?_
            rintro e w9 ⟨rfl, hb9⟩
            have HB9 := Lib.hid (HB8.out.trans (hb9.mono HB8.out.size))
            clear hb9
            rw [show ∀ l1, Qp.all (four l1 20) 0 = [] from fun _ => rfl]
            go_wp2_with fail
            go_ret
            exact ⟨rfl, HB9.out⟩
      · have hn21 : (k : Int) < (20 : Int) := by omega
        go_wp2_with fail
        obtain ⟨wo, rfl⟩ : ∃ wo : World, wo = wr := ⟨_, rfl⟩
        refine (all_row b 64 (four [] k) 2 wo HA.out).mono ?_
        rintro e w3 ⟨A3, n3, c3, rfl, hr3, hf3, hb3⟩
        rw [show Qp.all (four [] k) 2 = high k from rfl] at hr3
        obtain rfl : k = n3 := by have := hr3.len; rw [high_length] at this; exact this
        have R3 := Lib.hid hr3
        have F3 := Lib.hid (hf3.mono (show b + 1 ≤ wo.heap.size from HA.out.lt))
        have HA3 := Lib.hid (HA.out.step hb3)
        have HB3 := Lib.hid (HB.out.trans (hb3.mono HB.out.size))
        clear hr3 hf3 hb3 HA HB
        go_wp2_with fail
        go_loopw [10] (fun i wr => ∃ (j : Nat) (l1 : List Int), j ≤ m ∧ j ≤ 200 ∧ i = .int .i64 j ∧ Hid (Low l1) ∧ Hid (Ar wr b 64 (four l1 k)) ∧ Hid (Below w.heap.size w wr) ∧ Hid (Row wr A3 k c3 (high k))) (fun i _ => 200 - (intOf i).toNat)
        case atStart => exact ⟨0, [], Nat.zero_le _, Nat.zero_le _, rfl, Lib.hid (fun x hx => by cases hx), HA3, HB3, R3⟩
        case round =>
          obtain ⟨j, l1, hj, hj2, rfl, HL, HA4, HB4, R4⟩ := hrel
          by_cases hjm : j < m
          · by_cases hj200 : j < 200
            · obtain ⟨x, hx⟩ : ∃ x, ds[j]? = some x := ⟨_, List.getElem?_eq_getElem (by have := hm.out; omega)⟩
              obtain ⟨kd, li, gg⟩ := x
              obtain ⟨b', off, hDD, hlt', hc0, hc1, hc2⟩ := HD.out j _ hx
              subst hDD
              have c0 := (HB4.out.cell (p := ⟨b', off + j * 3, none⟩) hlt').trans hc0
              have c1 := (HB4.out.cell (p := ⟨b', off + j * 3 + 1, none⟩) hlt').trans hc1
              have c2 := (HB4.out.cell (p := ⟨b', off + j * 3 + 2, none⟩) hlt').trans hc2
              simp only at c0 c1 c2
              obtain ⟨r, hr⟩ : ∃ r, gg.tmod 30 = r := ⟨_, rfl⟩
              have r0 : -29 ≤ r ∧ r ≤ 29 := by rw [← hr]; exact tmod_30 gg
              obtain ⟨r1, r2⟩ := r0
              obtain ⟨s, hs⟩ : ∃ s, (r + 30) % 30 = s := ⟨_, rfl⟩
              have s1 : 0 ≤ s := by omega
              have s2 : s ≤ 29 := by omega
              have hs' : (r + 30).tmod 30 = s := by rw [← hs]; exact Int.tmod_eq_emod_of_nonneg (by omega)
              have hblt := HA4.out.lt
              clear hc0 hc1 hc2 hx
              obtain ⟨W, hW⟩ : ∃ W, W = wr.alloc (.cells #[.int .i64 kd, .int .i64 li, .int .i64 gg] 34) := ⟨_, rfl⟩
              have hbn := below_new wr (.cells #[.int .i64 kd, .int .i64 li, .int .i64 gg] 34)
              rw [← hW] at hbn
              have HA5 := Lib.hid (HA4.out.step hbn)
              have HB5 := Lib.hid (HB4.out.trans (hbn.mono HB4.out.size))
              have R5 := Lib.hid (R4.out.step hbn)
              have E5 := Lib.hid hW
              clear hW hbn
              by_cases k1 : kd = 1
              · subst k1
                obtain ⟨l2, hp, hl2'⟩ := pop_low (k := k) HL.out
                have HP := Lib.hid hp
                clear hp
                go_wp2_with fail
                rw [← E5.out]
                clear E5
                refine (pop_any b 64 (four l1 k) 1 W HA5.out).mono ?_
                rintro e w6 ⟨rfl, hA, hg⟩
                rw [HP.out] at hA
                have HA6 := Lib.hid hA
                have HB6 := Lib.hid (below_turned HB5.out hg HB5.out.size hwb)
                have R6 := Lib.hid (R5.out.turned F3.out hg)
                have HL6 := Lib.hid hl2'
                clear hA hg c0 c1 c2 hr hs hs'
                go_wp2_with fail
                go_roundw
                case rel => exact ⟨j + 1, l2, by omega, by omega, by go_num, HL6, HA6, HB6, R6⟩
                case measure => simp [intOf]; omega
              · have k1' : (kd == 1) = false := by rw [beq_eq_false_iff_ne]; exact k1
                by_cases k0 : kd = 0
                · subst k0
                  obtain ⟨l2, e2, hp, hl2'⟩ := push_low (k := k) (g := 1 + s) HL.out (by omega) (by omega)
                  have HP := Lib.hid hp
                  clear hp
                  go_wp2_with fail
                  rw [← E5.out]
                  clear E5
                  refine (push_any b 64 (four l1 k) 1 (1 + s) W HA5.out).mono ?_
                  rintro e w6 ⟨rfl, hA, hg⟩
                  rw [HP.out] at hA
                  have HA6 := Lib.hid hA
                  have HB6 := Lib.hid (below_turned HB5.out hg HB5.out.size hwb)
                  have R6 := Lib.hid (R5.out.turned F3.out hg)
                  have HL6 := Lib.hid hl2'
                  clear hA hg c0 c1 c2 hr hs hs'
                  go_wp2_with fail
                  go_roundw
                  case rel => exact ⟨j + 1, l2, by omega, by omega, by go_num, HL6, HA6, HB6, R6⟩
                  case measure => simp [intOf]; omega
                · have k0' : (kd == 0) = false := by rw [beq_eq_false_iff_ne]; exact k0
                  obtain ⟨hp, hl2'⟩ := drop_low (k := k) (g := 1 + s) HL.out (by omega)
                  obtain ⟨l2, hl2e⟩ : ∃ l2, l2 = Qp.but (1 + s) l1 := ⟨_, rfl⟩
                  rw [← hl2e] at hp hl2'
                  have HP := Lib.hid hp
                  clear hp hl2e
                  go_wp2_with fail
                  rw [← E5.out]
                  clear E5
                  refine (drop_any b 64 (four l1 k) (1 + s) W HA5.out).mono ?_
                  rintro e w6 ⟨rfl, hA, hg⟩
                  rw [HP.out] at hA
                  have HA6 := Lib.hid hA
                  have HB6 := Lib.hid (below_turned HB5.out hg HB5.out.size hwb)
                  have R6 := Lib.hid (R5.out.turned F3.out hg)
                  have HL6 := Lib.hid hl2'
                  clear hA hg c0 c1 c2 hr hs hs'
                  go_wp2_with fail
                  go_roundw
                  case rel => exact ⟨j + 1, l2, by omega, by omega, by go_num, HL6, HA6, HB6, R6⟩
                  case measure => simp [intOf]; omega
            · obtain rfl : j = 200 := by omega
              go_wp2_with fail
              refine (all_row b 64 _ 2 wr HA4.out).mono ?_
              rintro e w7 ⟨A7, n7, c7, rfl, hr7, hf7, hb7⟩
              have HA7 := Lib.hid (HA4.out.step hb7)
              have HB7 := Lib.hid (HB4.out.trans (hb7.mono HB4.out.size))
              have R7 := Lib.hid (R4.out.step hb7)
              have Q7 := Lib.hid hr7
              clear hr7 hf7 hb7 hj2
              go_wp2_with fail
              refine (ints_row _ _ _ _ _ _ _ _ w7 (by rfl) Q7.out R7.out).mono ?_
              rintro e w8 ⟨rfl, hb8⟩
              have HA8 := Lib.hid (HA7.out.step hb8)
              have HB8 := Lib.hid (HB7.out.trans (hb8.mono HB7.out.size))
              clear hb8
              go_wp2_with fail
              refine (len_any b 64 _ 0 w8 HA8.out).mono ?_
              rintro e w9 ⟨rfl, hb9⟩
              have HB9 := Lib.hid (HB8.out.trans (hb9.mono HB8.out.size))
              clear hb9
              rw [show ∀ l1, Qp.all (four l1 k) 0 = [] from fun _ => rfl]
              go_wp2_with fail
              go_ret
              exact ⟨rfl, HB9.out⟩
          · obtain rfl : j = m := by omega
            go_wp2_with fail
            refine (all_row b 64 _ 2 wr HA4.out).mono ?_
            rintro e w7 ⟨A7, n7, c7, rfl, hr7, hf7, hb7⟩
            have HA7 := Lib.hid (HA4.out.step hb7)
            have HB7 := Lib.hid (HB4.out.trans (hb7.mono HB4.out.size))
            have R7 := Lib.hid (R4.out.step hb7)
            have Q7 := Lib.hid hr7
            clear hr7 hf7 hb7 hj2
            go_wp2_with fail
            refine (ints_row _ _ _ _ _ _ _ _ w7 (by rfl) Q7.out R7.out).mono ?_
            rintro e w8 ⟨rfl, hb8⟩
            have HA8 := Lib.hid (HA7.out.step hb8)
            have HB8 := Lib.hid (HB7.out.trans (hb8.mono HB7.out.size))
            clear hb8
            go_wp2_with fail
            refine (len_any b 64 _ 0 w8 HA8.out).mono ?_
            rintro e w9 ⟨rfl, hb9⟩
            have HB9 := Lib.hid (HB8.out.trans (hb9.mono HB8.out.size))
            clear hb9
            rw [show ∀ l1, Qp.all (four l1 k) 0 = [] from fun _ => rfl]
            go_wp2_with fail
            go_ret
            exact ⟨rfl, HB9.out⟩
set_option maxRecDepth 100000 in
theorem lifted (os : Os) (started : os.Started) (H : Type) (enc : TypeId × Value → H) :
    ReturnsInHanded {} Try.checked os 7 .any (Rows.fifoPartsSpec.pre6 enc Try.prog Try.f7 Rows.fifoPartsRow.domain false) (Rows.fifoPartsSpec.post enc Try.prog Try.f7 false true false false) := by
  refine returnsInHanded_of_change (C := Try.checked) own started (by kernel_rfl) Try.func7
    (ChangeSpec.witness6 (enc := enc) (C := Try.checked) false ⟨#[], #[.slice none 0 0, .slice none 0 0], []⟩ 8 (by kernel_rfl) (by kernel_rfl) (by kernel_rfl) (by kernel_rfl)) ?_
  intro W base args ds gs before hval0 hW hcnd _
  have hval : ∀ (j : Nat) t v, Try.f7.params[j]? = some t → args[j]? = some v → Value.okWide Try.prog W .any base t v := hval0
  have hW' := hW
  obtain ⟨p, q, hA0, hV, rfl, hfz, hnd⟩ := hW
  have hA : DataW.TrodAll enc Try.prog W 0 (fun _ => true) true Try.f7.params.toList args.toList ds p := hA0
  rw [Try.params7] at hA hval
  obtain ⟨v0, vs0, d0, ds0, p0, q0, hargs, rfl, rfl, h0, r0⟩ := trodAll_cons hA
  obtain ⟨v1, vs1, d1, ds1, p1, q1, rfl, rfl, rfl, h1, r1⟩ := trodAll_cons r0
  obtain ⟨rfl, rfl, rfl⟩ := trodAll_nil r1
  obtain rfl : args = #[v0, v1] := by cases args; simp_all
  obtain ⟨rfl, rfl⟩ := trodVars_none hV
  have k0 := h0
  have lt0 : ∀ x ∈ p0, x.block < W.heap.size := by obtain ⟨m, hm⟩ := k0; exact DataW.trod_lt m _ _ _ hm
  obtain ⟨a0, len0, cap0, rfl⟩ := okWide_slice Try.underlying51 (hval 0 51 v0 rfl rfl)
  obtain ⟨aa0, ll0, cc0, z0, ev0, hn0, hr0⟩ : ∃ A n c zs, Value.slice a0 len0 cap0 = .slice A n c ∧ (zs.length = n ∧ n ≤ 9223372036854775807) ∧ BRow W A zs := by
    obtain ⟨fuel, hf⟩ := h0
    exact open_bytes (by simpa [Value.cells] using hf)
  injection ev0 with ea0 eb0 ec0
  subst ea0 eb0 ec0
  have k1 := h1
  have lt1 : ∀ x ∈ p1, x.block < W.heap.size := by obtain ⟨m, hm⟩ := k1; exact DataW.trod_lt m _ _ _ hm
  obtain ⟨a1, len1, cap1, rfl⟩ := okWide_slice Try.underlying22 (hval 1 22 v1 rfl rfl)
  obtain ⟨aa1, ll1, cc1, z1, ev1, hn1, hr1⟩ : ∃ A n c zs, Value.slice a1 len1 cap1 = .slice A n c ∧ (zs.length = n ∧ n ≤ 9223372036854775807) ∧ Fit3 zs ∧ DRow W A zs := by
    obtain ⟨fuel, hf⟩ := h1
    exact open_deeds (by simpa [Value.cells] using hf)
  injection ev1 with ea1 eb1 ec1
  subst ea1 eb1 ec1
  clear hA0 hval0
  refine (walk a0 len0 cap0 z0 a1 len1 cap1 z1 W (Lib.hid hn0.1) hn0.2 hr0 (Lib.hid hn1.1) hn1.2 (Lib.hid hr1.1) hr1.2).mono fun e W' ⟨he, bel⟩ => ?_
  subst he
  exact ⟨_, rfl, _, _, _, [], _, [], hW', trodAll_mk1 (shut_bool Try.underlying4 _), (trodAll_cons_mk (Below.trod laidOut (by kernel_rfl) (of_decide_eq_true (by kernel_rfl)) k0 bel lt0) (trodAll_cons_mk (Below.trod laidOut (by kernel_rfl) (of_decide_eq_true (by kernel_rfl)) k1 bel lt1) trodAll_mk0)), rfl, bel.frame _, fun h => by cases h⟩
theorem over : Rows.fifoPartsRow.holds Try.pinned (OpenSpec.ofChange Rows.fifoPartsSpec) :=
  OpenClaim.holds_of_wide 7 Try.f7 rfl rfl rfl rfl rfl rfl rfl ⟨rfl, rfl, rfl, rfl, rfl⟩ rfl rfl rfl rfl rfl (by kernel_rfl) Try.func7 (by kernel_rfl)
    (of_decide_eq_true (by kernel_rfl)) (by unfold Func.isWrapper; first | (rw [if_pos (by decide +kernel)]; kernel_rfl) | (rw [if_neg (by decide +kernel)]; exact ⟨rfl, rfl⟩))
    (fun os started H enc _ => lifted os started H enc)
theorem proved : Rows.FifoPartsSaid := over
end Go.Proofs.Ythljecllmdbbbaa.fifoParts

