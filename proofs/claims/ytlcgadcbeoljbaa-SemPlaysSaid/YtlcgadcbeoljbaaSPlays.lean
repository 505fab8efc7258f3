/- SemPlays: whatever is acquired and released, never more hold it than it counted; who waits is woken in turn: the call answers true and changes nothing that was there; for every input. -/
import Derived.Test.YtlcgadcbeoljbaaSCel
import Derived.Test.YtlcgadcbeoljbaaSMay
import Derived.Test.YtlcgadcbeoljbaaBFrame
import Derived.Test.YtlcgadcbeoljbaaSTail
namespace Go.Proofs.Ytlcgadcbeoljbaa.semPlays
open Go.ChangeShapes Go.WideShapes Go.ChangeAt Go.RowKit
set_option linter.unusedVariables false

/-- A semaphore as it is behind k deeds. -/
structure Good (v : Int) (l : List Int) (k : Nat) : Prop where
  may : Sp.May (v, l)
  few : v ≤ 4 + (k : Int)
  least : ∀ x ∈ l, x ≤ (k : Int)
  len : l.length ≤ k
theorem Good.start (r : Nat) (h : r < 5) : Good (r : Int) [] 0 := ⟨⟨by simp only; omega, by simp only; omega, .inr rfl, fun x hx => by simp at hx, by simp⟩, by omega, fun x hx => by simp at hx, Nat.le_refl _⟩
theorem Good.woke {v z : Int} {t : List Int} {k : Nat} (h : Good v (z :: t) k) : Good v t (k + 1) := by
  have hm := h.may.rel
  exact ⟨hm, by have := h.few; omega, fun x hx => by have := h.least x (List.mem_cons_of_mem _ hx); omega, by have := h.len; simp at this; omega⟩
theorem Good.more {v : Int} {k : Nat} (h : Good v [] k) (hk : k < 300) : Good (v + 1) [] (k + 1) := by
  obtain ⟨h0, h1, h2, h3⟩ := h.may
  have hf := h.few
  simp only at h0 h1
  exact ⟨⟨by simp only; omega, by simp only; omega, .inr rfl, h3⟩, by omega, fun x hx => by simp at hx, Nat.zero_le _⟩
theorem Good.less {v : Int} {l : List Int} {k : Nat} (h : Good v l k) (hv : 0 < v) : Good (v - 1) l (k + 1) := by
  obtain ⟨h0, h1, h2, h3⟩ := h.may
  have hf := h.few
  simp only at h0 h1 h2
  have e : l = [] := h2.elim (fun h => by omega) id
  exact ⟨⟨by simp only; omega, by simp only; omega, .inr e, h3⟩, by omega, fun x hx => by rw [e] at hx; simp at hx, by have := h.len; omega⟩
theorem Good.wait {v : Int} {l : List Int} {k : Nat} (h : Good v l k) (hv : ¬ 0 < v) : Good v (l ++ [(k : Int) + 1]) (k + 1) := by
  have hm := h.may.acq (g := (k : Int) + 1) (by omega) (fun hx => by have := h.least _ hx; omega)
  rw [show Sp.acq (v, l) ((k : Int) + 1) = ((v, l ++ [(k : Int) + 1]), false) by unfold Sp.acq; rw [if_neg hv]] at hm
  refine ⟨hm, by have := h.few; omega, fun x hx => ?_, by have := h.len; simp; omega⟩
  rcases List.mem_append.1 hx with h1 | h1
  · have := h.least x h1; omega
  · rw [List.mem_singleton] at h1; omega
set_option maxHeartbeats 4000000 in
set_option maxRecDepth 100000 in
theorem walk (z : Int) (A : Option Addr) (n c : Nat) (zs : List Int) (w : World) (hz : (Lit.int .u8 z).wf = true) (hlen : Hid (zs.length = n)) (hn : n ≤ 9223372036854775807) (hbr : BRow w A zs) :
    Calls Try.prog 3 #[.int .u8 z, .slice A n c] w fun e w' => e = .returned (.bool true) ∧ Below w.heap.size w w' := by
  have hz' : 0 ≤ z ∧ z ≤ 255 := by simpa [Lit.wf, IntKind.min, IntKind.max, IntKind.signed, IntKind.bits] using hz
  obtain ⟨u0, u1⟩ := hz'
  obtain ⟨r, m1, m2, hr⟩ := mod_nat 5 u0 (by omega)
  have m1 : z.tmod 5 = (r : Int) := m1
  have m2 : z % 5 = (r : Int) := m2
  clear hz
  go_enter Try.func3, Try.ntmps3
  go_wp2_with fail
  refine (shown_any _).mono ?_
  rintro e w1 ⟨rfl, hb1⟩
  have B1 := Lib.hid hb1
  clear hb1
  go_wp2_with fail
  have C1 := Lib.hid (Cel.new w1 (.int .i64 (r : Int)) (.slice none 0 0) 26)
  have L1 := Lib.hid (Bl.mk (B1.out.alloc B1.out.size (.cells #[.int .i64 (r : Int), .slice none 0 0] 26)))
  have hbw : w.heap.size ≤ w1.heap.size := B1.out.size
  generalize w1.heap.size = b at C1 hbw ⊢
  have R1 := Lib.hid (RI.mk C1.out (Row.nothing _))
  have T1 := Lib.hid (Tl.nothing (w1.alloc (.cells #[.int .i64 (r : Int), .slice none 0 0] 26)) (b + 1))
  have G1 := Lib.hid (Good.start r hr)
  have HD := Lib.hid hbr
  clear C1 hbr m1 m2 hr
  go_loopw [7, 8, 9] (fun f wt i wr => ∃ (k : Nat) (v : Int) (A1 : Option Addr) (m cc : Nat) (T : Option Addr) (ct : Nat) (l : List Int), k ≤ n ∧ k ≤ 300 ∧ i = .int .i64 (k : Int) ∧ f = .int .i64 v ∧ wt = .slice T m ct ∧ Hid (Good v l k) ∧ Hid (RI wr b v A1 m cc l) ∧ Hid (Tl wr (b + 1) T m ct l) ∧ Hid (Bl w wr)) (fun _ _ i _ => 300 - (intOf i).toNat)
  case atStart => exact ⟨0, _, none, 0, 0, none, 0, [], Nat.zero_le _, by omega, rfl, rfl, rfl, G1, R1, T1, L1⟩
  case round =>
    obtain ⟨k, v, A1, m, cc, T, ct, l, hk, hk3, rfl, rfl, rfl, HG, HR, HT, HB⟩ := hrel
    have d0 := HR.out.cel.c0
    have d1 := HR.out.cel.c1
    have hb0 : b < wr.heap.size := HR.out.cel.lt
    have hv1 : 0 ≤ v := HG.out.may.len.1
    have hv2 : v ≤ 4 + (k : Int) := HG.out.few
    by_cases hgo : k < n ∧ k < 300
    · obtain ⟨hkn, hk4⟩ := hgo
      have p1 : (k : Int) < (n : Int) := by omega
      have p2 : (k : Int) < 300 := by omega
      have p3 : (0 : Int) ≤ (k : Int) := by omega
      obtain ⟨y, hy⟩ : ∃ y, zs[k]? = some y := ⟨_, List.getElem?_eq_getElem (by have := hlen.out; omega)⟩
      obtain ⟨bd, od, rfl, hbd, hcd, y0, y1⟩ := HD.out k y hy
      have hcy := keepcell HB.out.b hcd
      obtain ⟨q, q1, q2, hq⟩ := mod_nat 2 y0 (by omega)
      have q1 : y.tmod 2 = (q : Int) := q1
      have q2 : y % 2 = (q : Int) := q2
      clear hy hcd
      by_cases hq0 : q = 0
      · subst hq0
        by_cases hm0 : m = 0
        · subst hm0
          obtain rfl : l = [] := List.length_eq_zero_iff.1 HR.out.row.len
          have HE := Lib.hid (show Sp.rel (v, []) = ((v + 1, []), 0) by unfold Sp.rel; simp only; rw [if_neg (by omega)])
          have HG2 := Lib.hid (HG.out.more hk4)
          have s1 : IntKind.i64.wrap (v + 1) = v + 1 := IntWalk.i64_in _ (by omega)
          clear HG
          go_wp2_with fail
          refine (rel_any v A1 0 cc [] _ HR.out.row (by omega) (by omega) (by omega)).mono ?_
          rintro e w2 ⟨A2, n2, c2, rfl, hr2, hf2, hb2⟩
          rw [HE.out] at hr2 ⊢
          obtain rfl : 0 = n2 := hr2.len
          have hb3 := below_then hb2 (.cells #[.int .i64 (v + 1), .slice A2 0 c2] 26)
          have C2 := HR.out.cel.step hb3
          have N2 := RI.new (y := (v + 1)) (l := []) 26 hr2
          have B2 := Lib.hid (HB.out.step hb3)
          have T2 := Lib.hid (HT.out.step hb3)
          have e0 := C2.c0
          have e1 := C2.c1
          have e2 := C2.f0
          have e3 := C2.f1
          have e4 := N2.cel.c0
          have e5 := N2.cel.c1
          have R4 := Lib.hid (RI.mk (C2.put (.int .i64 (v + 1)) (.slice A2 0 c2)) (N2.row.put (b := b) (u := .int .i64 (v + 1)) (v := .slice A2 0 c2) (hf2.mono hb0)))
          have B4 := Lib.hid (Bl.mk (below_put (b := b) (u := .int .i64 (v + 1)) (v := .slice A2 0 c2) B2.out.b hbw))
          have T4 := Lib.hid (T2.out.put (u := .int .i64 (v + 1)) (v := .slice A2 0 c2) (Nat.lt_succ_self b))
          clear hr2 hb2 hb3 HR HB HE C2 N2 B2 d0 d1
          clear hf2
          have f0 := R4.out.cel.c0
          have f1 := R4.out.cel.c1
          have t9 : ((v + 1) != (v + 1)) = false := by simp
          go_wp2_with fail
          refine (ints_row _ _ _ _ _ _ [] [] _ rfl R4.out.row T4.out.row).mono ?_
          rintro e w5 ⟨rfl, hb5⟩
          replace R4 := Lib.hid (R4.out.step hb5)
          replace T4 := Lib.hid (T4.out.step hb5)
          replace B4 := Lib.hid (B4.out.step hb5)
          clear e0 e1 e2 e3 e4 e5 f0 f1
          have f0 := R4.out.cel.c0
          have f1 := R4.out.cel.c1
          clear hb5
          go_wp2_with fail
          refine (may_any (v + 1) A2 0 c2 [] _ R4.out.row (by omega)).mono ?_
          rintro e w6 ⟨rfl, hb6⟩
          rw [decide_eq_true HG2.out.may]
          replace R4 := Lib.hid (R4.out.step hb6)
          replace T4 := Lib.hid (T4.out.step hb6)
          replace B4 := Lib.hid (B4.out.step hb6)
          clear f0 f1 hb6
          go_wp2_with fail
          go_roundw
          case rel => exact ⟨k + 1, (v + 1), A2, 0, c2, T, ct, [], by omega, by omega, by go_num, rfl, rfl, HG2, R4, T4, B4⟩
          case measure => simp [intOf]; omega
        · obtain ⟨z1, t, rfl⟩ : ∃ z1 t, l = z1 :: t := by
            cases l with
            | nil => exact absurd HR.out.row.len.symm hm0
            | cons z1 t => exact ⟨z1, t, rfl⟩
          have HE := Lib.hid (show Sp.rel (v, z1 :: t) = ((v, t), z1) from rfl)
          have HG2 := Lib.hid HG.out.woke
          have hlm : (z1 :: t).length = m := HR.out.row.len
          have hm1 : (0 : Int) < (m : Int) := by omega
          have hm2 : 0 < m := by omega
          have hm300 : m ≤ 300 := by have := HG.out.len; omega
          clear HG hlm
          go_wp2_with fail
          refine (rel_any v A1 m cc (z1 :: t) _ HR.out.row (by omega) (by omega) (by omega)).mono ?_
          rintro e w2 ⟨A2, n2, c2, rfl, hr2, hf2, hb2⟩
          rw [HE.out] at hr2 ⊢
          obtain ⟨g1, o1, rfl, hg1, hcs⟩ := HT.out.row.cells hm2
          have hb3 := below_then hb2 (.cells #[.int .i64 v, .slice A2 n2 c2] 26)
          have C2 := HR.out.cel.step hb3
          have N2 := RI.new (y := v) (l := t) 26 hr2
          have B2 := Lib.hid (HB.out.step hb3)
          have T2 := Lib.hid (HT.out.step hb3)
          have e0 := C2.c0
          have e1 := C2.c1
          have e2 := C2.f0
          have e3 := C2.f1
          have e4 := N2.cel.c0
          have e5 := N2.cel.c1
          have R4 := Lib.hid (RI.mk (C2.put (.int .i64 v) (.slice A2 n2 c2)) (N2.row.put (b := b) (u := .int .i64 v) (v := .slice A2 n2 c2) (hf2.mono hb0)))
          have B4 := Lib.hid (Bl.mk (below_put (b := b) (u := .int .i64 v) (v := .slice A2 n2 c2) B2.out.b hbw))
          have T4 := Lib.hid (T2.out.put (u := .int .i64 v) (v := .slice A2 n2 c2) (Nat.lt_succ_self b))
          clear hr2 hb2 hb3 HR HB HE C2 N2 B2 d0 d1
          obtain ⟨g9, o9, e9, _, hcs4⟩ := T4.out.row.cells hm2
          injection e9 with e9
          injection e9 with e91 e92
          subst e91 e92
          have hc4 := hcs4 0 z1 rfl
          rw [Nat.add_zero] at hc4
          have z2 : (z1 != z1) = false := by simp
          have hcap := T4.out.row.cap
          have hcm := T4.out.row.most
          have k1 : (1 : Int) ≤ (ct : Int) := by omega
          have k2 : (1 : Int) ≤ (m : Int) := by omega
          have k3 : 1 ≤ ct := by omega
          have k4 : (m : Int) ≤ (ct : Int) := by omega
          have T5 := T4.out.slice 1 hm2
          obtain rfl : m - 1 = n2 := by have h1 := R4.out.row.len; have h2 := T5.row.len; simp only [List.drop_succ_cons, List.drop_zero] at h2; omega
          clear hcs hcs4 hf2
          by_cases hct : ct = 1
          · subst hct
            rw [if_pos rfl] at T5
            obtain rfl : m = 1 := by omega
            have T4 := Lib.hid T5
            clear T5
            have f0 := R4.out.cel.c0
            have f1 := R4.out.cel.c1
            have t9 : (v != v) = false := by simp
            go_wp2_with fail
            refine (ints_row _ _ _ _ _ _ t t _ rfl R4.out.row T4.out.row).mono ?_
            rintro e w5 ⟨rfl, hb5⟩
            replace R4 := Lib.hid (R4.out.step hb5)
            replace T4 := Lib.hid (T4.out.step hb5)
            replace B4 := Lib.hid (B4.out.step hb5)
            clear e0 e1 e2 e3 e4 e5 f0 f1
            have f0 := R4.out.cel.c0
            have f1 := R4.out.cel.c1
            clear hb5
            go_wp2_with fail
            refine (may_any v A2 0 c2 t _ R4.out.row (by omega)).mono ?_
            rintro e w6 ⟨rfl, hb6⟩
            rw [decide_eq_true HG2.out.may]
            replace R4 := Lib.hid (R4.out.step hb6)
            replace T4 := Lib.hid (T4.out.step hb6)
            replace B4 := Lib.hid (B4.out.step hb6)
            clear f0 f1 hb6
            go_wp2_with fail
            go_roundw
            case rel => exact ⟨k + 1, v, A2, 0, c2, (some ⟨g1, o1, none⟩), 0, t, by omega, by omega, by go_num, rfl, rfl, HG2, R4, T4, B4⟩
            case measure => simp [intOf]; omega
          · rw [if_neg hct] at T5
            have T4 := Lib.hid T5
            clear T5
            have f0 := R4.out.cel.c0
            have f1 := R4.out.cel.c1
            have t9 : (v != v) = false := by simp
            go_wp2_with fail
            refine (ints_row _ _ _ _ _ _ t t _ rfl R4.out.row T4.out.row).mono ?_
            rintro e w5 ⟨rfl, hb5⟩
            replace R4 := Lib.hid (R4.out.step hb5)
            replace T4 := Lib.hid (T4.out.step hb5)
            replace B4 := Lib.hid (B4.out.step hb5)
            clear e0 e1 e2 e3 e4 e5 f0 f1
            have f0 := R4.out.cel.c0
            have f1 := R4.out.cel.c1
            clear hb5
            go_wp2_with fail
            refine (may_any v A2 (m - 1) c2 t _ R4.out.row (by omega)).mono ?_
            rintro e w6 ⟨rfl, hb6⟩
            rw [decide_eq_true HG2.out.may]
            replace R4 := Lib.hid (R4.out.step hb6)
            replace T4 := Lib.hid (T4.out.step hb6)
            replace B4 := Lib.hid (B4.out.step hb6)
            clear f0 f1 hb6
            go_wp2_with fail
            go_roundw
            case rel => exact ⟨k + 1, v, A2, (m - 1), c2, (some ⟨g1, o1 + 1, none⟩), (ct - 1), t, by omega, by omega, by go_num, rfl, rfl, HG2, R4, T4, B4⟩
            case measure => simp [intOf]; omega
      · obtain rfl : q = 1 := by omega
        have hml : l.length = m := HR.out.row.len
        have hm300 : m ≤ 300 := by have := HG.out.len; omega
        by_cases hv : 0 < v
        · have HE := Lib.hid (show Sp.acq (v, l) ((k : Int) + 1) = ((v - 1, l), true) by unfold Sp.acq; rw [if_pos hv])
          have HG2 := Lib.hid (HG.out.less hv)
          have s1 : IntKind.i64.wrap (v - 1) = v - 1 := IntWalk.i64_in _ (by omega)
          have t1 : decide (0 < v) = true := by simpa using hv
          clear HG
          go_wp2_with fail
          refine (acq_any v A1 m cc l ((k : Int) + 1) _ HR.out.row (by omega) (by omega) (by omega)).mono ?_
          rintro e w2 ⟨A2, n2, c2, rfl, hr2, hf2, hb2⟩
          rw [HE.out] at hr2 ⊢
          obtain rfl : m = n2 := by have h1 : l.length = n2 := hr2.len; omega
          have hb3 := below_then hb2 (.cells #[.int .i64 (v - 1), .slice A2 m c2] 26)
          have C2 := HR.out.cel.step hb3
          have N2 := RI.new (y := (v - 1)) (l := l) 26 hr2
          have B2 := Lib.hid (HB.out.step hb3)
          have T2 := Lib.hid (HT.out.step hb3)
          have e0 := C2.c0
          have e1 := C2.c1
          have e2 := C2.f0
          have e3 := C2.f1
          have e4 := N2.cel.c0
          have e5 := N2.cel.c1
          have R4 := Lib.hid (RI.mk (C2.put (.int .i64 (v - 1)) (.slice A2 m c2)) (N2.row.put (b := b) (u := .int .i64 (v - 1)) (v := .slice A2 m c2) (hf2.mono hb0)))
          have B4 := Lib.hid (Bl.mk (below_put (b := b) (u := .int .i64 (v - 1)) (v := .slice A2 m c2) B2.out.b hbw))
          have T4 := Lib.hid (T2.out.put (u := .int .i64 (v - 1)) (v := .slice A2 m c2) (Nat.lt_succ_self b))
          clear hr2 hb2 hb3 HR HB HE C2 N2 B2 d0 d1
          clear hf2 hml
          have f0 := R4.out.cel.c0
          have f1 := R4.out.cel.c1
          have t9 : ((v - 1) != (v - 1)) = false := by simp
          go_wp2_with fail
          refine (ints_row _ _ _ _ _ _ l l _ rfl R4.out.row T4.out.row).mono ?_
          rintro e w5 ⟨rfl, hb5⟩
          replace R4 := Lib.hid (R4.out.step hb5)
          replace T4 := Lib.hid (T4.out.step hb5)
          replace B4 := Lib.hid (B4.out.step hb5)
          clear e0 e1 e2 e3 e4 e5 f0 f1
          have f0 := R4.out.cel.c0
          have f1 := R4.out.cel.c1
          clear hb5
          go_wp2_with fail
          refine (may_any (v - 1) A2 m c2 l _ R4.out.row (by omega)).mono ?_
          rintro e w6 ⟨rfl, hb6⟩
          rw [decide_eq_true HG2.out.may]
          replace R4 := Lib.hid (R4.out.step hb6)
          replace T4 := Lib.hid (T4.out.step hb6)
          replace B4 := Lib.hid (B4.out.step hb6)
          clear f0 f1 hb6
          go_wp2_with fail
          go_roundw
          case rel => exact ⟨k + 1, (v - 1), A2, m, c2, T, ct, l, by omega, by omega, by go_num, rfl, rfl, HG2, R4, T4, B4⟩
          case measure => simp [intOf]; omega
        · have HE := Lib.hid (show Sp.acq (v, l) ((k : Int) + 1) = ((v, l ++ [(k : Int) + 1]), false) by unfold Sp.acq; rw [if_neg hv])
          have HG2 := Lib.hid (HG.out.wait hv)
          have t1 : decide (0 < v) = false := by simpa using hv
          clear HG
          go_wp2_with fail
          refine (acq_any v A1 m cc l ((k : Int) + 1) _ HR.out.row (by omega) (by omega) (by omega)).mono ?_
          rintro e w2 ⟨A2, n2, c2, rfl, hr2, hf2, hb2⟩
          rw [HE.out] at hr2 ⊢
          obtain rfl : m + 1 = n2 := by have h1 : (l ++ [(k : Int) + 1]).length = n2 := hr2.len; simp at h1; omega
          have HT0 := HT
          have hs2 : wr.heap.size ≤ w2.heap.size := hb2.size
          have hb3 := below_then hb2 (.cells #[.int .i64 v, .slice A2 (m + 1) c2] 26)
          have C2 := HR.out.cel.step hb3
          have N2 := RI.new (y := v) (l := (l ++ [(k : Int) + 1])) 26 hr2
          have B2 := Lib.hid (HB.out.step hb3)
          have T2 := Lib.hid (HT.out.step hb3)
          have e0 := C2.c0
          have e1 := C2.c1
          have e2 := C2.f0
          have e3 := C2.f1
          have e4 := N2.cel.c0
          have e5 := N2.cel.c1
          have R4 := Lib.hid (RI.mk (C2.put (.int .i64 v) (.slice A2 (m + 1) c2)) (N2.row.put (b := b) (u := .int .i64 v) (v := .slice A2 (m + 1) c2) (hf2.mono hb0)))
          have B4 := Lib.hid (Bl.mk (below_put (b := b) (u := .int .i64 v) (v := .slice A2 (m + 1) c2) B2.out.b hbw))
          have T4 := Lib.hid (T2.out.put (u := .int .i64 v) (v := .slice A2 (m + 1) c2) (Nat.lt_succ_self b))
          clear hr2 hb2 hb3 HR HB HE C2 N2 B2 d0 d1
          clear hml
          go_wp2_with (at_builtin; refine wpList_append_tl rfl _ _ rfl (b + 1) T m ct l ((k : Int) + 1) rfl ?c1 _ rfl ?c2 (by omega) ?c3 ?_)
          case c1 => exact T4.out.below (below_new _ _)
          case c2 => rw [World.cell?_alloc_at _ _ _ _ (by simp)]; rfl
          case c3 => simp; omega
          intro A5 c5 w5 foot hT5 hg5 hfoot
          have hft : ∀ x, foot = some x → b + 1 ≤ x ∧ x < wr.heap.size := fun x e => by
            obtain ⟨h1, off, h2⟩ := hfoot x e
            subst h2
            exact HT0.out.lt h1
          have R6 := R4.out.step (below_new _ (.cells #[.int .i64 ((k : Int) + 1)] 3))
          have B6 := B4.out.step (below_new _ (.cells #[.int .i64 ((k : Int) + 1)] 3))
          have R5 := Lib.hid (RI.mk (R6.cel.grown hg5 (fun x e => by have := (hft x e).1; omega)) (R6.row.grown hg5 (fun ad e1 e2 => by have h1 := (hft _ e2.symm).2; have h2 := hf2 ad e1; omega)))
          have B5 := Lib.hid (Bl.mk (B6.b.grown hg5 B6.b.size (fun x e => by have := (hft x e).1; omega)))
          clear R4 B4 T4 HT0 R6 B6 hg5 hfoot hft
          have R4 := R5
          have B4 := B5
          have T4 := Lib.hid hT5
          clear R5 B5 hT5 hf2
          have f0 := R4.out.cel.c0
          have f1 := R4.out.cel.c1
          have t9 : (v != v) = false := by simp
          go_wp2_with fail
          refine (ints_row _ _ _ _ _ _ (l ++ [(k : Int) + 1]) (l ++ [(k : Int) + 1]) _ rfl R4.out.row T4.out.row).mono ?_
          rintro e w5 ⟨rfl, hb5⟩
          replace R4 := Lib.hid (R4.out.step hb5)
          replace T4 := Lib.hid (T4.out.step hb5)
          replace B4 := Lib.hid (B4.out.step hb5)
          clear e0 e1 e2 e3 e4 e5 f0 f1
          have f0 := R4.out.cel.c0
          have f1 := R4.out.cel.c1
          clear hb5
          go_wp2_with fail
          refine (may_any v A2 (m + 1) c2 (l ++ [(k : Int) + 1]) _ R4.out.row (by omega)).mono ?_
          rintro e w6 ⟨rfl, hb6⟩
          rw [decide_eq_true HG2.out.may]
          replace R4 := Lib.hid (R4.out.step hb6)
          replace T4 := Lib.hid (T4.out.step hb6)
          replace B4 := Lib.hid (B4.out.step hb6)
          clear f0 f1 hb6
          go_wp2_with fail
          go_roundw
          case rel => exact ⟨k + 1, v, A2, (m + 1), c2, A5, c5, (l ++ [(k : Int) + 1]), by omega, by omega, by go_num, rfl, rfl, HG2, R4, T4, B4⟩
          case measure => simp [intOf]; omega
    · by_cases hkn : k < n
      · obtain rfl : k = 300 := by omega
        have p1 : ((300 : Nat) : Int) < (n : Int) := by omega
        have p2 : (300 : Int) < (n : Int) := by omega
        go_wp2_with fail
        go_ret
        exact ⟨rfl, HB.out.b⟩
      · have p1 : ¬ (k : Int) < (n : Int) := by omega
        have p2 : decide ((k : Int) < (n : Int)) = false := by simpa using p1
        go_wp2_with fail
        go_ret
        exact ⟨rfl, HB.out.b⟩
set_option maxRecDepth 100000 in
theorem lifted (os : Os) (started : os.Started) (H : Type) (enc : TypeId × Value → H) :
    ReturnsInHanded {} Try.checked os 3 .any (Rows.semPlaysSpec.pre6 enc Try.prog Try.f3 Rows.semPlaysRow.domain false) (Rows.semPlaysSpec.post enc Try.prog Try.f3 false true false false) := by
  refine returnsInHanded_of_change (C := Try.checked) own started (by kernel_rfl) Try.func3
    (ChangeSpec.witness6 (enc := enc) (C := Try.checked) false ⟨#[], #[.int .u8 0, .slice none 0 0], []⟩ 8 (by kernel_rfl) (by kernel_rfl) (by kernel_rfl) (by kernel_rfl)) ?_
  intro W base args ds gs before hval0 hW hcnd _
  have hval : ∀ (j : Nat) t v, Try.f3.params[j]? = some t → args[j]? = some v → Value.okWide Try.prog W .any base t v := hval0
  have hW' := hW
  obtain ⟨p, q, hA0, hV, rfl, hfz, hnd⟩ := hW
  have hA : DataW.TrodAll enc Try.prog W 0 (fun _ => true) true Try.f3.params.toList args.toList ds p := hA0
  rw [Try.params3] at hA hval
  obtain ⟨v0, vs0, d0, ds0, p0, q0, hargs, rfl, rfl, h0, r0⟩ := trodAll_cons hA
  obtain ⟨v1, vs1, d1, ds1, p1, q1, rfl, rfl, rfl, h1, r1⟩ := trodAll_cons r0
  obtain ⟨rfl, rfl, rfl⟩ := trodAll_nil r1
  obtain rfl : args = #[v0, v1] := by cases args; simp_all
  obtain ⟨rfl, rfl⟩ := trodVars_none hV
  obtain ⟨a0, rfl, rfl, rfl, w0⟩ := open_int Try.underlying5 (hval 0 5 v0 rfl rfl) h0
  have k1 := h1
  have lt1 : ∀ x ∈ p1, x.block < W.heap.size := by obtain ⟨m, hm⟩ := k1; exact DataW.trod_lt m _ _ _ hm
  obtain ⟨a1, len1, cap1, rfl⟩ := okWide_slice Try.underlying22 (hval 1 22 v1 rfl rfl)
  obtain ⟨aa1, ll1, cc1, z1, ev1, hn1, hr1⟩ : ∃ A n c zs, Value.slice a1 len1 cap1 = .slice A n c ∧ (zs.length = n ∧ n ≤ 9223372036854775807) ∧ BRow W A zs := by
    obtain ⟨fuel, hf⟩ := h1
    exact open_bytes (by simpa [Value.cells] using hf)
  injection ev1 with ea1 eb1 ec1
  subst ea1 eb1 ec1
  clear hA0 hval0
  refine (walk a0 a1 len1 cap1 z1 W w0 (Lib.hid hn1.1) hn1.2 hr1).mono fun e W' ⟨he, bel⟩ => ?_
  subst he
  exact ⟨_, rfl, _, _, _, [], _, [], hW', trodAll_mk1 (shut_bool Try.underlying4 _), (trodAll_cons_mk (shut_int Try.underlying5 w0) (trodAll_cons_mk (Below.trod laidOut (by kernel_rfl) (of_decide_eq_true (by kernel_rfl)) k1 bel lt1) trodAll_mk0)), rfl, bel.frame _, fun h => by cases h⟩
theorem over : Rows.semPlaysRow.holds Try.pinned (OpenSpec.ofChange Rows.semPlaysSpec) :=
  OpenClaim.holds_of_wide 3 Try.f3 rfl rfl rfl rfl rfl rfl rfl ⟨rfl, rfl, rfl, rfl, rfl⟩ rfl rfl rfl rfl rfl (by kernel_rfl) Try.func3 (by kernel_rfl)
    (of_decide_eq_true (by kernel_rfl)) (by unfold Func.isWrapper; first | (rw [if_pos (by decide +kernel)]; kernel_rfl) | (rw [if_neg (by decide +kernel)]; exact ⟨rfl, rfl⟩))
    (fun os started H enc _ => lifted os started H enc)
theorem proved : Rows.SemPlaysSaid := over
end Go.Proofs.Ytlcgadcbeoljbaa.semPlays

