/- text.Parse comes to a plain function of the bytes. -/
import Derived.Test.YtdhcnmcfgicbjaaTGoes
import Derived.Test.YtdhcnmcfgicbjaaVx
import Derived.Lib.OthersKept
namespace Go.Proofs.Ytdhcnmcfgicbjaa
open Go.RowKit
set_option linter.unusedVariables false

/-- What a call leaves that has parsed: the vertices in new memory, the place, the error; all else as it was. -/
def Parsed (w0 : World) (r : List (Int × Int) × Nat × Int) (e : Ending) (w' : World) : Prop :=
  ∃ A c, e = .returned (.tuple #[.slice A r.1.length c, .int .i64 r.2.1, .int .i64 r.2.2]) ∧ VRow w' w'.heap.size A r.1 ∧ Below w0.heap.size w0 w'
theorem VRow.nil (w : World) (B : Nat) (A : Option Addr) : VRow w B A [] := fun i x h => by simp at h
/-- An int that is no more than 64. -/
def capI (z : Int) : Int := if z ≤ 64 then z else 64
/-- What holds of the memory at each place of the text. -/
structure Here (w0 : World) (s : ByteArray) (pos : Nat) (vs : List (Int × Int)) (ab : Nat → Int) (t : Value) (wr : World) : Prop where
  ab : ∀ j, j < 4 → wr.cell? ⟨w0.heap.size, j, none⟩ = some (.int .i64 (capI (ab j))) ∧ wr.frozen? ⟨w0.heap.size, j, none⟩ = false
  iter : wr.heap[w0.heap.size + 1]? = some (.stringIter s pos)
  own : wr.ownsRow (w0.heap.size + 2) 42 2 t (vs.take 65).length (vcells (vs.take 65))
  below : Below w0.heap.size w0 wr
  size : w0.heap.size + 2 ≤ wr.heap.size
theorem here0 (w : World) (s : ByteArray) : Here w s 0 [] Tx.st0.ab (.slice none 0 0) ((w.alloc (.cells #[.int .i64 (-1), .int .i64 0, .int .i64 0, .int .i64 0] 45)).iter s 0) := by
  refine ⟨?_, ?_, World.ownsRow_nil _ _ _ _, ((Below.refl _ _).alloc (Nat.le_refl _) _).alloc (by simp) _, by simp [World.iter]⟩
  · intro j hj
    have e : ∀ p : Addr, p.block = w.heap.size → (((w.alloc (.cells #[.int .i64 (-1), .int .i64 0, .int .i64 0, .int .i64 0] 45)).iter s 0).cell? p = (w.alloc (.cells #[.int .i64 (-1), .int .i64 0, .int .i64 0, .int .i64 0] 45)).cell? p) ∧ (((w.alloc (.cells #[.int .i64 (-1), .int .i64 0, .int .i64 0, .int .i64 0] 45)).iter s 0).frozen? p = (w.alloc (.cells #[.int .i64 (-1), .int .i64 0, .int .i64 0, .int .i64 0] 45)).frozen? p) := by
      intro p hp
      have h := (Below.refl (w.heap.size + 1) (w.alloc (.cells #[.int .i64 (-1), .int .i64 0, .int .i64 0, .int .i64 0] 45))).alloc (by simp) (.stringIter s 0)
      exact ⟨h.cell (by omega), h.frozen (by omega)⟩
    rw [(e _ rfl).1, (e _ rfl).2]
    refine ⟨?_, ?_⟩
    · rw [World.cell?_alloc_at _ _ _ _ rfl]
      rcases (show j = 0 ∨ j = 1 ∨ j = 2 ∨ j = 3 by omega) with rfl | rfl | rfl | rfl <;> rfl
    · rw [World.frozen?_alloc_at _ _ _ _ rfl]
  · have := World.iter_heap (w.alloc (.cells #[.int .i64 (-1), .int .i64 0, .int .i64 0, .int .i64 0] 45)) s 0
    simpa using this
theorem own_iterAt {w : World} {base n k : Nat} {e : TypeId} {size : Nat} {v : Value} {xs : List Value} (h : w.ownsRow base e size v n xs) (hk : k < base) (s : ByteArray) (pos : Nat) : (w.iterAt k s pos).ownsRow base e size v n xs := by
  refine ⟨h.1, ?_⟩
  rcases h.2 with h2 | ⟨g, cap, cur, hv, hbg, hg, rest⟩
  · exact .inl h2
  · exact .inr ⟨g, cap, cur, hv, hbg, (Lib.iterAt_other w k g s pos (by omega)).trans hg, rest⟩
theorem Here.next {w0 : World} {s : ByteArray} {pos : Nat} {vs : List (Int × Int)} {ab : Nat → Int} {t : Value} {wr : World} (h : Here w0 s pos vs ab t wr) (pos' : Nat) : Here w0 s pos' vs ab t (wr.iterAt (w0.heap.size + 1) s pos') := by
  have hb := Lib.below_iterAt (Below.refl (w0.heap.size + 1) wr) (k := w0.heap.size + 1) (Nat.le_refl _) s pos'
  refine ⟨fun j hj => ?_, Lib.iterAt_heap _ _ _ _ _ h.iter, own_iterAt h.own (by omega) _ _, Lib.below_iterAt h.below (by omega) _ _, by rw [Lib.iterAt_size]; exact h.size⟩
  rw [hb.cell (by simp), hb.frozen (by simp)]
  exact h.ab j hj
theorem Here.pos {w0 : World} {s : ByteArray} {pos : Nat} {vs : List (Int × Int)} {ab : Nat → Int} {t : Value} {wr : World} (h : Here w0 s pos vs ab t wr) : wr.iterPos (w0.heap.size + 1) = pos := by
  unfold World.iterPos; rw [h.iter]
theorem Here.push {w0 : World} {s : ByteArray} {pos : Nat} {vs : List (Int × Int)} {ab : Nat → Int} {t : Value} {wr : World} (h : Here w0 s pos vs ab t wr) (l : Nat) (hl : l < 4) (z : Int) :
    Here w0 s pos vs (fun j => if j = l then z else ab j) t (wr.setCell ⟨w0.heap.size, l, none⟩ (.int .i64 (capI z))) := by
  refine ⟨fun j hj => ?_, ?_, ownsRow_setCell_below h.own (by simp) _, h.below.setCell (Nat.le_refl _) _, by simp [World.setCell]; exact h.size⟩
  · by_cases e : j = l
    · subst e
      simp only [if_true]
      exact ⟨World.cell?_setCell_same' _ _ _ (by rw [(h.ab j hj).1]; rfl), by rw [World.frozen?_setCell]; exact (h.ab j hj).2⟩
    · simp only [if_neg e]
      exact ⟨(World.cell?_setCell_other _ _ _ _ (fun h => by injection h with _ h; exact e h.symm)).trans (h.ab j hj).1, by rw [World.frozen?_setCell]; exact (h.ab j hj).2⟩
  · rw [Below.heap_setCell _ _ _ _ (by simp)]; exact h.iter
theorem Here.grown {w0 : World} {s : ByteArray} {pos : Nat} {vs : List (Int × Int)} {ab : Nat → Int} {t t' : Value} {wr w2 : World} {p l : Int} (h : Here w0 s pos vs ab t wr) (e : vs.take 65 = vs) (h64 : vs.length ≤ 64)
    (hr : ∀ k, t.ownBlock = some k → w0.heap.size + 2 ≤ k) (hg : (wr.alloc (.cells #[.int .i64 p, .int .i64 l] 42)).grownBy w2 t.ownBlock) (ho : w2.ownsRow (w0.heap.size + 2) 42 2 t' (vs.length + 1) (vcells vs ++ vcells [(p, l)])) :
    Here w0 s pos (vs ++ [(p, l)]) ab t' w2 := by
  have hs := h.size
  have hb : Below (w0.heap.size + 2) wr w2 := ((Below.refl _ wr).alloc h.size _).grown hg (by simp; omega) hr
  refine ⟨fun j hj => ?_, ?_, ?_, h.below.trans (hb.mono (by omega)), Nat.le_trans h.size hb.size⟩
  · rw [hb.cell (by simp), hb.frozen (by simp)]
    exact h.ab j hj
  · rw [hb.block _ (by omega)]; exact h.iter
  · have e2 : (vs ++ [(p, l)]).take 65 = vs ++ [(p, l)] := List.take_of_length_le (by simp; omega)
    rw [e2, vcells_append, List.length_append]
    exact ho
/-- What holds of what has been read, at each place of the text. -/
structure SoFar (l : List UInt8) (σ : Tx.St) (pos : Nat) : Prop where
  run : Tx.run Tx.st0 l = Tx.run σ (l.drop pos)
  inv : Tx.Inv σ
  ab : ∀ j, -1 ≤ σ.ab j ∧ σ.ab j ≤ σ.vs.length
  vs : ∀ (i : Nat) (x : Int × Int), σ.vs[i]? = some x → -1 ≤ x.1 ∧ x.1 ≤ i ∧ 0 ≤ x.2 ∧ x.2 ≤ 3
theorem good0 (l : List UInt8) : SoFar l Tx.st0 0 := by
  refine ⟨by rw [List.drop_zero], Tx.inv0, fun j => ?_, fun i x h => by simp [Tx.st0] at h⟩
  unfold Tx.st0
  simp only
  split <;> simp
theorem SoFar.next {l : List UInt8} {σ : Tx.St} {pos : Nat} (h : SoFar l σ pos) {c : UInt8} {r : List UInt8} (hd : l.drop pos = c :: r) (hg : Tx.goes σ.q c σ.lv = true) : SoFar l (Tx.adv σ c) (pos + 1) := by
  refine ⟨?_, h.inv.adv hg, ?_, ?_⟩
  · rw [h.run, hd, Tx.run_yes hg]
    congr 1
    rw [← List.drop_drop, hd]; rfl
  · intro j
    have h1 := h.ab j
    unfold Tx.adv
    split
    · simp only
      split <;> omega
    · split
      · exact h1
      · simp only [List.length_append, List.length_singleton]; omega
  · intro i x hx
    have h2 := h.ab σ.lv
    have h3 := h.inv.le
    unfold Tx.adv at hx
    split at hx
    · exact h.vs i x hx
    · split at hx
      · exact h.vs i x hx
      · simp only at hx
        by_cases hi : i < σ.vs.length
        · rw [List.getElem?_append_left hi] at hx; exact h.vs i x hx
        · rw [List.getElem?_append_right (by omega)] at hx
          have e : i - σ.vs.length = 0 := by
            have := (List.getElem?_eq_some_iff.1 hx).1
            simp at this; omega
          rw [e] at hx
          injection hx with hx
          subst hx
          simp only
          omega
theorem SoFar.fit {l : List UInt8} {σ : Tx.St} {pos : Nat} (h : SoFar l σ pos) : Fit (σ.vs.take 65) := by
  intro x hx
  obtain ⟨i, hi⟩ := List.mem_iff_getElem?.1 hx
  have hl := (List.getElem?_eq_some_iff.1 hi).1
  rw [List.length_take] at hl
  rw [List.getElem?_take] at hi
  split at hi
  · have := h.vs i x hi
    exact ⟨⟨by omega, by omega⟩, ⟨by omega, by omega⟩⟩
  · cases hi
theorem SoFar.cap {l : List UInt8} {σ : Tx.St} {pos : Nat} (h : SoFar l σ pos) (hl : σ.vs.length ≤ 64) (j : Nat) : capI (σ.ab j) = σ.ab j := by
  have := h.ab j
  exact if_pos (by omega)
theorem may_cut (vs : List (Int × Int)) : Tp.may (vs.take 65) = Tp.may vs := by
  by_cases h : vs.length ≤ 64
  · rw [List.take_of_length_le (by omega)]
  · have h1 : Tp.may vs = false := Tp.may_long (by omega)
    have h2 : Tp.may (vs.take 65) = false := Tp.may_long (by rw [List.length_take]; omega)
    rw [h1, h2]
/-- Where it doesn't go on. -/
theorem SoFar.stuck {l : List UInt8} {σ : Tx.St} {pos : Nat} (h : SoFar l σ pos) {c : UInt8} {r : List UInt8} (hd : l.drop pos = c :: r) (hg : Tx.goes σ.q c σ.lv = false) : Tx.parse l = ([], pos, 2) := by
  have e := h.run
  rw [hd, Tx.run_no hg] at e
  rw [Tx.parse_stuck (by rw [e]; simp), e, ← hd, List.length_drop]
  have : pos ≤ l.length := by
    have := congrArg List.length hd
    rw [List.length_drop, List.length_cons] at this
    omega
  simp only [Prod.mk.injEq, true_and, and_true]
  omega
theorem SoFar.all {l : List UInt8} {σ : Tx.St} {pos : Nat} (h : SoFar l σ pos) (hp : l.length ≤ pos) : Tx.run Tx.st0 l = (σ, []) := by
  rw [h.run, List.drop_of_length_le hp]; rfl
theorem SoFar.no {l : List UInt8} {σ : Tx.St} {pos : Nat} (h : SoFar l σ pos) (hp : l.length ≤ pos) (hn : ¬ (σ.lv = 0 ∧ Tp.may σ.vs = true)) : Tx.parse l = ([], l.length, 2) := by
  unfold Tx.parse
  rw [h.all hp, if_neg (fun hh => hn hh.2)]; rfl
theorem SoFar.yes {l : List UInt8} {σ : Tx.St} {pos : Nat} (h : SoFar l σ pos) (hp : l.length ≤ pos) (hn : σ.lv = 0 ∧ Tp.may σ.vs = true) : Tx.parse l = (σ.vs, 0, 0) := by
  unfold Tx.parse
  rw [h.all hp, if_pos ⟨rfl, hn⟩]
theorem byte_at (s : ByteArray) (pos : Nat) (h : pos < s.size) : s.data.toList.drop pos = s[pos]'h :: s.data.toList.drop (pos + 1) := by
  rw [List.drop_eq_getElem_cons (by simpa using h)]; rfl

theorem Here.parsed {w0 : World} {s : ByteArray} {pos : Nat} {vs : List (Int × Int)} {ab : Nat → Int} {t : Value} {wr : World} (h : Here w0 s pos vs ab t wr) {r : List (Int × Int) × Nat × Int} (hr : r = ([], pos, 2)) :
    Parsed w0 r (.returned (.tuple #[.slice none 0 0, .int .i64 pos, .int .i64 2])) wr := by
  subst hr
  exact ⟨none, 0, rfl, VRow.nil _ _ _, h.below⟩
theorem SoFar.adv40 {l : List UInt8} {σ : Tx.St} {pos : Nat} (h : SoFar l (Tx.adv σ 40) pos) : SoFar l ⟨σ.vs, fun j => if j = σ.lv + 1 then (σ.vs.length : Int) - 1 else σ.ab j, σ.lv + 1, 40⟩ pos := h
theorem SoFar.adv41 {l : List UInt8} {σ : Tx.St} {pos : Nat} (h : SoFar l (Tx.adv σ 41) pos) : SoFar l ⟨σ.vs, σ.ab, σ.lv - 1, 41⟩ pos := h
theorem adv_other {σ : Tx.St} {c : UInt8} (h0 : c ≠ 40) (h1 : c ≠ 41) : Tx.adv σ c = ⟨σ.vs ++ [(σ.ab σ.lv, (σ.lv : Int))], σ.ab, σ.lv, c⟩ := by
  unfold Tx.adv; rw [if_neg h0, if_neg h1]
theorem byte_eq (a b : UInt8) : ((a.toNat : Int) == (b.toNat : Int)) = (a == b) := by
  rw [Bool.eq_iff_iff, beq_iff_eq, beq_iff_eq]
  constructor
  · intro h; exact UInt8.toNat_inj.1 (by omega)
  · intro h; rw [h]
theorem opens_lv {σ : Tx.St} (hi : Tx.Inv σ) (hg : Tx.goes σ.q 40 σ.lv = true) : σ.lv ≤ 2 ∧ 1 ≤ σ.vs.length ∨ σ.lv ≤ 2 := by
  refine .inr ?_
  rcases hi with h | h | h | h | h | h | h
  · omega
  · omega
  · omega
  · omega
  · rw [Tx.goes_opn (.inr h.1), beq_iff_eq] at hg
    exact absurd hg.symm (Tx.lt_no40 _)
  · rw [Tx.goes_whl (.inl h.1)] at hg
    simp only [Bool.and_eq_true, Bool.or_eq_true, beq_iff_eq] at hg
    rcases hg.2 with e | e
    · exact absurd e.symm (Tx.lt_no40 _)
    · exact absurd e (by decide)
  · omega
theorem shuts_lv {σ : Tx.St} (hi : Tx.Inv σ) (hg : Tx.goes σ.q 41 σ.lv = true) : 1 ≤ σ.lv := by
  unfold Tx.goes at hg
  split at hg
  · rw [beq_iff_eq] at hg; exact absurd hg.symm (Tx.lt_no41 _)
  · split at hg
    · cases hg
    · simp only [Bool.and_eq_true, decide_eq_true_eq] at hg; exact hg.1
theorem cap_len (vs : List (Int × Int)) : ((min 65 vs.length : Nat) : Int) - 1 = capI ((vs.length : Int) - 1) := by
  unfold capI
  split <;> omega

set_option maxHeartbeats 1600000 in
theorem parse_any (s : ByteArray) (w : World) (hs : s.size ≤ 9223372036854775807) :
    Calls Try.prog 10 #[.string s] w (Parsed w (Tx.parse s.data.toList)) := by
  obtain ⟨i0, hi, hz0, hz1, hz2⟩ := info_parts info_vx
  have hlen := Lib.hid (show s.data.toList.length = s.size from Array.length_toList)
  go_enter Try.func10, Try.ntmps10
  go_wp2_with fail
  go_loopw [5, 7, 8] (fun t lv q wr => ∃ (pos : Nat) (σ : Tx.St), pos ≤ s.size ∧ Hid (SoFar s.data.toList σ pos) ∧ Hid (Here w s pos σ.vs σ.ab t wr) ∧ lv = .int .i64 σ.lv ∧ q = .int .i32 σ.q.toNat)
    (fun _ _ _ wr => s.size - wr.iterPos (w.heap.size + 1))
  case atStart => exact ⟨0, Tx.st0, Nat.zero_le _, Lib.hid (good0 _), Lib.hid (here0 w s), rfl, rfl⟩
  case round =>
    obtain ⟨pos, σ, hpos, hG, hH, rfl, rfl⟩ := hrel
    have hle := hG.out.inv.le
    have hit := Lib.hid hH.out.iter
    by_cases hp : pos < s.size
    · obtain ⟨c, hc⟩ : ∃ c, s[pos]'hp = c := ⟨_, rfl⟩
      have hd := Lib.hid (byte_at s pos hp)
      rw [hc] at hd
      by_cases ha : c.toNat < 128
      · have hnx : ∀ ty, (Instr.next (.pointer (some ⟨w.heap.size + 1, 0, none⟩)) true ty).run Try.prog wr = .ok (.tuple #[.bool true, .int .i64 pos, .int .i32 (c.toNat : Int)]) (wr.iterAt (w.heap.size + 1) s (pos + 1)) := fun ty => by
          rw [Lib.run_next_ascii_at wr (w.heap.size + 1) s pos ty hit.out hp (by rw [hc]; exact ha), hc]
        have hH1 := Lib.hid (hH.out.next (pos + 1))
        have hG1 := Lib.hid (goI_byte σ.q c σ.lv)
        clear hc
        cases hg : Tx.goes σ.q c σ.lv
        · have HS := Lib.hid (hG.out.stuck hd.out hg)
          have HB := Lib.hid ((hH.out.next (pos + 1)).below)
          rw [hg] at hG1
          clear hg
          go_wp2_with fail
          refine (goesOn_any _ _ σ.lv hle _).mono ?_
          rintro e w' ⟨rfl, rfl⟩
          rw [hG1.out]
          go_wp2_with fail
          go_ret3
          exact ⟨none, 0, by rw [HS.out]; rfl, by rw [HS.out]; exact VRow.nil _ _ _, HB.out⟩
        · have HG := Lib.hid (hG.out.next hd.out hg)
          by_cases h40 : c = 40
          · subst h40
            have hl2 : σ.lv ≤ 2 := by rcases opens_lv hG.out.inv hg with h | h <;> omega
            have HH := Lib.hid (hH1.out.push (σ.lv + 1) (by omega) ((σ.vs.length : Int) - 1))
            have HC := Lib.hid (cap_len σ.vs)
            obtain ⟨hc1, hc2⟩ := hH1.out.ab (σ.lv + 1) (by omega)
            have hown := hH1.out.own
            have ht : ∃ A cc, u5 = .slice A (σ.vs.take 65).length cc := own_form hown
            obtain ⟨A, cc, rfl⟩ := ht
            have h65 : min 65 σ.vs.length ≤ 65 := by omega
            have hG1 : Hid (goI (σ.q.toNat : Int) 40 σ.lv = true) := Lib.hid ((goI_byte σ.q 40 σ.lv).trans hg)
            clear hg
            go_wp2_with fail
            refine (goesOn_any _ _ σ.lv hle _).mono ?_
            rintro e w' ⟨rfl, rfl⟩
            rw [hG1.out]
            clear hown
            go_wp2_with fail
            go_roundw
            case rel => exact ⟨pos + 1, ⟨σ.vs, fun j => if j = σ.lv + 1 then (σ.vs.length : Int) - 1 else σ.ab j, σ.lv + 1, 40⟩, by omega, Lib.hid HG.out.adv40, Lib.hid (by have := HH.out; rw [← HC.out, List.length_take] at this; exact this), by go_num, rfl⟩
            case measure =>
              have e1 := HH.out.pos
              rw [← HC.out] at e1
              rw [e1, hH.out.pos]
              omega
          · by_cases h41 : c = 41
            · subst h41
              have hl1 : 1 ≤ σ.lv := shuts_lv hG.out.inv hg
              have hG1 : Hid (goI (σ.q.toNat : Int) 41 σ.lv = true) := Lib.hid ((goI_byte σ.q 41 σ.lv).trans hg)
              clear hg
              go_wp2_with fail
              refine (goesOn_any _ _ σ.lv hle _).mono ?_
              rintro e w' ⟨rfl, rfl⟩
              rw [hG1.out]
              go_wp2_with fail
              go_roundw
              case rel => exact ⟨pos + 1, ⟨σ.vs, σ.ab, σ.lv - 1, 41⟩, by omega, Lib.hid HG.out.adv41, hH1, by go_num, rfl⟩
              case measure =>
                rw [hH1.out.pos, hH.out.pos]
                omega
            · rw [adv_other h40 h41] at HG
              have k40 : ((c.toNat : Int) == 40) = false := (byte_eq c 40).trans (beq_eq_false_iff_ne.2 h40)
              have k41 : ((c.toNat : Int) == 41) = false := (byte_eq c 41).trans (beq_eq_false_iff_ne.2 h41)
              rw [hg] at hG1
              obtain ⟨hc1, hc2⟩ := hH1.out.ab σ.lv (by omega)
              have hown := hH1.out.own
              obtain ⟨A, cc, rfl⟩ : ∃ A cc, u5 = .slice A (σ.vs.take 65).length cc := own_form hown
              have hsz := hH1.out.size
              clear hg h40 h41 hc2
              by_cases h64 : σ.vs.length ≤ 64
              · have e65 : σ.vs.take 65 = σ.vs := List.take_of_length_le (by omega)
                rw [e65] at hown
                rw [hG.out.cap h64] at hc1
                have hH2 : Hid (Here w s (pos + 1) σ.vs σ.ab (.slice A σ.vs.length cc) (wr.iterAt (w.heap.size + 1) s (pos + 1))) := Lib.hid (by have := hH1.out; rw [e65] at this; exact this)
                have E65 := Lib.hid e65
                rw [e65]
                clear e65
                go_wp2_with fail
                refine (goesOn_any _ _ σ.lv hle _).mono ?_
                rintro e w' ⟨rfl, rfl⟩
                rw [hG1.out]
                go_wp2_with (at_builtin; refine wpList_append_own _ rfl _ _ 22 rfl (w.heap.size + 2) 42 i0 (.agg #[.int .i64 0, .int .i64 0]) 2 16 Try.underlying22 hi hz0 hz1 hz2 rfl (by decide) _ _ _ rfl (hown.alloc _) ⟨(wr.iterAt (w.heap.size + 1) s (pos + 1)).heap.size, 0, none⟩ 1 1 (vcells [(σ.ab σ.lv, (σ.lv : Int))]) rfl rfl ?c1 ?c2 ?c3 ?c4 ?c5 ?_)
                case c1 => exact two_cells _ _ _ _
                case c2 => exact vcells_one' _
                case c3 => unfold maxLen; omega
                case c4 => omega
                case c5 => simp; omega
                intro v' w2 hown2 hgr _
                go_wp2_with fail
                go_roundw
                case rel =>
                  exact ⟨pos + 1, _, by omega, HG, Lib.hid (hH2.out.grown E65.out h64 (fun k hk => (hown.lt k hk).1) hgr hown2), rfl, rfl⟩
                case measure =>
                  have e1 := (hH2.out.grown E65.out h64 (fun k hk => (hown.lt k hk).1) hgr hown2).pos
                  rw [e1, hH.out.pos]
                  omega
              · have e65 : (σ.vs ++ [(σ.ab σ.lv, (σ.lv : Int))]).take 65 = σ.vs.take 65 := by rw [List.take_append_of_le_length (by omega)]
                have hm : min 65 σ.vs.length = 65 := by omega
                have hHN : Hid (Here w s (pos + 1) (σ.vs ++ [(σ.ab σ.lv, (σ.lv : Int))]) σ.ab (.slice A (σ.vs.take 65).length cc) (wr.iterAt (w.heap.size + 1) s (pos + 1))) := Lib.hid ⟨hH1.out.ab, hH1.out.iter, by rw [e65]; exact hH1.out.own, hH1.out.below, hH1.out.size⟩
                have hl65 : (σ.vs.take 65).length = 65 := by rw [List.length_take, hm]
                rw [hl65] at hHN
                rw [hl65]
                clear e65 hown hl65 hm hc1
                go_wp2_with fail
                refine (goesOn_any _ _ σ.lv hle _).mono ?_
                rintro e w' ⟨rfl, rfl⟩
                rw [hG1.out]
                go_wp2_with fail
                go_roundw
                case rel => exact ⟨pos + 1, _, by omega, HG, hHN, rfl, rfl⟩
                case measure =>
                  rw [hH1.out.pos, hH.out.pos]
                  omega
      · have hgo : ∀ q l, Tx.goes q c l = false := fun q l => Tx.odd_no (by
          have k : ∀ b : UInt8, b.toNat < 128 → (c != b) = true := fun b hb => by rw [bne_iff_ne]; intro e; rw [e] at ha; exact ha hb
          unfold Tx.odd
          rw [k 109 (by decide), k 110 (by decide), k 99 (by decide), k 112 (by decide), k 40 (by decide), k 41 (by decide)]; rfl) q l
        obtain ⟨hr1, hr2⟩ := decode_high s pos hp (by rw [hc]; omega)
        have hr3 := decode_le s pos
        obtain ⟨r, n, hrn⟩ : ∃ r n, Utf8.decode s pos = (r, n) := ⟨_, _, rfl⟩
        rw [hrn] at hr1 hr2 hr3
        have hnx : ∀ ty, (Instr.next (.pointer (some ⟨w.heap.size + 1, 0, none⟩)) true ty).run Try.prog wr = .ok (.tuple #[.bool true, .int .i64 pos, .int .i32 (r : Int)]) (wr.iterAt (w.heap.size + 1) s (pos + n)) := fun ty => by
          rw [Lib.run_next_any_at wr (w.heap.size + 1) s pos ty hit.out hp, hrn]
        have HS := Lib.hid (hG.out.stuck hd.out (hgo _ _))
        have HB := Lib.hid ((hH.out.next (pos + n)).below)
        have hG1 := Lib.hid (goI_high (σ.q.toNat : Int) (r : Int) σ.lv (by simp only at hr1; omega))
        clear hc hgo hrn hr1 hr2 hr3
        go_wp2_with fail
        refine (goesOn_any _ _ σ.lv hle _).mono ?_
        rintro e w' ⟨rfl, rfl⟩
        rw [hG1.out]
        go_wp2_with fail
        go_ret3
        exact ⟨none, 0, by rw [HS.out]; rfl, by rw [HS.out]; exact VRow.nil _ _ _, HB.out⟩
    · have hpe : s.data.toList.length ≤ pos := by rw [hlen.out]; omega
      have hnx : ∀ ty, (Instr.next (.pointer (some ⟨w.heap.size + 1, 0, none⟩)) true ty).run Try.prog wr = .ok (.tuple #[.bool false]) wr := fun ty => Lib.run_next_end_at wr (w.heap.size + 1) s pos ty hit.out hp
      by_cases h0 : σ.lv = 0
      · have hown := hH.out.own
        obtain ⟨A, cc, rfl⟩ : ∃ A cc, u5 = .slice A (σ.vs.take 65).length cc := own_form hown
        have hrow := VRow.of_own hown
        have hfit := Lib.hid hG.out.fit
        have hbe := hH.out.below
        have hb65 : (σ.vs.take 65).length ≤ 9223372036854775807 := by rw [List.length_take]; omega
        rw [h0]
        obtain ⟨n65, hn65⟩ : ∃ n65, (σ.vs.take 65).length = n65 := ⟨_, rfl⟩
        have HN := Lib.hid hn65
        rw [hn65] at hb65 ⊢
        cases hm : Tp.may σ.vs
        · have HS := Lib.hid (hG.out.no hpe (fun h => by rw [h.2] at hm; cases hm))
          have HM := Lib.hid (show Tp.errno (Tp.may (σ.vs.take 65)) = 2 by rw [may_cut, hm]; rfl)
          clear hm hown h0 hn65 hpe
          go_wp2_with fail
          refine (check_any A n65 cc (σ.vs.take 65) _ HN hb65 hfit hrow).mono ?_
          rintro e w' ⟨rfl, hb⟩
          rw [HM.out]
          go_wp2_with fail
          go_ret3
          exact ⟨none, 0, by rw [HS.out, hlen.out]; rfl, by rw [HS.out]; exact VRow.nil _ _ _, hbe.trans (hb.mono hbe.size)⟩
        · have HS := Lib.hid (hG.out.yes hpe ⟨h0, hm⟩)
          have HM := Lib.hid (show Tp.errno (Tp.may (σ.vs.take 65)) = 0 by rw [may_cut, hm]; rfl)
          have E65 := Lib.hid (show σ.vs.take 65 = σ.vs from List.take_of_length_le (by have := ((Tp.tree_iff _).1 hm).few; omega))
          clear hm hown h0 hn65 hpe
          go_wp2_with fail
          refine (check_any A n65 cc (σ.vs.take 65) _ HN hb65 hfit hrow).mono ?_
          rintro e w' ⟨rfl, hb⟩
          rw [HM.out]
          go_wp2_with fail
          go_ret3
          refine ⟨A, cc, ?_, ?_, hbe.trans (hb.mono hbe.size)⟩
          · rw [HS.out, ← HN.out, E65.out]; rfl
          · rw [HS.out]
            rw [E65.out] at hrow
            exact (hrow.below hb).more hb.size
      · have hn0 : ((σ.lv : Int) != 0) = true := by rw [bne_iff_ne]; omega
        have HS := Lib.hid (hG.out.no hpe (fun h => h0 h.1))
        have HB := Lib.hid hH.out.below
        clear h0 hpe
        go_wp2_with fail
        go_ret3
        exact ⟨none, 0, by rw [HS.out, hlen.out]; rfl, by rw [HS.out]; exact VRow.nil _ _ _, HB.out⟩
end Go.Proofs.Ytdhcnmcfgicbjaa

