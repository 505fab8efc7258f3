/- The document's queues: a list of lists in memory; which queue one stands in, and all of a queue, by their contracts. -/
import Derived.Test.YthljecllmdbbbaaQCel5
namespace Go.Proofs.Ythljecllmdbbbaa
open Go.RowKit
set_option linter.unusedVariables false

/-- The slices behind an address, each with its row; all of it in blocks of which P holds. -/
structure Rws (W : World) (P : Nat → Prop) (A : Option Addr) (n c : Nat) (q : List (List Int)) : Prop where
  len : q.length = n
  cap : n ≤ c
  most : c ≤ 9223372036854775807
  nil : A = none → c = 0
  row : ∀ i l, q[i]? = some l → ∃ b off Ai ci, A = some ⟨b, off, none⟩ ∧ b < W.heap.size ∧ P b ∧ W.cell? ⟨b, off + i, none⟩ = some (.slice Ai l.length ci) ∧ Row W Ai l.length ci l ∧ FromP P Ai l
theorem Rws.step {W W' : World} {P : Nat → Prop} {n c : Nat} {A : Option Addr} {q : List (List Int)} (h : Rws W P A n c q) (hb : Below W.heap.size W W') : Rws W' P A n c q :=
  ⟨h.len, h.cap, h.most, h.nil, fun i l hi => by
    obtain ⟨b, off, Ai, ci, e, hlt, hp, hc, hr, hf⟩ := h.row i l hi
    exact ⟨b, off, Ai, ci, e, Nat.lt_of_lt_of_le hlt hb.size, hp, keepcell hb hc, hr.below hb, hf⟩⟩
theorem Rws.turned {W W' : World} {P : Nat → Prop} {b n c : Nat} {A : Option Addr} {q : List (List Int)} (h : Rws W P A n c q) (hg : W.grownBy W' (some b)) (hb : ¬ P b) : Rws W' P A n c q :=
  ⟨h.len, h.cap, h.most, h.nil, fun i l hi => by
    obtain ⟨b', off, Ai, ci, e, hlt, hp, hc, hr, hf⟩ := h.row i l hi
    exact ⟨b', off, Ai, ci, e, Nat.lt_of_lt_of_le hlt hg.size, hp, (hg.cell_far ⟨b', off + i, none⟩ hlt (fun e => by injection e with e; simp only at e; subst e; exact hb hp)).trans hc, hr.turnedP hf hb hg, hf⟩⟩
theorem Rws.imp {W : World} {P P' : Nat → Prop} {n c : Nat} {A : Option Addr} {q : List (List Int)} (h : Rws W P A n c q) (hP : ∀ b, b < W.heap.size → P b → P' b) : Rws W P' A n c q :=
  ⟨h.len, h.cap, h.most, h.nil, fun i l hi => by
    obtain ⟨b', off, Ai, ci, e, hlt, hp, hc, hr, hf⟩ := h.row i l hi
    exact ⟨b', off, Ai, ci, e, hlt, hP _ hlt hp, hc, hr, hf.imp hr hP⟩⟩
theorem Rws.nothing (W : World) (P : Nat → Prop) : Rws W P none 0 0 [] := ⟨rfl, Nat.le_refl _, by omega, fun _ => rfl, fun i l h => by simp at h⟩
/-- The address and the cells of a list of lists that has one. -/
theorem Rws.cells {W : World} {P : Nat → Prop} {n c : Nat} {A : Option Addr} {q : List (List Int)} (h : Rws W P A n c q) (hn : 0 < n) : ∃ b off, A = some ⟨b, off, none⟩ ∧ b < W.heap.size ∧ ∀ i l, q[i]? = some l → ∃ Ai ci, W.cell? ⟨b, off + i, none⟩ = some (.slice Ai l.length ci) ∧ Row W Ai l.length ci l ∧ FromP P Ai l := by
  obtain ⟨l0, h0⟩ : ∃ l, q[0]? = some l := ⟨_, List.getElem?_eq_getElem (by rw [h.len]; exact hn)⟩
  obtain ⟨b, off, _, _, rfl, hb, _, _⟩ := h.row 0 l0 h0
  refine ⟨b, off, rfl, hb, fun i l hi => ?_⟩
  obtain ⟨b', off', Ai, ci, e, _, _, hc, hr, hf⟩ := h.row i l hi
  injection e with e
  injection e with e1 e2
  subst e1 e2
  exact ⟨Ai, ci, hc, hr, hf⟩

set_option maxHeartbeats 1600000 in
theorem refOf_any (m : Int) (P : Nat → Prop) (A : Option Addr) (n c : Nat) (q : List (List Int)) (g : Int) (w : World) (h : Rws w P A n c q) :
    Calls Try.prog 23 #[.agg #[.int .i64 m, .slice A n c], .int .i64 g] w fun e w' => e = .returned (.int .i64 (Qp.of q g)) ∧ Below w.heap.size w w' := by
  have PC := Lib.hid (Cel5.new w (.int .i64 m) (.slice A n c) 30)
  have BN := Lib.hid (below_new w (.cells #[.int .i64 m, .slice A n c] 30))
  have H := Lib.hid (h.step BN.out)
  have hl := h.cap
  have hl2 := h.most
  have HLEN := Lib.hid h.len
  clear h
  go_enter Try.func23, Try.ntmps23
  go_wp2_with fail
  generalize w.alloc (.cells #[.int .i64 m, .slice A n c] 30) = W at PC BN H ⊢
  have c1 := PC.out.c1
  go_loop [5] (fun i => ∃ k : Nat, k ≤ n ∧ i = .int .i64 k ∧ Hid (k ≤ Qp.idx q g)) (fun i => n - (intOf i).toNat)
  case atStart => exact ⟨0, Nat.zero_le _, rfl, Lib.hid (Nat.zero_le _)⟩
  case round =>
    obtain ⟨k, hk, rfl, HK⟩ := hrel
    by_cases hlt : k < n
    · obtain ⟨b, off, rfl, hb, hcells⟩ := H.out.cells (by omega)
      obtain ⟨l, hl⟩ : ∃ l, q[k]? = some l := ⟨_, List.getElem?_eq_getElem (by rw [HLEN.out]; exact hlt)⟩
      obtain ⟨Ai, ci, hci, hri, _⟩ := hcells k l hl
      obtain ⟨N, hN⟩ : ∃ N, l.length = N := ⟨_, rfl⟩
      rw [hN] at hci hri
      have HQ := Lib.hid hl
      have HN := Lib.hid hN
      have RI := Lib.hid hri
      have hN1 := hri.cap
      have hN2 := hri.most
      clear hcells hl hN hri
      go_wp2_with fail
      go_loop [6] (fun i => ∃ j : Nat, j ≤ N ∧ i = .int .i64 j ∧ Hid (Tp.has (l.take j) g = false)) (fun i => N - (intOf i).toNat)
      case atStart => exact ⟨0, Nat.zero_le _, rfl, Lib.hid rfl⟩
      case round =>
        obtain ⟨j, hj, rfl, HJ⟩ := hrel
        by_cases hjn : j < N
        · obtain ⟨bi, oi, rfl, hbi, hcx⟩ := RI.out.cells (by omega)
          obtain ⟨x, hx⟩ : ∃ x, l[j]? = some x := ⟨_, List.getElem?_eq_getElem (by rw [HN.out]; exact hjn)⟩
          have cx := hcx j x hx
          have hts : l.take (j + 1) = l.take j ++ [x] := by rw [List.take_add_one, hx]; rfl
          cases hxg : (x == g) with
          | true =>
            have e := beq_iff_eq.1 hxg
            have hmem : g ∈ l := by rw [← e]; exact List.mem_of_getElem? hx
            have hid := Qp.idx_first HQ.out hmem
            have HF := Lib.hid (show Qp.of q g = k by unfold Qp.of; have := HK.out; rw [if_pos (by rw [HLEN.out]; omega)]; omega)
            clear hcx hx hts e hmem hid
            go_wp2_with fail
            go_ret
            exact ⟨ret_int HF.out.symm, BN.out⟩
          | false =>
            have HT := Lib.hid (show Tp.has (l.take (j + 1)) g = false by
              have h1 := HJ.out
              unfold Tp.has at h1 ⊢
              rw [← Bool.not_eq_true, List.contains_iff_mem] at h1 ⊢
              rw [hts]
              intro hm
              rcases List.mem_append.1 hm with hm | hm
              · exact h1 hm
              · simp at hm; subst hm; simp at hxg)
            clear hcx hx hts
            go_wp2_with fail
            go_round
            case rel => exact ⟨j + 1, by omega, by go_num, HT⟩
            case measure => simp [intOf]; omega
        · obtain rfl : j = N := by omega
          have HK2 := Lib.hid (show k + 1 ≤ Qp.idx q g by
            have h1 := HJ.out
            rw [List.take_of_length_le (by rw [HN.out]; exact Nat.le_refl _)] at h1
            unfold Tp.has at h1
            rw [← Bool.not_eq_true, List.contains_iff_mem] at h1
            have h2 := HK.out
            by_cases e : Qp.idx q g = k
            · exfalso
              obtain ⟨l', hl', hg'⟩ := Qp.idx_of (q := q) (g := g) (by rw [e, HLEN.out]; exact hlt)
              rw [e, HQ.out] at hl'
              injection hl' with hl'
              subst hl'
              exact h1 hg'
            · omega)
          go_wp2_with fail
          go_round
          case rel => exact ⟨k + 1, by omega, by go_num, HK2⟩
          case measure => simp [intOf]; omega
    · obtain rfl : k = n := by omega
      have HF := Lib.hid (show Qp.of q g = -1 by unfold Qp.of; have := HK.out; rw [if_neg (by rw [HLEN.out]; omega)])
      go_wp2_with fail
      go_ret
      exact ⟨ret_int HF.out.symm, BN.out⟩
/-- What a call leaves that tells a row, in blocks of which P holds. -/
def Tells (P : Nat → Prop) (w0 : World) (zs : List Int) (e : Ending) (w' : World) : Prop :=
  ∃ A n c, e = .returned (.slice A n c) ∧ Row w' A n c zs ∧ FromP P A zs ∧ Below w0.heap.size w0 w'
theorem refAll_any (m : Int) (P : Nat → Prop) (A : Option Addr) (n c : Nat) (q : List (List Int)) (k : Int) (w : World) (h : Rws w P A n c q) :
    Calls Try.prog 18 #[.agg #[.int .i64 m, .slice A n c], .int .i64 k] w (Tells P w (Qp.all q k)) := by
  have PC := Lib.hid (Cel5.new w (.int .i64 m) (.slice A n c) 30)
  have BN := Lib.hid (below_new w (.cells #[.int .i64 m, .slice A n c] 30))
  have H := Lib.hid (h.step BN.out)
  have hl := h.cap
  have hl2 := h.most
  have HLEN := Lib.hid h.len
  clear h
  by_cases k0 : 0 ≤ k
  · obtain ⟨k, rfl⟩ : ∃ i : Nat, k = i := ⟨k.toNat, by omega⟩
    by_cases k1 : k < n
    · obtain ⟨b, off, rfl, hb, hcells⟩ := H.out.cells (by omega)
      obtain ⟨l, hl⟩ : ∃ l, q[k]? = some l := ⟨_, List.getElem?_eq_getElem (by rw [HLEN.out]; exact k1)⟩
      obtain ⟨Ai, ci, hci, hri, hfi⟩ := hcells k l hl
      have HA := Lib.hid (Qp.all_at hl)
      obtain ⟨N, hN⟩ : ∃ N, l.length = N := ⟨_, rfl⟩
      rw [hN] at hci hri
      have RI := Lib.hid hri
      have FI := Lib.hid hfi
      clear hcells hl hN hri hfi
      go_enter Try.func18, Try.ntmps18
      go_wp2_with fail
      go_ret
      rw [HA.out]
      exact ⟨Ai, N, ci, rfl, RI.out, FI.out, BN.out⟩
    · have HA := Lib.hid (Qp.all_none (q := q) (k := k) (by unfold Qp.hasL; have := HLEN.out; simp; omega))
      go_enter Try.func18, Try.ntmps18
      go_wp2_with fail
      go_ret
      rw [HA.out]
      exact ⟨none, 0, 0, rfl, Row.nothing _, FromP.nothing P _, BN.out⟩
  · have HA := Lib.hid (Qp.all_none (q := q) (k := k) (by unfold Qp.hasL; simp; omega))
    go_enter Try.func18, Try.ntmps18
    go_wp2_with fail
    go_ret
    rw [HA.out]
    exact ⟨none, 0, 0, rfl, Row.nothing _, FromP.nothing P _, BN.out⟩
end Go.Proofs.Ythljecllmdbbbaa

