/- Drop, by its contract: all of one G are gone, the others are a heap. -/
import Derived.Test.YtgknbjiocgcmdaaHDel
namespace Go.Proofs.Ytgknbjiocgcmdaa
open Go.RowKit
set_option linter.unusedVariables false
variable {R : Nat → Value → Prop}

theorem drop_nil (g : Int) (w : World) : Calls Try.prog 26 #[.pointer none, .int .i64 g] w fun e w' => e = .returned (.int .i64 0) ∧ Below w.heap.size w w' := by
  go_enter Try.func26, Try.ntmps26
  go_wp2_with (go_at_call 32; refine (len_nil _).mono ?_; rintro e w' ⟨rfl, rfl⟩)
  go_ret
  exact ⟨rfl, below_new _ _⟩
theorem drop_empty (b : Nat) (F : Nat → Prop) (g : Int) (w : World) (h : HM R w b F []) : Calls Try.prog 26 #[.pointer (some ⟨b, 0, none⟩), .int .i64 g] w fun e w' => e = .returned (.int .i64 0) ∧ Below w.heap.size w w' := by
  have hL := Lib.hid (len_any b F [] _ (h.step (below_new w (.cells #[.int .i64 g] 3))))
  clear h
  go_enter Try.func26, Try.ntmps26
  go_wp2_with (go_at_call 32; refine hL.out.mono ?_; rintro e w' ⟨rfl, rfl⟩)
  go_ret
  exact ⟨rfl, below_new _ _⟩
/-- The row that stands in a heap's cell is another one, in the same block. -/
theorem HM.anew {w : World} {b g n c : Nat} {F : Nat → Prop} {l m : List Hp.Tm} (h : HM R w b F l) (hc : w.cell? ⟨b, 0, none⟩ = some (.slice (some ⟨g, 0, none⟩) l.length c)) (w1 : World) (hk : Kept (fun k => k = g) w w1) (hn : n = m.length)
    (ho : w1.ownsRow 0 62 3 (.slice (some ⟨g, 0, none⟩) n c) n (tcells m)) : (w1.cell? ⟨b, 0, none⟩ = some (.slice (some ⟨g, 0, none⟩) l.length c) ∧ w1.frozen? ⟨b, 0, none⟩ = false) ∧ HM R (w1.setCell ⟨b, 0, none⟩ (.slice (some ⟨g, 0, none⟩) n c)) b F m ∧ Kept F w (w1.setCell ⟨b, 0, none⟩ (.slice (some ⟨g, 0, none⟩) n c)) := by
  subst hn
  obtain ⟨A, c', h1, h2, h3⟩ := h.mem
  rw [hc] at h1
  injection h1 with h1
  injection h1 with e1 e2 e3
  subst e1 e3
  obtain ⟨n1, n2⟩ := h3 _ rfl
  have k1 := hk.cell hc (fun e => n1 e.symm)
  have k2 := hk.free hc (fun e => n1 e.symm) h.free
  have hF : Kept F w w1 := ⟨hk.os, hk.tape, hk.output, hk.size, fun i hi hn => hk.block i hi (fun e => hn (by rw [e]; exact n2))⟩
  refine ⟨⟨k1, k2⟩, ⟨⟨some ⟨g, 0, none⟩, c, World.cell?_setCell_same' _ _ _ (by rw [k1]; rfl), own_keep ho (fun k e => Below.heap_setCell w1 ⟨b, 0, none⟩ _ k (fun e' => by injection e with e; subst e; exact n1 e')), h3⟩, by rw [World.frozen?_setCell]; exact k2, h.inb, fun j hj => ?_, Rest.head (Rest.block h.rest (hk.block b (h.lt b h.inb) (fun e => n1 e.symm)))⟩, hF.setCell _ h.inb _⟩
  have := h.lt j hj
  have := hk.size
  show j < (w1.setCell ⟨b, 0, none⟩ (.slice (some ⟨g, 0, none⟩) m.length c)).heap.size
  simp [World.setCell]
  omega
set_option maxHeartbeats 2000000 in
theorem drop_some (b : Nat) (F : Nat → Prop) (l : List Hp.Tm) (g : Int) (w : World) (h : HM R w b F l) (h0 : 0 < l.length) (hl : l.length ≤ 1000000) :
    Calls Try.prog 26 #[.pointer (some ⟨b, 0, none⟩), .int .i64 g] w fun e w' => e = .returned (.int .i64 (l.length - (Hp.others l g).length)) ∧ ∃ l', l'.Perm (Hp.others l g) ∧ Hp.Heap l' ∧ HM R w' b F l' ∧ Kept F w w' := by
  have hb0 := below_new w (.cells #[.int .i64 g] 3)
  have hh := h.step hb0
  obtain ⟨gr, c, c0, gb, gF, hcap, hmost, hown, _⟩ := hh.cells h0
  have hgw : gr ≠ w.heap.size := fun e => by have := h.lt gr gF; omega
  have hL := len_any b F l _ hh
  have hD := delete_any gr l.length c l g w.heap.size _ hown (by rw [World.cell?_alloc_at _ _ _ _ rfl]; rfl) (fun e => hgw e.symm) hl
  obtain ⟨n, hn⟩ : ∃ n, n = l.length := ⟨_, rfl⟩
  rw [← hn] at c0 hL hD hl hcap h0 hown ⊢
  obtain ⟨m, hm⟩ : ∃ m, m = (Hp.others l g).length := ⟨_, rfl⟩
  have hmn : m ≤ n := by rw [hm, hn]; exact Hp.others_le l g
  unfold Dropped at hD
  rw [← hm] at hD ⊢
  have HL := Lib.hid hL
  have HD := Lib.hid hD
  have HH := Lib.hid hh
  have HN := Lib.hid hn
  have HM0 := Lib.hid hm
  have HB := Lib.hid (Kept.of_below (F := F) hb0)
  have hne : ((n : Int) == 0) = false := by rw [beq_eq_false_iff_ne]; omega
  clear hb0 hh hL hD h hown hn hm
  go_enter Try.func26, Try.ntmps26
  go_wp2_with (go_at_call 32; refine HL.out.mono ?_; rintro e w' ⟨rfl, rfl⟩)
  refine HD.out.mono ?_
  rintro e w1 ⟨rfl, ho, hk⟩
  rw [HN.out] at c0
  obtain ⟨⟨k1, k2⟩, hm1, hk1⟩ := HH.out.anew c0 w1 hk HM0.out ho
  rw [← HN.out] at k1 c0
  have k3 := World.cell?_setCell_same' w1 ⟨b, 0, none⟩ (.slice (some ⟨gr, 0, none⟩) m c) (by rw [k1]; rfl)
  have HM1 := Lib.hid hm1
  have HK1 := Lib.hid (HB.out.trans hk1)
  have hd : ((m : Int)).tdiv 2 = ((m / 2 : Nat) : Int) := by rw [Int.tdiv_eq_ediv_of_nonneg (by omega)]; omega
  have hw1 : IntKind.i64.wrap (((m / 2 : Nat) : Int)) = ((m / 2 : Nat) : Int) := IntWalk.i64_in _ (by omega)
  have hw2 : IntKind.i64.wrap (((m / 2 : Nat) : Int) - 1) = ((m / 2 : Nat) : Int) - 1 := IntWalk.i64_in _ (by omega)
  obtain ⟨h2, hh2⟩ : ∃ h2, m / 2 = h2 := ⟨_, rfl⟩
  rw [hh2] at hd hw1 hw2
  have hF := Hp.from_half (Hp.others l g)
  rw [← HM0.out, hh2] at hF
  have HF := Lib.hid hF
  clear ho hk hm1 hk1 HH HD HL HB hF
  go_wp2_with fail
  generalize w1.setCell ⟨b, 0, none⟩ (.slice (some ⟨gr, 0, none⟩) m c) = w2 at *
  go_loopw [6] (fun a wr => ∃ (k : Nat) (z : List Hp.Tm), a = .int .i64 ((k : Int) - 1) ∧ k ≤ m ∧ Hid (m = z.length) ∧ Hid (z.Perm (Hp.others l g)) ∧ Hid (Hp.From z k) ∧ Hid (HM R wr b F z) ∧ Hid (Kept F w wr)) (fun a _ => (intOf a + 1).toNat)
  case atStart => exact ⟨h2, Hp.others l g, rfl, by omega, HM0, Lib.hid (List.Perm.refl _), HF, HM1, HK1⟩
  case round =>
    clear HM1 HK1 k1 k2 k3 HF c0
    obtain ⟨k, z, rfl, hk, HZ, HP, HF, H, HK⟩ := hrel
    by_cases hk0 : k = 0
    · subst hk0
      obtain ⟨A, c1, c2, _, _⟩ := H.out.mem
      rw [← HZ.out] at c2
      have hw3 : IntKind.i64.wrap ((n : Int) - (m : Int)) = (n : Int) - (m : Int) := IntWalk.i64_in _ (by omega)
      go_wp2_with fail
      go_ret
      exact ⟨rfl, z, HP.out, HF.out, H.out, HK.out⟩
    · obtain ⟨j, rfl⟩ : ∃ j, k = j + 1 := ⟨k - 1, by omega⟩
      have e1 : ((j + 1 : Nat) : Int) - 1 = (j : Int) := by omega
      rw [e1]
      have hlen := HZ.out
      have HS := Lib.hid (sink_any b F z j j wr H.out (by omega) (by omega) (Lib.hid (Hp.down_at HF.out)))
      have hj0 : (0 : Int) ≤ (j : Int) := by omega
      have hw4 : IntKind.i64.wrap ((j : Int) - 1) = (j : Int) - 1 := IntWalk.i64_in _ (by omega)
      clear hlen hk0 e1
      go_wp2_with fail
      refine HS.out.mono ?_
      rintro e w3 ⟨rfl, z', hp, hf, hm, hk'⟩
      have HP1 := Lib.hid (hp.trans HP.out)
      have HF1 := Lib.hid hf
      have H1 := Lib.hid hm
      have HK1 := Lib.hid (HK.out.trans hk')
      have HZ1 := Lib.hid (HZ.out.trans hp.length_eq.symm)
      clear hp hf hm hk' HS
      go_wp2_with fail
      go_roundw
      case rel => exact ⟨j, z', rfl, by omega, HZ1, HP1, HF1, H1, HK1⟩
      case measure => simp [intOf]
theorem drop_any (b : Nat) (F : Nat → Prop) (l : List Hp.Tm) (g : Int) (w : World) (h : HM R w b F l) (hl : l.length ≤ 1000000) :
    Calls Try.prog 26 #[.pointer (some ⟨b, 0, none⟩), .int .i64 g] w fun e w' => e = .returned (.int .i64 (l.length - (Hp.others l g).length)) ∧ ∃ l', l'.Perm (Hp.others l g) ∧ Hp.Heap l' ∧ HM R w' b F l' ∧ Kept F w w' := by
  by_cases h0 : l = []
  · subst h0
    refine (drop_empty b F g w h).mono ?_
    rintro e w' ⟨rfl, hb⟩
    exact ⟨rfl, [], List.Perm.refl _, Hp.heap_nil, h.step hb, Kept.of_below hb⟩
  · exact drop_some b F l g w h (by cases l with
      | nil => exact absurd rfl h0
      | cons x t => simp) hl
end Go.Proofs.Ytgknbjiocgcmdaa

