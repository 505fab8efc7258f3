/- box.waiting, by its contract. -/
import Derived.Test.YtjpnfjiccckaiaaORecv
namespace Go.Proofs.Ytjpnfjiccckaiaa
open Go.RowKit
open Mp (Bo)
set_option linter.unusedVariables false

set_option maxHeartbeats 1600000 in
theorem waiting_own (b : Bo) (A B C : Option Addr) (n1 n2 n3 c1 c2 c3 : Nat) (w : World) (h : Tri w A n1 c1 B n2 c2 C n3 c3 b) (h2 : n2 ≤ 100000) (h3 : n3 ≤ 100000) :
    Calls Try.prog 20 #[.agg #[.int .i64 b.room, .slice A n1 c1, .slice B n2 c2, .slice C n3 c3]] w (MadeT 3 w (n3 + n2) (b.recv ++ b.send.map Prod.fst)) := by
  obtain ⟨room, msgs, send, recv⟩ := b
  obtain ⟨w0, hw0⟩ : ∃ w0, w0 = w.alloc (.cells #[.int .i64 room, .slice A n1 c1, .slice B n2 c2, .slice C n3 c3] 31) := ⟨_, rfl⟩
  have hb0 := Lib.hid (show Below w.heap.size w w0 by rw [hw0]; exact below_new w _)
  have hQ : Q4 w0 w.heap.size (.int .i64 room) (.slice A n1 c1) (.slice B n2 c2) (.slice C n3 c3) := by rw [hw0]; exact Q4.new _ _ _ _ _ _
  have p0 := hQ.c0
  have p1 := hQ.c1
  have p2 := hQ.c2
  have p3 := hQ.c3
  have hl2 : send.length = n2 := h.s.len
  have Q0 := Lib.hid hQ
  have H0 := Lib.hid h.s
  have hc2 := h.s.cap
  have hm2 := h.s.most
  have H := Lib.hid (h.step hb0.out)
  have E0 := Lib.hid hw0
  clear h hw0 hQ
  go_enter Try.func20, Try.ntmps20
  go_wp2_with fail
  rw [← E0.out]
  clear E0
  refine (row_int C n3 c3 recv _ H.out.r (by omega)).mono ?_
  rintro e w1 ⟨v1, rfl, ho1, hb1⟩
  have Q1 := Lib.hid (Q0.out.step hb1)
  have T1 := Lib.hid (H.out.step hb1)
  have hs0 : w.heap.size ≤ w0.heap.size := hb0.out.size
  have B1 := Lib.hid (hb0.out.trans (hb1.mono hs0))
  have O1 := Lib.hid (own_base ho1 hs0)
  have q0 := Q1.out.c0
  have q1 := Q1.out.c1
  have q2 := Q1.out.c2
  have q3 := Q1.out.c3
  clear p0 p1 p2 p3 ho1 hb1
  go_wp2_with fail
  have h23 := Lib.hid (And.intro h2 h3)
  clear q0 q1 q2 q3 Q1 T1 H Q0 h2 h3
  go_loopw [3, 12] (fun l i wr => ∃ k : Nat, k ≤ n2 ∧ i = .int .i64 k ∧ Hid (wr.ownsRow w.heap.size 3 1 l (n3 + k) ((recv ++ (send.take k).map Prod.fst).map (Value.int .i64))) ∧ Hid (Below w.heap.size w wr)) (fun _ i _ => n2 - (intOf i).toNat)
  case atStart => exact ⟨0, Nat.zero_le _, rfl, Lib.hid (by simpa using O1.out), B1⟩
  case round =>
    obtain ⟨k, hk, rfl, HO, HB⟩ := hrel
    by_cases hlt : k < n2
    · obtain ⟨z, hzk⟩ : ∃ z, send[k]? = some z := ⟨_, List.getElem?_eq_getElem (by omega)⟩
      obtain ⟨b1, o1, rfl, hbk, hcs⟩ := (H0.out.below HB.out).cells (by omega)
      obtain ⟨hck, hdk⟩ := hcs k z hzk
      have k0 : (0 : Int) ≤ (k : Int) := by omega
      have k1 : (k : Int) < (n2 : Int) := by omega
      have HT := Lib.hid (show (recv ++ (send.take (k + 1)).map Prod.fst) = (recv ++ (send.take k).map Prod.fst) ++ [z.1] by rw [List.take_add_one, hzk]; simp)
      clear hcs hzk
      have hs1 : wr.heap.size + 1 = (wr.alloc (.cells #[.int .i64 z.1, .int .i64 z.2] 52)).heap.size := by simp
      have hN := below_new wr (.cells #[.int .i64 z.1, .int .i64 z.2] 52)
      have hM := hN.trans ((below_new (wr.alloc (.cells #[.int .i64 z.1, .int .i64 z.2] 52)) (.cells #[.int .i64 z.1] 3)).mono hN.size)
      have O2 := Lib.hid (own_below HO.out hM)
      have B2 := Lib.hid (HB.out.trans (hM.mono HB.out.size))
      have R2 := Lib.hid (row_at (wr.alloc (.cells #[.int .i64 z.1, .int .i64 z.2] 52)) z.1 (wr.heap.size + 1) hs1.symm)
      clear hs1 hN hM HO
      go_wp2_with (at_builtin; refine wpList_append_row rfl _ _ rfl w.heap.size _ (n3 + k) _ rfl O2.out _ 1 1 [z.1] rfl R2.out (by have := h23.out; omega) B2.out.size ?_)
      intro v4 w4 ho4 hg4
      have O4 := Lib.hid (show w4.ownsRow w.heap.size 3 1 v4 (n3 + (k + 1)) ((recv ++ (send.take (k + 1)).map Prod.fst).map (Value.int .i64)) by rw [HT.out, ← Nat.add_assoc]; simpa using ho4)
      have B4 := Lib.hid (B2.out.grown hg4 B2.out.size (fun j hj => (O2.out.lt j hj).1))
      clear ho4 hg4 O2 B2 R2 HB
      go_wp2_with fail
      go_roundw
      case rel => exact ⟨k + 1, by omega, by go_num, O4, B4⟩
      case measure => simp [intOf]; omega
    · obtain rfl : k = n2 := by omega
      rw [List.take_of_length_le (by omega)] at HO
      go_wp2_with fail
      go_ret
      exact ⟨_, rfl, HO.out, HB.out⟩
end Go.Proofs.Ytjpnfjiccckaiaa

