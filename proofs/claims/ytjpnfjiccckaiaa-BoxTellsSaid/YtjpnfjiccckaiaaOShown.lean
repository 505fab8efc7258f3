/- The document's example at the head of all statements: it is as shown. -/
import Derived.Test.YtjpnfjiccckaiaaOLaw
namespace Go.Proofs.Ytjpnfjiccckaiaa
open Go.RowKit
open Mp (Bo)
set_option linter.unusedVariables false

theorem shown_any (w : World) : Calls Try.prog 8 #[] w fun e w' => e = .returned (.bool true) ∧ Below w.heap.size w w' := by
  go_enter Try.func8, Try.ntmps8
  go_wp2_with fail
  refine (send_any ⟨1, [], [], []⟩ none none none 0 0 0 0 0 0 1 5 _ (Tri.nothing _ 1) (by omega) (by omega) (by omega)).mono ?_
  rintro e w1 ⟨bv, rfl, A1, n1, c1, A2, n2, c2, A3, n3, c3, rfl, ht, f1, f2, f3, hb⟩
  rw [show Mp.snd ⟨1, [], [], []⟩ 1 5 = (⟨1, [5], [], []⟩, 0, true) from by decide] at ht ⊢
  obtain rfl : 1 = n1 := ht.m.len
  obtain rfl : 0 = n2 := ht.s.len
  obtain rfl : 0 = n3 := ht.r.len
  have L1 := Lib.hid (Bl.mk (below_then hb (.cells #[.int .i64 1, .slice A1 1 c1, .slice A2 0 c2, .slice A3 0 c3] 31)))
  have I1 := Lib.hid (BI.new 31 ht)
  clear ht f1 f2 f3 hb
  go_wp2_with fail
  refine (send_any ⟨1, [5], [], []⟩ A1 A2 A3 1 0 0 c1 c2 c3 2 6 _ I1.out.tri (by omega) (by omega) (by omega)).mono ?_
  rintro e w2 ⟨bv, rfl, A4, n4, c4, A5, n5, c5, A6, n6, c6, rfl, ht, f1, f2, f3, hb⟩
  rw [show Mp.snd ⟨1, [5], [], []⟩ 2 6 = (⟨1, [5], [(2, 6)], []⟩, 0, false) from by decide] at ht ⊢
  obtain rfl : 1 = n4 := ht.m.len
  obtain rfl : 1 = n5 := ht.s.len
  obtain rfl : 0 = n6 := ht.r.len
  have hb' := below_then hb (.cells #[.int .i64 1, .slice A4 1 c4, .slice A5 1 c5, .slice A6 0 c6] 31)
  have L2 := Lib.hid (L1.out.step hb')
  have I2 := Lib.hid (BI.new 31 ht)
  clear ht f1 f2 f3 hb hb' L1 I1
  go_wp2_with fail
  refine (recv_any ⟨1, [5], [(2, 6)], []⟩ A4 A5 A6 1 1 0 c4 c5 c6 3 _ I2.out.tri (by omega) (by omega) (by omega)).mono ?_
  rintro e w3 ⟨bv, rfl, A7, n7, c7, A8, n8, c8, A9, n9, c9, rfl, ht, f1, f2, f3, hb⟩
  rw [show Mp.rcv ⟨1, [5], [(2, 6)], []⟩ 3 = (⟨1, [6], [], []⟩, 5, 2, true) from by decide] at ht ⊢
  obtain rfl : 1 = n7 := ht.m.len
  obtain rfl : 0 = n8 := ht.s.len
  obtain rfl : 0 = n9 := ht.r.len
  obtain ⟨b, off, rfl, hbk, hcs⟩ := ht.m.cells (by omega)
  have hc0 := hcs 0 6 rfl
  rw [Nat.add_zero] at hc0
  have hcap := ht.m.cap
  have hcm := ht.m.most
  have hb' := below_then hb (.cells #[.int .i64 1, .slice (some ⟨b, off, none⟩) 1 c7, .slice A8 0 c8, .slice A9 0 c9] 31)
  have hc1 := keepcell (below_new w3 (.cells #[.int .i64 1, .slice (some ⟨b, off, none⟩) 1 c7, .slice A8 0 c8, .slice A9 0 c9] 31)) hc0
  have L3 := Lib.hid (L2.out.step hb')
  have I3 := Lib.hid (BI.new 31 ht)
  clear ht f1 f2 f3 hb hb' L2 I2 hcs hc0
  go_wp2_with fail
  go_ret
  exact ⟨rfl, L3.out.b⟩
end Go.Proofs.Ytjpnfjiccckaiaa

