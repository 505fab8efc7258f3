/- The document's comparison of mailboxes that are one; the two ways between the program's mailboxes and the document's; few: by their contracts. -/
import Derived.Test.YtjpnfjiccckaiaaOEmp
import Derived.BigRegion
namespace Go.Proofs.Ytjpnfjiccckaiaa
open Go.RowKit
open Mp (Bo)
set_option linter.unusedVariables false

/-- Two lists of 64-bit numbers that are one: true; and nothing that was there is another. -/
theorem nums_same (A B : Option Addr) (n c d : Nat) (zs : List Int) (w : World) (hn : Hid (zs.length = n)) (hl : n ≤ 9223372036854775807)
    (ha : IRow w w.heap.size A zs) (hb : IRow w w.heap.size B zs) :
    Calls Try.prog 28 #[.slice A n c, .slice B n d] w fun e w' => e = .returned (.bool true) ∧ Below w.heap.size w w' := by
  go_enter Try.func28, Try.ntmps28
  go_wp2
  go_loopw [5] (fun i wr => ∃ k : Nat, k ≤ n ∧ i = .int .i64 k ∧ Below w.heap.size w wr)
    (fun i _ => n - (intOf i).toNat)
  case atStart => exact ⟨0, Nat.zero_le _, rfl, Below.refl _ _⟩
  case round =>
    obtain ⟨k, hk, rfl, hbe⟩ := hrel
    by_cases hlt : k < n
    · obtain ⟨x, hx⟩ : ∃ x, zs[k]? = some x := ⟨_, List.getElem?_eq_getElem (by have := hn.out; omega)⟩
      obtain ⟨b, off, hA, hbk, hc⟩ := (ha.below hbe) k x hx
      obtain ⟨b', off', hB, hbk', hc'⟩ := (hb.below hbe) k x hx
      subst hA
      subst hB
      clear hx
      go_wp2
      go_quiet (fail)
      go_wp2
      go_roundw
      case rel => exact ⟨k + 1, by omega, by go_num, below_drewN hbe _⟩
      case measure => simp [intOf]; omega
    · go_wp2
      go_ret
      exact ⟨rfl, hbe⟩
set_option maxHeartbeats 1600000 in
theorem same_any (b : Bo) (A B C A' B' C' : Option Addr) (n1 n2 n3 c1 c2 c3 d1 d2 d3 : Nat) (w : World) (h : Tri w A n1 c1 B n2 c2 C n3 c3 b) (h' : Tri w A' n1 d1 B' n2 d2 C' n3 d3 b) :
    Calls Try.prog 17 #[.agg #[.int .i64 b.room, .slice A n1 c1, .slice B n2 c2, .slice C n3 c3], .agg #[.int .i64 b.room, .slice A' n1 d1, .slice B' n2 d2, .slice C' n3 d3]] w fun e w' => e = .returned (.bool true) ∧ Below w.heap.size w w' := by
  obtain ⟨room, msgs, send, recv⟩ := b
  obtain ⟨W0, hW0, hX0⟩ := A4.start w (.int .i64 room) (.slice A n1 c1) (.slice B n2 c2) (.slice C n3 c3) (.int .i64 room) (.slice A' n1 d1) (.slice B' n2 d2) (.slice C' n3 d3) 26 26
  have p0 := hX0.p.c0
  have p1 := hX0.p.c1
  have p2 := hX0.p.c2
  have p3 := hX0.p.c3
  have r0 := hX0.r.c0
  have r1 := hX0.r.c1
  have r2 := hX0.r.c2
  have r3 := hX0.r.c3
  have e1 := h.m.len
  have e3 := h.r.len
  have hl2 : send.length = n2 := h.s.len
  have m1 := h.m.cap
  have m1' := h.m.most
  have m3 := h.r.cap
  have m3' := h.r.most
  have m2 := h.s.cap
  have m2' := h.s.most
  have m4 := h'.s.cap
  have m4' := h'.s.most
  have H := Lib.hid (h.step hX0.below)
  have H' := Lib.hid (h'.step hX0.below)
  have X0 := Lib.hid hX0
  have E0 := Lib.hid hW0
  have E1 := Lib.hid e1
  have E3 := Lib.hid e3
  clear hX0 hW0 h h' e1 e3
  go_enter Try.func17, Try.ntmps17
  go_wp2_with fail
  rw [← E0.out]
  clear E0
  refine (nums_same A A' n1 c1 d1 msgs _ E1 (by omega) H.out.m.row H'.out.m.row).mono ?_
  rintro e w1 ⟨rfl, hb1⟩
  have X1 := Lib.hid (X0.out.step hb1)
  have T1 := Lib.hid (H.out.step hb1)
  have T1' := Lib.hid (H'.out.step hb1)
  clear p0 p1 p2 p3 r0 r1 r2 r3 hb1 H H' X0
  have p0 := X1.out.p.c0
  have p1 := X1.out.p.c1
  have p2 := X1.out.p.c2
  have p3 := X1.out.p.c3
  have r0 := X1.out.r.c0
  have r1 := X1.out.r.c1
  have r2 := X1.out.r.c2
  have r3 := X1.out.r.c3
  go_wp2_with fail
  refine (ints_same C C' n3 c3 d3 recv _ E3 (by omega) T1.out.r.row T1'.out.r.row).mono ?_
  rintro e w2 ⟨rfl, hb2⟩
  have X2 := Lib.hid (X1.out.step hb2)
  have T2 := Lib.hid (T1.out.step hb2)
  have T2' := Lib.hid (T1'.out.step hb2)
  clear p0 p1 p2 p3 r0 r1 r2 r3 hb2 T1 T1' X1
  have p0 := X2.out.p.c0
  have p1 := X2.out.p.c1
  have p2 := X2.out.p.c2
  have p3 := X2.out.p.c3
  have r0 := X2.out.r.c0
  have r1 := X2.out.r.c1
  have r2 := X2.out.r.c2
  have r3 := X2.out.r.c3
  go_wp2_with fail
  go_loopw [5] (fun i wr => ∃ k : Nat, k ≤ n2 ∧ i = .int .i64 k ∧ Hid (Below w2.heap.size w2 wr)) (fun i _ => n2 - (intOf i).toNat)
  case atStart => exact ⟨0, Nat.zero_le _, rfl, Lib.hid (Below.refl _ _)⟩
  case round =>
    obtain ⟨k, hk, rfl, HB⟩ := hrel
    have X3 := Lib.hid (X2.out.step HB.out)
    clear p0 p1 p2 p3 r0 r1 r2 r3
    have p0 := X3.out.p.c0
    have p1 := X3.out.p.c1
    have p2 := X3.out.p.c2
    have p3 := X3.out.p.c3
    have r0 := X3.out.r.c0
    have r1 := X3.out.r.c1
    have r2 := X3.out.r.c2
    have r3 := X3.out.r.c3
    by_cases hlt : k < n2
    · obtain ⟨z, hzk⟩ : ∃ z, send[k]? = some z := ⟨_, List.getElem?_eq_getElem (by omega)⟩
      obtain ⟨b, off, rfl, hbk, hcs⟩ := (T2.out.s.below HB.out).cells (by omega)
      obtain ⟨b', off', rfl, hbk', hcs'⟩ := (T2'.out.s.below HB.out).cells (by omega)
      obtain ⟨q0, q1⟩ := hcs k z hzk
      obtain ⟨q2, q3⟩ := hcs' k z hzk
      have k0 : (0 : Int) ≤ (k : Int) := by omega
      have k1 : (k : Int) < (n2 : Int) := by omega
      clear hcs hcs' hzk
      go_wp2_with fail
      go_quiet (fail)
      go_wp2_with fail
      go_roundw
      case rel => exact ⟨k + 1, by omega, by go_num, Lib.hid (below_drewN HB.out _)⟩
      case measure => simp [intOf]; omega
    · obtain rfl : k = n2 := by omega
      go_wp2_with fail
      go_ret
      exact ⟨rfl, X3.out.below⟩
end Go.Proofs.Ytjpnfjiccckaiaa

