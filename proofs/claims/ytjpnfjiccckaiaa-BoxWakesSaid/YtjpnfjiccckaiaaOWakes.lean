/- BoxWakes: who waits to send is woken in turn, each when there is room for what it has: the call answers true and changes nothing that was there; for every input. -/
import Derived.Test.YtjpnfjiccckaiaaOShown
import Derived.Test.YtjpnfjiccckaiaaOFrame
namespace Go.Proofs.Ytjpnfjiccckaiaa.boxWakes
open Go.ChangeShapes Go.WideShapes Go.ChangeAt Go.RowKit
open Mp (Bo)
set_option linter.unusedVariables false

set_option maxHeartbeats 4000000 in
theorem walk (z y : Int) (w : World) (hz : (Lit.int .u8 z).wf = true) (hy : (Lit.int .u8 y).wf = true) :
    Calls Try.prog 5 #[.int .u8 z, .int .u8 y] w fun e w' => e = .returned (.bool true) ∧ Below w.heap.size w w' := by
  have hz' : 0 ≤ z ∧ z ≤ 255 := by simpa [Lit.wf, IntKind.min, IntKind.max, IntKind.signed, IntKind.bits] using hz
  have hy' : 0 ≤ y ∧ y ≤ 255 := by simpa [Lit.wf, IntKind.min, IntKind.max, IntKind.signed, IntKind.bits] using hy
  obtain ⟨r, m1, m2, hr⟩ := mod_nat 9 hz'.1 (by omega)
  obtain ⟨n, m3, m4, hn⟩ := mod_nat 30 hy'.1 (by omega)
  have m1 : z.tmod 9 = (r : Int) := m1
  have m2 : z % 9 = (r : Int) := m2
  have m3 : y.tmod 30 = (n : Int) := m3
  have m4 : y % 30 = (n : Int) := m4
  clear hz hy hz' hy'
  go_enter Try.func5, Try.ntmps5
  go_wp2_with fail
  refine (shown_any _).mono ?_
  rintro e w1 ⟨rfl, hb1⟩
  have B1 := Lib.hid hb1
  clear hb1
  go_wp2_with fail
  clear m1 m2 m3 m4
  have hbw : w.heap.size ≤ w1.heap.size := B1.out.size
  have R1 := Lib.hid (BI.new (x := Mp.st r 0 0) 31 (by rw [Mp.st_zero]; exact Tri.nothing w1 r))
  have L1 := Lib.hid (Bl.mk (B1.out.alloc B1.out.size (.cells #[.int .i64 (r : Int), .slice none 0 0, .slice none 0 0, .slice none 0 0] 31)))
  rw [st_room] at R1
  generalize w1.heap.size = b at R1 hbw ⊢
  clear B1
  go_loopw [9] (fun i wr => ∃ (k : Nat) (A1 : Option Addr) (n1 c1 : Nat) (A2 : Option Addr) (n2 c2 : Nat) (A3 : Option Addr) (n3 c3 : Nat), k ≤ n ∧ i = .int .i64 ((k : Int) + 1) ∧ Hid (BI wr b A1 n1 c1 A2 n2 c2 A3 n3 c3 (Mp.st r 0 k)) ∧ Hid (Bl w wr)) (fun i _ => n + 1 - (intOf i).toNat)
  case atStart => exact ⟨0, _, _, _, _, _, _, _, _, _, Nat.zero_le _, rfl, R1, L1⟩
  case round =>
    obtain ⟨k, A1, n1, c1, A2, n2, c2, A3, n3, c3, hk, rfl, HR, HB⟩ := hrel
    have p0 := HR.out.cel.c0
    have p1 := HR.out.cel.c1
    have p2 := HR.out.cel.c2
    have p3 := HR.out.cel.c3
    rw [st_room] at p0
    have hb0 : b < wr.heap.size := HR.out.cel.lt
    have hl1 := HR.out.tri.m.len
    have hl2 := HR.out.tri.s.len
    have hl3 := HR.out.tri.r.len
    have hst := st_len r 0 k
    rw [hl1, hl2, hl3] at hst
    obtain ⟨j1, j2, j3⟩ := hst
    have k1 : n1 ≤ 100 := by omega
    have k2 : n2 ≤ 100 := by omega
    have k3 : n3 ≤ 100 := by omega
    clear hl1 hl2 hl3 j1 j2 j3
    by_cases hlt : k < n
    · have t1 : (k : Int) + 1 ≤ (n : Int) := by omega
      have s1 : IntKind.i64.wrap ((k : Int) + 1 + 1) = (k : Int) + 1 + 1 := IntWalk.i64_in _ (by omega)
      go_wp2_with fail
      refine (send_any (Mp.st r 0 k) A1 A2 A3 n1 n2 n3 c1 c2 c3 ((k : Int) + 1) ((k : Int) + 1) _ HR.out.tri (by omega) (by omega) (by omega)).mono ?_
      rintro e w2 ⟨bv, rfl, P1, q1, d1, P2, q2, d2, P3, q3, d3, rfl, ht, f1, f2, f3, hb⟩
      rw [st_send] at ht ⊢
      rw [st_room]
      have hb' := below_then hb (.cells #[.int .i64 (r : Int), .slice P1 q1 d1, .slice P2 q2 d2, .slice P3 q3 d3] 31)
      have C2 := HR.out.cel.step hb'
      have N2 := BI.new 31 ht
      have B2 := Lib.hid (HB.out.step hb')
      have e0 := C2.c0
      have e1 := C2.c1
      have e2 := C2.c2
      have e3 := C2.c3
      have e4 := C2.f0
      have e5 := C2.f1
      have e6 := C2.f2
      have e7 := C2.f3
      have e8 := N2.cel.c0
      have e9 := N2.cel.c1
      have e10 := N2.cel.c2
      have e11 := N2.cel.c3
      have R4 := Lib.hid (BI.put (b := b) C2 N2.tri (f1.mono hb0) (f2.mono hb0) (f3.mono hb0))
      have B4 := Lib.hid (Bl.mk (put4_below (b := b) (x := .int .i64 (r : Int)) (y := .slice P1 q1 d1) (z := .slice P2 q2 d2) (u := .slice P3 q3 d3) B2.out.b hbw))
      clear ht f1 f2 f3 hb hb' HR HB C2 N2 B2 p0 p1 p2 p3
      by_cases hkr : k + 1 ≤ r
      · have t2 : decide ((k : Int) + 1 ≤ (r : Int)) = true := by simp; omega
        rw [decide_eq_true hkr]
        clear hkr
        go_wp2_with fail
        go_roundw
        case rel => exact ⟨k + 1, P1, q1, d1, P2, q2, d2, P3, q3, d3, by omega, by go_num, R4, B4⟩
        case measure => simp [intOf]; omega
      · have t2 : decide ((k : Int) + 1 ≤ (r : Int)) = false := by simp; omega
        rw [decide_eq_false hkr]
        clear hkr
        go_wp2_with fail
        go_roundw
        case rel => exact ⟨k + 1, P1, q1, d1, P2, q2, d2, P3, q3, d3, by omega, by go_num, R4, B4⟩
        case measure => simp [intOf]; omega
    · obtain rfl : k = n := by omega
      have t1 : ¬ (k : Int) + 1 ≤ (k : Int) := by omega
      clear p0 p1 p2 p3 hb0 k1 k2 k3
      obtain ⟨wo, rfl⟩ : ∃ wo : World, wo = wr := ⟨_, rfl⟩
      go_wp2_with fail
      go_loopw [13] (fun i wr => ∃ (a : Nat) (A1 : Option Addr) (n1 c1 : Nat) (A2 : Option Addr) (n2 c2 : Nat) (A3 : Option Addr) (n3 c3 : Nat), a ≤ k ∧ i = .int .i64 ((a : Int) + 1) ∧ Hid (BI wr b A1 n1 c1 A2 n2 c2 A3 n3 c3 (Mp.st r a k)) ∧ Hid (Bl w wr)) (fun i _ => k + 1 - (intOf i).toNat)
      case atStart => exact ⟨0, _, _, _, _, _, _, _, _, _, Nat.zero_le _, rfl, HR, HB⟩
      case round =>
        clear HR HB
        obtain ⟨a, A1, n1, c1, A2, n2, c2, A3, n3, c3, ha, rfl, HR, HB⟩ := hrel
        have p0 := HR.out.cel.c0
        have p1 := HR.out.cel.c1
        have p2 := HR.out.cel.c2
        have p3 := HR.out.cel.c3
        rw [st_room] at p0
        have hb0 : b < wr.heap.size := HR.out.cel.lt
        have hl1 := HR.out.tri.m.len
        have hl2 := HR.out.tri.s.len
        have hl3 := HR.out.tri.r.len
        have hst := st_len r a k
        rw [hl1, hl2, hl3] at hst
        obtain ⟨j1, j2, j3⟩ := hst
        have k1 : n1 ≤ 100 := by omega
        have k2 : n2 ≤ 100 := by omega
        have k3 : n3 ≤ 100 := by omega
        clear hl1 hl2 hl3 j1 j2 j3
        by_cases hlt2 : a < k
        · have t3 : (a : Int) + 1 ≤ (k : Int) := by omega
          have s1 : IntKind.i64.wrap ((a : Int) + 1 + 1) = (a : Int) + 1 + 1 := IntWalk.i64_in _ (by omega)
          have s2 : IntKind.i64.wrap ((r : Int) + ((a : Int) + 1)) = (r : Int) + ((a : Int) + 1) := IntWalk.i64_in _ (by omega)
          go_wp2_with fail
          refine (recv_any (Mp.st r a k) A1 A2 A3 n1 n2 n3 c1 c2 c3 100 _ HR.out.tri (by omega) (by omega) (by omega)).mono ?_
          rintro e w2 ⟨bv, rfl, P1, q1, d1, P2, q2, d2, P3, q3, d3, rfl, ht, f1, f2, f3, hb⟩
          rw [st_recv r a k hlt2] at ht ⊢
          rw [st_room]
          have hb' := below_then hb (.cells #[.int .i64 (r : Int), .slice P1 q1 d1, .slice P2 q2 d2, .slice P3 q3 d3] 31)
          have C2 := HR.out.cel.step hb'
          have N2 := BI.new 31 ht
          have B2 := Lib.hid (HB.out.step hb')
          have e0 := C2.c0
          have e1 := C2.c1
          have e2 := C2.c2
          have e3 := C2.c3
          have e4 := C2.f0
          have e5 := C2.f1
          have e6 := C2.f2
          have e7 := C2.f3
          have e8 := N2.cel.c0
          have e9 := N2.cel.c1
          have e10 := N2.cel.c2
          have e11 := N2.cel.c3
          have R4 := Lib.hid (BI.put (b := b) C2 N2.tri (f1.mono hb0) (f2.mono hb0) (f3.mono hb0))
          have B4 := Lib.hid (Bl.mk (put4_below (b := b) (x := .int .i64 (r : Int)) (y := .slice P1 q1 d1) (z := .slice P2 q2 d2) (u := .slice P3 q3 d3) B2.out.b hbw))
          clear ht f1 f2 f3 hb hb' HR HB C2 N2 B2 p0 p1 p2 p3
          by_cases hkr : r + (a + 1) ≤ k
          · have t2 : decide ((r : Int) + ((a : Int) + 1) ≤ (k : Int)) = true := by simp; omega
            rw [if_pos hkr]
            clear hkr
            go_wp2_with fail
            go_roundw
            case rel => exact ⟨a + 1, P1, q1, d1, P2, q2, d2, P3, q3, d3, by omega, by go_num, R4, B4⟩
            case measure => simp [intOf]; omega
          · have t2 : decide ((r : Int) + ((a : Int) + 1) ≤ (k : Int)) = false := by simp; omega
            rw [if_neg hkr]
            clear hkr
            go_wp2_with fail
            go_roundw
            case rel => exact ⟨a + 1, P1, q1, d1, P2, q2, d2, P3, q3, d3, by omega, by go_num, R4, B4⟩
            case measure => simp [intOf]; omega
        · obtain rfl : a = k := by omega
          have t3 : ¬ (a : Int) + 1 ≤ (a : Int) := by omega
          have z1 : n1 = 0 := by have h9 := HR.out.tri.m.len; rw [(st_len r a a).1] at h9; omega
          have z2 : n2 = 0 := by have h9 := HR.out.tri.s.len; rw [(st_len r a a).2.1] at h9; omega
          subst z1 z2
          go_wp2_with fail
          refine (recv_any (Mp.st r a a) A1 A2 A3 0 0 n3 c1 c2 c3 100 _ HR.out.tri (by omega) (by omega) (by omega)).mono ?_
          rintro e w2 ⟨bv, rfl, P1, q1, d1, P2, q2, d2, P3, q3, d3, rfl, ht, f1, f2, f3, hb⟩
          rw [Mp.st_over] at ht ⊢
          have hb' := below_then hb (.cells #[.int .i64 (r : Int), .slice P1 q1 d1, .slice P2 q2 d2, .slice P3 q3 d3] 31)
          have C2 := HR.out.cel.step hb'
          have B2 := Lib.hid (HB.out.step hb')
          clear p0 p1 p2 p3 ht f1 f2 f3 hb hb' HR HB
          have p0 := C2.c0
          have p1 := C2.c1
          have p2 := C2.c2
          have p3 := C2.c3
          go_wp2_with fail
          go_ret
          exact ⟨rfl, B2.out.b⟩
set_option maxRecDepth 100000 in
theorem lifted (os : Os) (started : os.Started) (H : Type) (enc : TypeId × Value → H) :
    ReturnsInHanded {} Try.checked os 5 .any (Rows.boxWakesSpec.pre6 enc Try.prog Try.f5 Rows.boxWakesRow.domain false) (Rows.boxWakesSpec.post enc Try.prog Try.f5 false true false false) := by
  refine returnsInHanded_of_change (C := Try.checked) own started (by kernel_rfl) Try.func5
    (ChangeSpec.witness6 (enc := enc) (C := Try.checked) false ⟨#[], #[.int .u8 0, .int .u8 0], []⟩ 8 (by kernel_rfl) (by kernel_rfl) (by kernel_rfl) (by kernel_rfl)) ?_
  intro W base args ds gs before hval0 hW hcnd _
  have hval : ∀ (j : Nat) t v, Try.f5.params[j]? = some t → args[j]? = some v → Value.okWide Try.prog W .any base t v := hval0
  have hW' := hW
  obtain ⟨p, q, hA0, hV, rfl, hfz, hnd⟩ := hW
  have hA : DataW.TrodAll enc Try.prog W 0 (fun _ => true) true Try.f5.params.toList args.toList ds p := hA0
  rw [Try.params5] at hA hval
  obtain ⟨v0, vs0, d0, ds0, p0, q0, hargs, rfl, rfl, h0, r0⟩ := trodAll_cons hA
  obtain ⟨v1, vs1, d1, ds1, p1, q1, rfl, rfl, rfl, h1, r1⟩ := trodAll_cons r0
  obtain ⟨rfl, rfl, rfl⟩ := trodAll_nil r1
  obtain rfl : args = #[v0, v1] := by cases args; simp_all
  obtain ⟨rfl, rfl⟩ := trodVars_none hV
  obtain ⟨a0, rfl, rfl, rfl, w0⟩ := open_int Try.underlying5 (hval 0 5 v0 rfl rfl) h0
  obtain ⟨a1, rfl, rfl, rfl, w1⟩ := open_int Try.underlying5 (hval 1 5 v1 rfl rfl) h1
  clear hA0 hval0
  refine (walk a0 a1 W w0 w1).mono fun e W' ⟨he, bel⟩ => ?_
  subst he
  exact ⟨_, rfl, _, _, _, [], _, [], hW', trodAll_mk1 (shut_bool Try.underlying4 _), (trodAll_cons_mk (shut_int Try.underlying5 w0) (trodAll_cons_mk (shut_int Try.underlying5 w1) trodAll_mk0)), rfl, bel.frame _, fun h => by cases h⟩
theorem over : Rows.boxWakesRow.holds Try.pinned (OpenSpec.ofChange Rows.boxWakesSpec) :=
  OpenClaim.holds_of_wide 5 Try.f5 rfl rfl rfl rfl rfl rfl rfl ⟨rfl, rfl, rfl, rfl, rfl⟩ rfl rfl rfl rfl rfl (by kernel_rfl) Try.func5 (by kernel_rfl)
    (of_decide_eq_true (by kernel_rfl)) (by unfold Func.isWrapper; first | (rw [if_pos (by decide +kernel)]; kernel_rfl) | (rw [if_neg (by decide +kernel)]; exact ⟨rfl, rfl⟩))
    (fun os started H enc _ => lifted os started H enc)
theorem proved : Rows.BoxWakesSaid := over
end Go.Proofs.Ytjpnfjiccckaiaa.boxWakes

