/- BoxBack: what is sent where nobody waits, and there is room, is received behind all that was there: the call answers true and changes nothing that was there; for every input. -/
import Derived.Test.YtjpnfjiccckaiaaOShown
import Derived.Test.YtjpnfjiccckaiaaOFrame
import Derived.Test.YtjpnfjiccckaiaaOFew
import Derived.Test.YtjpnfjiccckaiaaORefMay
namespace Go.Proofs.Ytjpnfjiccckaiaa.boxBack
open Go.ChangeShapes Go.WideShapes Go.ChangeAt Go.RowKit
open Mp (Bo)
set_option linter.unusedVariables false

theorem back_in {x : Bo} (h : Mp.May x) (hr : x.recv.length = 0) (hl : (x.msgs.length : Int) < x.room) : x = ⟨x.room, x.msgs, [], []⟩ := by
  obtain ⟨room, msgs, send, recv⟩ := x
  obtain ⟨⟨_, _, _, h3, _⟩, _⟩ := h
  simp only at hr hl h3
  obtain rfl := List.length_eq_zero_iff.1 hr
  obtain rfl : send = [] := h3.elim id (fun h => absurd hl h)
  rfl
theorem back_send (room : Int) (msgs : List Int) (g n : Int) (hl : (msgs.length : Int) < room) : Mp.snd ⟨room, msgs, [], []⟩ g n = (⟨room, msgs ++ [n], [], []⟩, 0, true) := by
  unfold Mp.snd; simp only; rw [if_pos hl]
theorem back_recv (room : Int) (l : List Int) (z g : Int) : Mp.rcv ⟨room, z :: l, [], []⟩ g = (⟨room, l, [], []⟩, z, 0, true) := rfl
set_option maxHeartbeats 1600000 in
theorem walk (x : Bo) (A : Option Addr) (n1 c1 : Nat) (B : Option Addr) (n2 c2 : Nat) (C : Option Addr) (n3 c3 : Nat) (n : Int) (w : World) (h : Tri w A n1 c1 B n2 c2 C n3 c3 x) :
    Calls Try.prog 6 #[.agg #[.int .i64 x.room, .slice A n1 c1, .slice B n2 c2, .slice C n3 c3], .int .i64 n] w fun e w' => e = .returned (.bool true) ∧ Below w.heap.size w w' := by
  have hl1 : x.msgs.length = n1 := h.m.len
  have hl3 : x.recv.length = n3 := h.r.len
  have hcap := h.m.cap
  have hmost := h.m.most
  have H := Lib.hid h
  have hP := Q4.new w (.int .i64 x.room) (.slice A n1 c1) (.slice B n2 c2) (.slice C n3 c3) 26
  have B0 := below_new w (.cells #[.int .i64 x.room, .slice A n1 c1, .slice B n2 c2, .slice C n3 c3] 26)
  have HP0 := Lib.hid hP
  have HB0 := Lib.hid (Bl.mk B0)
  clear h hP B0
  go_enter Try.func6, Try.ntmps6
  go_wp2_with fail
  refine (shown_any _).mono ?_
  rintro e w1 ⟨rfl, hb1⟩
  have HP := Lib.hid (HP0.out.step hb1)
  have HB := Lib.hid (HB0.out.step hb1)
  clear hb1 HP0 HB0
  have p0 := HP.out.c0
  have p1 := HP.out.c1
  have p2 := HP.out.c2
  have p3 := HP.out.c3
  go_wp2_with fail
  refine (few_any x.room A B C n1 n2 n3 c1 c2 c3 _).mono ?_
  rintro e w2 ⟨rfl, hb2⟩
  replace HP := Lib.hid (HP.out.step hb2)
  replace HB := Lib.hid (HB.out.step hb2)
  clear hb2 p0 p1 p2 p3
  have p0 := HP.out.c0
  have p1 := HP.out.c1
  have p2 := HP.out.c2
  have p3 := HP.out.c3
  by_cases hf : n1 ≤ 100 ∧ n2 ≤ 100 ∧ n3 ≤ 100
  · rw [decide_eq_true hf]
    obtain ⟨f1, f2, f3⟩ := hf
    go_wp2_with fail
    refine (refMay_any x A B C n1 n2 n3 c1 c2 c3 _ (H.out.step HB.out.b) (by omega) (by omega)).mono ?_
    rintro e w3 ⟨rfl, hb3⟩
    replace HP := Lib.hid (HP.out.step hb3)
    replace HB := Lib.hid (HB.out.step hb3)
    clear hb3 p0 p1 p2 p3
    have p0 := HP.out.c0
    have p1 := HP.out.c1
    have p2 := HP.out.c2
    have p3 := HP.out.c3
    by_cases hm : Mp.May x
    · have HM := Lib.hid hm
      rw [decide_eq_true hm]
      clear hm
      by_cases h3 : 0 < n3
      · have t3 : decide ((0 : Int) < (n3 : Int)) = true := by simp; omega
        go_wp2_with fail
        go_ret
        exact ⟨rfl, HB.out.b⟩
      · have z3 : n3 = 0 := by omega
        subst z3
        by_cases h4 : x.room ≤ (n1 : Int)
        · have t4 : decide (x.room ≤ (n1 : Int)) = true := by simpa using h4
          go_wp2_with fail
          go_ret
          exact ⟨rfl, HB.out.b⟩
        · have t4 : decide (x.room ≤ (n1 : Int)) = false := by simpa using h4
          have hx := back_in HM.out hl3 (by omega)
          obtain ⟨msgs, hmsgs⟩ : ∃ msgs, msgs = x.msgs := ⟨_, rfl⟩
          rw [← hmsgs] at hx hl1
          have HX := Lib.hid hx
          clear hx hmsgs
          go_wp2_with fail
          refine (made_any x A B C n1 n2 0 c1 c2 c3 _ (H.out.step HB.out.b) (by omega) (by omega) (by omega)).mono ?_
          rintro e w4 ⟨bv, rfl, P1, q1, d1, P2, q2, d2, P3, q3, d3, rfl, ht, _, _, _, hb4⟩
          obtain rfl : n1 = q1 := by have := ht.m.len; have := H.out.m.len; omega
          obtain rfl : n2 = q2 := by have := ht.s.len; have := H.out.s.len; omega
          obtain rfl : 0 = q3 := by have := ht.r.len; have := H.out.r.len; omega
          replace HP := Lib.hid (HP.out.step hb4)
          replace HB := Lib.hid (HB.out.step hb4)
          have HT := Lib.hid ht
          clear hb4 p0 p1 p2 p3 ht
          have p0 := HP.out.c0
          have p1 := HP.out.c1
          have p2 := HP.out.c2
          have p3 := HP.out.c3
          go_wp2_with fail
          refine (send_any x P1 P2 P3 n1 n2 0 d1 d2 d3 1000 n _ HT.out (by omega) (by omega) (by omega)).mono ?_
          rintro e w5 ⟨bv, rfl, R1, r1, e1, R2, r2, e2, R3, r3, e3, rfl, ht, _, _, _, hb5⟩
          have hE : Mp.snd x 1000 n = (⟨x.room, msgs ++ [n], [], []⟩, 0, true) := by
            have := back_send x.room msgs 1000 n (by omega)
            rw [HX.out]
            exact this
          rw [hE] at ht ⊢
          dsimp only at ht ⊢
          have hb' := below_then hb5 (.cells #[.int .i64 x.room, .slice R1 r1 e1, .slice R2 r2 e2, .slice R3 r3 e3] 31)
          have HI := Lib.hid (BI.new (x := ⟨x.room, msgs ++ [n], [], []⟩) 31 ht)
          have hbw : w.heap.size ≤ w5.heap.size := Nat.le_trans HB.out.b.size hb5.size
          have hPy : w.heap.size < w5.heap.size := Nat.lt_of_lt_of_le HP.out.lt hb5.size
          replace HP := Lib.hid (HP.out.step hb')
          replace HB := Lib.hid (HB.out.step hb')
          clear hb5 hb' p0 p1 p2 p3 ht hE HT
          have p0 := HP.out.c0
          have p1 := HP.out.c1
          have p2 := HP.out.c2
          have p3 := HP.out.c3
          go_wp2_with fail
          generalize w5.heap.size = b at HI hbw hPy ⊢
          clear HM h4 t4 p0 p1 p2 p3
          go_loopw [9] (fun i wr => ∃ (k : Nat) (A1 : Option Addr) (m1 e1 : Nat) (A2 : Option Addr) (m2 e2 : Nat) (A3 : Option Addr) (m3 e3 : Nat), k ≤ n1 ∧ i = .int .i64 (k : Int) ∧ Hid (BI wr b A1 m1 e1 A2 m2 e2 A3 m3 e3 ⟨x.room, msgs.drop k ++ [n], [], []⟩) ∧ Hid (Q4 wr w.heap.size (.int .i64 x.room) (.slice A n1 c1) (.slice B n2 c2) (.slice C 0 c3)) ∧ Hid (Bl w wr)) (fun i _ => n1 - (intOf i).toNat)
          case atStart => exact ⟨0, _, _, _, _, _, _, _, _, _, Nat.zero_le _, rfl, HI, HP, HB⟩
          case round =>
            clear HI HP HB
            obtain ⟨k, A1, m1, e1, A2, m2, e2, A3, m3, e3, hk, rfl, HR, HP, HB⟩ := hrel
            have p0 := HP.out.c0
            have p1 := HP.out.c1
            have p2 := HP.out.c2
            have p3 := HP.out.c3
            have x0 := HR.out.cel.c0
            have x1 := HR.out.cel.c1
            have x2 := HR.out.cel.c2
            have x3 := HR.out.cel.c3
            have hb0 : b < wr.heap.size := HR.out.cel.lt
            have j1 := HR.out.tri.m.len
            have j2 : m2 = 0 := HR.out.tri.s.len.symm
            have j3 : m3 = 0 := HR.out.tri.r.len.symm
            have k1 : m1 ≤ 200 := by rw [← j1]; simp; omega
            subst j2 j3
            clear j1
            by_cases hlt : k < n1
            · obtain ⟨z, hzk⟩ : ∃ z, msgs[k]? = some z := ⟨_, List.getElem?_eq_getElem (by omega)⟩
              have HD := Lib.hid (show msgs.drop k ++ [n] = z :: (msgs.drop (k + 1) ++ [n]) by
                obtain ⟨h8, h9⟩ := List.getElem?_eq_some_iff.1 hzk
                rw [List.drop_eq_getElem_cons h8, h9]; rfl)
              have hmx : (Mp.Bo.msgs x)[k]? = some z := by rw [HX.out]; exact hzk
              obtain ⟨ba, oa, rfl, hba, hcs⟩ := H.out.m.cells (by omega)
              have hcz := hcs k z hmx
              have t5 : (k : Int) < (n1 : Int) := by omega
              have t6 : (0 : Int) ≤ (k : Int) := by omega
              have s1 : IntKind.i64.wrap ((k : Int) + 1) = (k : Int) + 1 := IntWalk.i64_in _ (by omega)
              have z2 : (z != z) = false := by simp
              clear hcs hzk hmx
              go_wp2_with fail
              refine (recv_any ⟨x.room, msgs.drop k ++ [n], [], []⟩ A1 A2 A3 m1 0 0 e1 e2 e3 1000 _ HR.out.tri (by omega) (by omega) (by omega)).mono ?_
              rintro e w6 ⟨bv, rfl, P1, q1, d1, P2, q2, d2, P3, q3, d3, rfl, ht, f1, f2, f3, hb⟩
              rw [HD.out, back_recv] at ht ⊢
              dsimp only at ht ⊢
              have hb' := below_then hb (.cells #[.int .i64 x.room, .slice P1 q1 d1, .slice P2 q2 d2, .slice P3 q3 d3] 31)
              have C2 := HR.out.cel.step hb'
              have P2' := HP.out.step hb'
              have N2 := BI.new (x := ⟨x.room, msgs.drop (k + 1) ++ [n], [], []⟩) 31 ht
              have B2 := Lib.hid (HB.out.step hb')
              have y0 := C2.c0
              have y1 := C2.c1
              have y2 := C2.c2
              have y3 := C2.c3
              have y4 := C2.f0
              have y5 := C2.f1
              have y6 := C2.f2
              have y7 := C2.f3
              have y8 := N2.cel.c0
              have y9 := N2.cel.c1
              have y10 := N2.cel.c2
              have y11 := N2.cel.c3
              have R4 := Lib.hid (BI.put (b := b) C2 N2.tri (f1.mono hb0) (f2.mono hb0) (f3.mono hb0))
              have HP4 := Lib.hid (P2'.off (b' := b) (by omega) (.int .i64 x.room) (.slice P1 q1 d1) (.slice P2 q2 d2) (.slice P3 q3 d3))
              have B4 := Lib.hid (Bl.mk (put4_below (b := b) (x := .int .i64 x.room) (y := .slice P1 q1 d1) (z := .slice P2 q2 d2) (u := .slice P3 q3 d3) B2.out.b hbw))
              have g0 := HP4.out.c0
              have g1 := HP4.out.c1
              have g2 := keepcell B4.out.b hcz
              clear ht f1 f2 f3 hb hb' HR HB HP C2 N2 B2 P2' p0 p1 p2 p3 x0 x1 x2 x3 hcz
              go_wp2_with fail
              go_roundw
              case rel => exact ⟨k + 1, P1, q1, d1, P2, q2, d2, P3, q3, d3, by omega, by go_num, R4, HP4, B4⟩
              case measure => simp [intOf]; omega
            · obtain rfl : k = n1 := by omega
              have HD := Lib.hid (show msgs.drop k ++ [n] = n :: [] by rw [List.drop_of_length_le (by omega)]; rfl)
              have z2 : (n == n) = true := by simp
              have z3 : (x.room == x.room) = true := by simp
              go_wp2_with fail
              refine (recv_any ⟨x.room, msgs.drop k ++ [n], [], []⟩ A1 A2 A3 m1 0 0 e1 e2 e3 1000 _ HR.out.tri (by omega) (by omega) (by omega)).mono ?_
              rintro e w6 ⟨bv, rfl, P1, q1, d1, P2, q2, d2, P3, q3, d3, rfl, ht, f1, f2, f3, hb⟩
              rw [HD.out, back_recv] at ht ⊢
              dsimp only at ht ⊢
              obtain rfl : 0 = q1 := ht.m.len
              have hb' := below_then hb (.cells #[.int .i64 x.room, .slice P1 0 d1, .slice P2 q2 d2, .slice P3 q3 d3] 31)
              have P2' := HP.out.step hb'
              have B2 := Lib.hid (HB.out.step hb')
              have g0 := P2'.c0
              clear ht f1 f2 f3 hb hb' HR HB HP P2' p0 p1 p2 p3 x0 x1 x2 x3
              go_wp2_with fail
              go_ret
              exact ⟨rfl, B2.out.b⟩
    · rw [decide_eq_false hm]
      clear hm
      go_wp2_with fail
      go_ret
      exact ⟨rfl, HB.out.b⟩
  · rw [decide_eq_false hf]
    clear hf
    go_wp2_with fail
    go_ret
    exact ⟨rfl, HB.out.b⟩
set_option maxRecDepth 100000 in
theorem lifted (os : Os) (started : os.Started) (H : Type) (enc : TypeId × Value → H) :
    ReturnsInHanded {} Try.checked os 6 .any (Rows.boxBackSpec.pre6 enc Try.prog Try.f6 Rows.boxBackRow.domain false) (Rows.boxBackSpec.post enc Try.prog Try.f6 false true false false) := by
  refine returnsInHanded_of_change (C := Try.checked) own started (by kernel_rfl) Try.func6
    (ChangeSpec.witness6 (enc := enc) (C := Try.checked) false ⟨#[], #[.agg #[.int .i64 0, .slice none 0 0, .slice none 0 0, .slice none 0 0], .int .i64 0], []⟩ 8 (by kernel_rfl) (by kernel_rfl) (by kernel_rfl) (by kernel_rfl)) ?_
  intro W base args ds gs before hval0 hW hcnd _
  have hval : ∀ (j : Nat) t v, Try.f6.params[j]? = some t → args[j]? = some v → Value.okWide Try.prog W .any base t v := hval0
  have hW' := hW
  obtain ⟨p, q, hA0, hV, rfl, hfz, hnd⟩ := hW
  have hA : DataW.TrodAll enc Try.prog W 0 (fun _ => true) true Try.f6.params.toList args.toList ds p := hA0
  rw [Try.params6] at hA hval
  obtain ⟨v0, vs0, d0, ds0, p0, q0, hargs, rfl, rfl, h0, r0⟩ := trodAll_cons hA
  obtain ⟨v1, vs1, d1, ds1, p1, q1, rfl, rfl, rfl, h1, r1⟩ := trodAll_cons r0
  obtain ⟨rfl, rfl, rfl⟩ := trodAll_nil r1
  obtain rfl : args = #[v0, v1] := by cases args; simp_all
  obtain ⟨rfl, rfl⟩ := trodVars_none hV
  have k0 := h0
  have lt0 : ∀ x ∈ p0, x.block < W.heap.size := by obtain ⟨m, hm⟩ := k0; exact DataW.trod_lt m _ _ _ hm
  obtain ⟨x0, aa0, na0, ca0, ab0, nb0, cb0, ac0, nc0, cc0, rfl, hr0⟩ := open_box (hval 0 26 v0 rfl rfl) h0
  obtain ⟨a1, rfl, rfl, rfl, w1⟩ := open_int Try.underlying2 (hval 1 2 v1 rfl rfl) h1
  clear hA0 hval0
  refine (walk x0 aa0 na0 ca0 ab0 nb0 cb0 ac0 nc0 cc0 a1 W hr0).mono fun e W' ⟨he, bel⟩ => ?_
  subst he
  exact ⟨_, rfl, _, _, _, [], _, [], hW', trodAll_mk1 (shut_bool Try.underlying4 _), (trodAll_cons_mk (Below.trod laidOut (by kernel_rfl) (of_decide_eq_true (by kernel_rfl)) k0 bel lt0) (trodAll_cons_mk (shut_int Try.underlying2 w1) trodAll_mk0)), rfl, bel.frame _, fun h => by cases h⟩
theorem over : Rows.boxBackRow.holds Try.pinned (OpenSpec.ofChange Rows.boxBackSpec) :=
  OpenClaim.holds_of_wide 6 Try.f6 rfl rfl rfl rfl rfl rfl rfl ⟨rfl, rfl, rfl, rfl, rfl⟩ rfl rfl rfl rfl rfl (by kernel_rfl) Try.func6 (by kernel_rfl)
    (of_decide_eq_true (by kernel_rfl)) (by unfold Func.isWrapper; first | (rw [if_pos (by decide +kernel)]; kernel_rfl) | (rw [if_neg (by decide +kernel)]; exact ⟨rfl, rfl⟩))
    (fun os started H enc _ => lifted os started H enc)
theorem proved : Rows.BoxBackSaid := over
end Go.Proofs.Ytjpnfjiccckaiaa.boxBack

