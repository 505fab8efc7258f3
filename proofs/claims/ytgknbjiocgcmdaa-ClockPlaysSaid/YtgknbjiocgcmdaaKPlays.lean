/- ClockPlays: whoever sleeps, and wakes, and whatever time goes by, each answer, who sleeps, and what time it is, are the document's: the call answers true and changes nothing that was there; for every input. -/
import Derived.Test.YtgknbjiocgcmdaaKDoc
import Derived.Test.YtgknbjiocgcmdaaKFrame
import Derived.Deep.RegionHeld3
import Derived.Deep.CutBlock
namespace Go.Proofs.Ytgknbjiocgcmdaa.clockPlays
open Go.ChangeShapes Go.WideShapes Go.ChangeAt Go.RowKit
set_option linter.unusedVariables false

theorem held_trans {W9 W w' : World} (h : Below W9.heap.size W9 W) (hb : Below W.heap.size W w') : Below W9.heap.size W9 w' := h.trans (hb.mono h.size)
theorem DRow.at {w : World} {A : Option Addr} {ds : List (Int × Int × Int)} (h : DRow w A ds) {b off : Nat} (hA : A = some ⟨b, off, none⟩) {i : Nat} {x : Int × Int × Int} (hi : ds[i]? = some x) : w.cell? ⟨b, off + i * 3, none⟩ = some (.int .i64 x.1) ∧ w.cell? ⟨b, off + i * 3 + 1, none⟩ = some (.int .i64 x.2.1) ∧ w.cell? ⟨b, off + i * 3 + 2, none⟩ = some (.int .i64 x.2.2) := by
  obtain ⟨b', off', e, _, hc⟩ := h i x hi
  rw [hA] at e
  injection e with e
  injection e with e1 e2
  subst e1 e2
  exact hc
set_option maxRecDepth 100000 in
set_option maxHeartbeats 4000000 in
theorem walk (A0 : Option Addr) (n c0 : Nat) (ds : List (Int × Int × Int)) (w : World) (hn : Hid (ds.length = n)) (hl : n ≤ 9223372036854775807) (hf : Hid (Fit3 ds)) (hr : DRow w A0 ds) :
    Calls Try.prog 3 #[.slice A0 n c0] w fun e w' => e = .returned (.bool true) ∧ Below w.heap.size w w' := by
  have HR := Lib.hid hr
  clear hr hf
  go_enter Try.func3, Try.ntmps3
  go_wp2_with fail
  refine (shown_any _).mono ?_
  rintro e w1 ⟨rfl, hb1⟩
  obtain ⟨b, hbn⟩ : ∃ b, b = w1.heap.size := ⟨_, rfl⟩
  obtain ⟨X, hXn⟩ : ∃ X, X = w1.heap.size + 1 := ⟨_, rfl⟩
  have P0 := Lib.hid (Pl.new (b := b) (X := X) hb1 hbn.symm hXn.symm)
  clear hb1
  go_wp2_with fail
  rw [← hXn]
  rw [← hbn]
  generalize (w1.alloc (.cells #[.slice none 0 0, .int .i64 0, .int .i64 0] 29)).alloc (.cells #[.int .i64 0, .slice none 0 0] 32) = V at *
  clear hbn hXn
  go_loopw [6] (fun i wr => ∃ (k : Nat) (F : Nat → Prop) (now : Int) (S : List Kp.On) (A : Option Addr) (m c : Nat), k ≤ n ∧ k ≤ 200 ∧ i = .int .i64 k ∧ Hid (Pl w wr b F now S k X A m c)) (fun i _ => n - (intOf i).toNat)
  case atStart => exact ⟨0, _, 0, [], none, 0, 0, Nat.zero_le _, Nat.zero_le _, rfl, P0⟩
  case round =>
    clear P0
    obtain ⟨k, F, now, S, A, m, c, hk, hk2, rfl, P⟩ := hrel
    by_cases hlt : k < n
    · by_cases h200 : k < 200
      · obtain ⟨x, hx⟩ : ∃ x, ds[k]? = some x := ⟨_, List.getElem?_eq_getElem (by have := hn.out; omega)⟩
        obtain ⟨gd, od, rfl, hgd, _⟩ := HR.out k x hx
        obtain ⟨q0, q1, q2⟩ := DRow.at (HR.out.below P.out.co.below) rfl hx
        obtain ⟨kd, g, t⟩ := x
        simp only at q0 q1 q2
        have hb1 := below_new wr (.cells #[.int .i64 kd, .int .i64 g, .int .i64 t] 34)
        have P1 := Lib.hid (P.out.step hb1)
        have D1 := Lib.hid (T3.new wr kd g t 34)
        have i0 : (0 : Int) ≤ (k : Int) := by omega
        have i1 : (k : Int) < (n : Int) := by omega
        have hD : ¬ F wr.heap.size := fun f => by have := P.out.co.ck.lt _ f; omega
        have hlX := P.out.xd.cel.lt
        have hDX : wr.heap.size ≠ X := by omega
        clear hx hb1 P
        go_upto_block 2 with fail
        obtain ⟨D, hDn⟩ : ∃ D, D = wr.heap.size := ⟨_, rfl⟩
        rw [← hDn] at D1 hD hDX ⊢
        generalize wr.alloc (.cells #[.int .i64 kd, .int .i64 g, .int .i64 t] 34) = W1 at *
        clear hDn
        go_cut [] (fun wx => ∃ (F : Nat → Prop) (now : Int) (S : List Kp.On) (A : Option Addr) (m c : Nat), Hid (Pl w wx b F now S (k + 1) X A m c))
        case first =>
          have y0 := D1.out.c0
          have y1 := D1.out.c1
          have y2 := D1.out.c2
          simp only at y0 y1 y2
          have hE := Lib.hid P1.out.co.ck.ends
          have hms : m ≤ 200 := by have h1 := P1.out.xd.row.len; have h2 := P1.out.co.ck.len; omega
          by_cases hk0 : kd = 0
          · subst hk0
            have HSl := Lib.hid (co_sleep P1.out.co g t (by omega))
            obtain ⟨r, hrr⟩ : ∃ r, r = Kp.code S g t := ⟨_, rfl⟩
            have HRR := Lib.hid hrr
            rw [← hrr] at HSl
            clear hrr
            go_wp2_with fail
            refine HSl.out.mono ?_
            rintro e w2 ⟨rfl, F', h2, ht⟩
            have C2 := Lib.hid h2
            have X2 := Lib.hid (P1.out.xd.turned ht)
            have D2 := D1.out.kept ht.1 hD
            have y0 := D2.c0
            have y1 := D2.c1
            have y2 := D2.c2
            simp only at y0 y1 y2
            have v0 := X2.out.cel.c0
            have v1 := X2.out.cel.c1
            have HRf := Lib.hid (refSleep_any now A m c S g t w2 X2.out.row (by omega) ⟨C2.out.ck.now0, C2.out.ck.now1⟩ hE)
            rw [← HRR.out] at HRf
            have hD2 : D < w2.heap.size := D2.lt
            clear h2 ht HSl D2
            go_wp2_with fail
            refine HRf.out.mono ?_
            rintro e w3 ⟨A', m', c', rfl, hr3, hn3, hb3⟩
            obtain ⟨⟨z1, z2⟩, hp⟩ := Pl.put C2.out X2.out P1.out.ge hb3 hr3 hn3 rfl
            have PE := Lib.hid hp
            have a0 := z1.c0
            have a1 := z1.c1
            have b0 := z2.c0
            have b1 := z2.c1
            have b2 := z2.f0
            have b3 := z2.f1
            have hrn : (r != r) = false := by simp
            clear hr3 hn3 hb3 z1 z2 hp HRf C2 X2 v0 v1 P1 y0 y1 y2
            go_wp2_with fail
            go_meet
            exact ⟨F', now, _, A', m', c', PE⟩
          · have hk1 : (kd == 0) = false := by rw [beq_eq_false_iff_ne]; exact hk0
            by_cases hk2' : kd = 1
            · subst hk2'
              have HT := Lib.hid (co_tick P1.out.co t)
              unfold TickO at HT
              obtain ⟨r, hrr⟩ : ∃ r, r = Kp.tcode now t := ⟨_, rfl⟩
              have HRR := Lib.hid hrr
              rw [← hrr] at HT
              clear hrr
              go_wp2_with fail
              refine HT.out.mono ?_
              rintro e w2 ⟨⟨A1, k1, d1, rfl, hr1, hf1⟩, h2, hk3⟩
              have C2 := Lib.hid (h2.more (by omega))
              have X2 := Lib.hid (P1.out.xd.turned (Turned.of_kept hk3))
              have D2 := D1.out.kept hk3 hD
              have y0 := D2.c0
              have y1 := D2.c1
              have y2 := D2.c2
              simp only at y0 y1 y2
              have v0 := X2.out.cel.c0
              have v1 := X2.out.cel.c1
              have hXW := P1.out.xd.cel.lt
              have R1 := Lib.hid (And.intro hr1 (hf1.mono (show X + 1 ≤ W1.heap.size from hXW)))
              have HRf := Lib.hid (refTick_any now A m c S t w2 X2.out.row (by omega) ⟨P1.out.co.ck.now0, P1.out.co.ck.now1⟩)
              unfold TellT at HRf
              rw [← HRR.out] at HRf
              have hXw2 := X2.out.cel.lt
              clear h2 hk3 HT D2 hr1 hf1
              go_wp2_with fail
              refine HRf.out.mono ?_
              rintro e w3 ⟨A', m', c', B, mb, cb, rfl, hr3, hrb3, hn3, hnb3, hb3⟩
              obtain ⟨⟨z1, z2⟩, hp⟩ := Pl.put C2.out X2.out P1.out.ge hb3 hr3 hn3 rfl
              have PE := Lib.hid hp
              have a0 := z1.c0
              have a1 := z1.c1
              have b0 := z2.c0
              have b1 := z2.c1
              have b2 := z2.f0
              have b3 := z2.f1
              have hb4 := below_new w3 (.cells #[.int .i64 (Kp.tnow now t), .slice A' m' c'] 32)
              have hfB : From (X + 1) B := fun ad e => Nat.le_trans hXw2 (hnb3 ad e).1
              have R5 := Lib.hid ((((R1.out.1.below hb3).below hb4).set (j := 0) (u := .int .i64 (Kp.tnow now t)) R1.out.2).set (j := 1) (u := .slice A' m' c') R1.out.2)
              have Q5 := Lib.hid (((hrb3.below hb4).set (j := 0) (u := .int .i64 (Kp.tnow now t)) hfB).set (j := 1) (u := .slice A' m' c') hfB)
              have hrn : (r != r) = false := by simp
              clear hr3 hrb3 hn3 hnb3 hb3 z1 z2 hp HRf C2 X2 v0 v1 P1 y0 y1 y2 hb4 hfB R1
              go_wp2_with fail
              refine (ints_row A1 B k1 mb d1 cb _ _ _ rfl R5.out Q5.out).mono ?_
              rintro e w6 ⟨rfl, hb6⟩
              have P6 := Lib.hid (PE.out.step hb6)
              clear hb6 PE R5 Q5 a0 a1 b0 b1 b2 b3
              go_wp2_with fail
              go_meet
              exact ⟨F, _, _, A', m', c', P6⟩
            · have hk3' : (kd == 1) = false := by rw [beq_eq_false_iff_ne]; exact hk2'
              have HT := Lib.hid (co_wake P1.out.co g)
              obtain ⟨T, hT⟩ : ∃ T, T = Kp.has S g := ⟨_, rfl⟩
              have HTT := Lib.hid hT
              rw [← hT] at HT
              clear hT hk0 hk2'
              go_wp2_with fail
              refine HT.out.mono ?_
              rintro e w2 ⟨rfl, h2, hk3⟩
              have C2 := Lib.hid (h2.more (by omega))
              have X2 := Lib.hid (P1.out.xd.turned (Turned.of_kept hk3))
              have D2 := D1.out.kept hk3 hD
              have y0 := D2.c0
              have y1 := D2.c1
              have y2 := D2.c2
              simp only at y0 y1 y2
              have v0 := X2.out.cel.c0
              have v1 := X2.out.cel.c1
              have HRf := Lib.hid (refWake_any now A m c S g w2 X2.out.row (by omega))
              rw [← HTT.out] at HRf
              clear h2 hk3 HT D2
              go_wp2_with fail
              refine HRf.out.mono ?_
              rintro e w3 ⟨A', m', c', rfl, hr3, hn3, hb3⟩
              obtain ⟨⟨z1, z2⟩, hp⟩ := Pl.put C2.out X2.out P1.out.ge hb3 hr3 hn3 rfl
              have PE := Lib.hid hp
              have a0 := z1.c0
              have a1 := z1.c1
              have b0 := z2.c0
              have b1 := z2.c1
              have b2 := z2.f0
              have b3 := z2.f1
              have hrn : (T != T) = false := by simp
              clear hr3 hn3 hb3 z1 z2 hp HRf C2 X2 v0 v1 P1 y0 y1 y2
              go_wp2_with fail
              go_meet
              exact ⟨F, now, _, A', m', c', PE⟩
        case rest =>
          obtain ⟨F2, now2, S2, A2, m2, c2, P2⟩ := hcut
          clear P1 D1 hD hDX hlX q0 q1 q2
          have v0 := P2.out.xd.cel.c0
          have v1 := P2.out.xd.cel.c1
          have hms2 : m2 ≤ 100000 := by have h1 := P2.out.xd.row.len; have h2 := P2.out.co.ck.len; omega
          have hnn : (now2 != now2) = false := by simp
          have bz : Below wc.heap.size wc wc.drew := (Below.refl _ _).drew
          go_wp2_with fail
          go_region_held3 (fun w' => w'.cell? ⟨X, 0, none⟩ = some (.int .i64 now2) ∧ w'.cell? ⟨X, 1, none⟩ = some (.slice A2 m2 c2))
            (first
              | (go_split_ands; refine ⟨keepcell hbX (by assumption), keepcell hbX (by assumption)⟩)
              | (refine ⟨v0, v1⟩))
            (first
              | (go_at_call 17; refine (co_now_below (P2.out.step bz).co).mono ?_; rintro e u1 ⟨rfl, hbX⟩; have b1 := held_trans bz hbX)
              | (go_at_call 18; refine (co_asleep (P2.out.step b1).co).mono ?_; rintro e u2 ⟨⟨A5, n5, d5, rfl, hr5, _⟩, _, hbX⟩; have b2 := held_trans b1 hbX)
              | (go_at_call 19; refine (refWho_any now2 A2 m2 c2 S2 _ (P2.out.step b2).xd.row hms2).mono ?_; rintro e u3 hM; obtain ⟨A6, n6, d6, rfl, hr6, _, hbX⟩ := hM.madeR; have R5 := hr5.below hbX; have b3 := held_trans b2 hbX)
              | (go_at_call 14; refine (ints_row A5 A6 n5 n6 d5 d6 (Kp.ids S2) (Kp.ids S2) _ rfl R5 hr6).mono ?_; rintro e u4 ⟨rfl, hbX⟩; have b4 := held_trans b3 hbX))
          have P9 := Lib.hid (P2.out.step b4)
          clear hbX b1 b2 b3 b4 bz hr5 hr6 R5 v0 v1 P2
          go_wp2_with fail
          go_roundw
          case rel => exact ⟨k + 1, F2, now2, S2, A2, m2, c2, by omega, by omega, by go_num, P9⟩
          case measure => simp [intOf]; omega
      · obtain rfl : k = 200 := by omega
        go_wp2_with fail
        go_ret
        exact ⟨rfl, P.out.co.below⟩
    · obtain rfl : k = n := by omega
      go_wp2_with fail
      go_ret
      exact ⟨rfl, P.out.co.below⟩
set_option maxRecDepth 100000 in
theorem lifted (os : Os) (started : os.Started) (H : Type) (enc : TypeId × Value → H) :
    ReturnsInHanded {} Try.checked os 3 .any (Rows.clockPlaysSpec.pre6 enc Try.prog Try.f3 Rows.clockPlaysRow.domain false) (Rows.clockPlaysSpec.post enc Try.prog Try.f3 false true false false) := by
  refine returnsInHanded_of_change (C := Try.checked) own started (by kernel_rfl) Try.func3
    (ChangeSpec.witness6 (enc := enc) (C := Try.checked) false ⟨#[], #[.slice none 0 0], []⟩ 8 (by kernel_rfl) (by kernel_rfl) (by kernel_rfl) (by kernel_rfl)) ?_
  intro W base args ds gs before hval0 hW hcnd _
  have hval : ∀ (j : Nat) t v, Try.f3.params[j]? = some t → args[j]? = some v → Value.okWide Try.prog W .any base t v := hval0
  have hW' := hW
  obtain ⟨p, q, hA0, hV, rfl, hfz, hnd⟩ := hW
  have hA : DataW.TrodAll enc Try.prog W 0 (fun _ => true) true Try.f3.params.toList args.toList ds p := hA0
  rw [Try.params3] at hA hval
  obtain ⟨v0, vs0, d0, ds0, p0, q0, hargs, rfl, rfl, h0, r0⟩ := trodAll_cons hA
  obtain ⟨rfl, rfl, rfl⟩ := trodAll_nil r0
  obtain rfl : args = #[v0] := by cases args; simp_all
  obtain ⟨rfl, rfl⟩ := trodVars_none hV
  have k0 := h0
  have lt0 : ∀ x ∈ p0, x.block < W.heap.size := by obtain ⟨m, hm⟩ := k0; exact DataW.trod_lt m _ _ _ hm
  obtain ⟨a0, len0, cap0, rfl⟩ := okWide_slice Try.underlying22 (hval 0 22 v0 rfl rfl)
  obtain ⟨aa0, ll0, cc0, z0, ev0, hn0, hr0⟩ : ∃ A n c zs, Value.slice a0 len0 cap0 = .slice A n c ∧ (zs.length = n ∧ n ≤ 9223372036854775807) ∧ Fit3 zs ∧ DRow W A zs := by
    obtain ⟨fuel, hf⟩ := h0
    exact open_deeds (by simpa [Value.cells] using hf)
  injection ev0 with ea0 eb0 ec0
  subst ea0 eb0 ec0
  clear hA0 hval0
  refine (walk a0 len0 cap0 z0 W (Lib.hid hn0.1) hn0.2 (Lib.hid hr0.1) hr0.2).mono fun e W' ⟨he, bel⟩ => ?_
  subst he
  exact ⟨_, rfl, _, _, _, [], _, [], hW', trodAll_mk1 (shut_bool Try.underlying4 _), (trodAll_cons_mk (Below.trod laidOut (by kernel_rfl) (of_decide_eq_true (by kernel_rfl)) k0 bel lt0) trodAll_mk0), rfl, bel.frame _, fun h => by cases h⟩
theorem over : Rows.clockPlaysRow.holds Try.pinned (OpenSpec.ofChange Rows.clockPlaysSpec) :=
  OpenClaim.holds_of_wide 3 Try.f3 rfl rfl rfl rfl rfl rfl rfl ⟨rfl, rfl, rfl, rfl, rfl⟩ rfl rfl rfl rfl rfl (by kernel_rfl) Try.func3 (by kernel_rfl)
    (of_decide_eq_true (by kernel_rfl)) (by unfold Func.isWrapper; first | (rw [if_pos (by decide +kernel)]; kernel_rfl) | (rw [if_neg (by decide +kernel)]; exact ⟨rfl, rfl⟩))
    (fun os started H enc _ => lifted os started H enc)
theorem proved : Rows.ClockPlaysSaid := over
end Go.Proofs.Ytgknbjiocgcmdaa.clockPlays

