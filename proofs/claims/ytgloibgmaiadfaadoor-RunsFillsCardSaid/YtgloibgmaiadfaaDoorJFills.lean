/- RunsFills: put one by one to one processor all stand there, or in the row of its node; the ring never has more than its size: the call answers true and changes nothing that was there; for every input. -/
import Derived.Test.YtgloibgmaiadfaaDoorJFill
namespace Go.Proofs.YtgloibgmaiadfaaDoor.runsFills
open Go.ChangeShapes Go.WideShapes Go.ChangeAt Go.RowKit
set_option linter.unusedVariables false

theorem mod_nat (m : Nat) {z : Int} (h : 0 ≤ z) (hm : 0 < m) : ∃ r : Nat, z.tmod (m : Int) = (r : Int) ∧ z % (m : Int) = (r : Int) ∧ r < m := by
  obtain ⟨n, rfl⟩ := Int.eq_ofNat_of_zero_le h
  exact ⟨n % m, by rw [Int.tmod_eq_emod_of_nonneg h]; rfl, rfl, Nat.mod_lt _ hm⟩
theorem yes_of {P : Prop} (h : P) : true = true ↔ P := ⟨fun _ => h, fun _ => rfl⟩
set_option maxRecDepth 100000 in
set_option maxHeartbeats 4000000 in
theorem walk (A : Option Addr) (n c : Nat) (vs : List (Int × Int)) (sz pp mm : Int) (w : World) (hn : Hid (vs.length = n)) (hl : n ≤ 9223372036854775807) (hf : Hid (Fit vs)) (hv : VRow w w.heap.size A vs)
    (hu1 : (Lit.int .u8 sz).wf = true) (hu2 : (Lit.int .u8 pp).wf = true) (hu3 : (Lit.int .u8 mm).wf = true) (hT : Tab w) :
    Calls Tryd.prog 7 #[.slice A n c, .int .u8 sz, .int .u8 pp, .int .u8 mm] w fun e w' => e = .returned (.bool true) ∧ Below w.heap.size w w' := by
  have hz' : 0 ≤ sz ∧ sz ≤ 255 := by simpa [Lit.wf, IntKind.min, IntKind.max, IntKind.signed, IntKind.bits] using hu1
  have hp' : 0 ≤ pp ∧ pp ≤ 255 := by simpa [Lit.wf, IntKind.min, IntKind.max, IntKind.signed, IntKind.bits] using hu2
  have hm' : 0 ≤ mm ∧ mm ≤ 255 := by simpa [Lit.wf, IntKind.min, IntKind.max, IntKind.signed, IntKind.bits] using hu3
  obtain ⟨u0, u1⟩ := hz'
  obtain ⟨u2, u3⟩ := hp'
  obtain ⟨u4, u5⟩ := hm'
  obtain ⟨s, m1, m2, hs⟩ := mod_nat 15 u0 (by omega)
  obtain ⟨N, m3, m4, hN⟩ := mod_nat 60 u4 (by omega)
  have m1 : sz.tmod 15 = (s : Int) := m1
  have m2 : sz % 15 = (s : Int) := m2
  have m3 : mm.tmod 60 = (N : Int) := m3
  have m4 : mm % 60 = (N : Int) := m4
  have s1 : IntKind.i64.wrap (2 + (s : Int)) = 2 + (s : Int) := IntWalk.i64_in _ (by omega)
  clear hu1 hu2 hu3
  have HV := Lib.hid hv
  have HTW := Lib.hid hT
  have HLI := Lib.hid (show vs ≠ [] → ∀ ad, A = some ad → ad.block < w.heap.size from fun hne ad hA => by
    obtain ⟨x0, hx0⟩ : ∃ x, vs[0]? = some x := ⟨_, List.getElem?_eq_getElem (List.length_pos_iff.2 hne)⟩
    obtain ⟨b, off, e5, hb, _⟩ := hv 0 x0 hx0
    rw [hA] at e5
    injection e5 with e5
    subst e5
    exact hb)
  clear hv hT
  go_enter Tryd.func7, Tryd.ntmps7
  go_wp2_with fail
  refine (jshown_any w HTW.out).mono ?_
  rintro e w1 ⟨rfl, hb1⟩
  have B1 := Lib.hid hb1
  clear hb1
  by_cases h64 : 64 < n
  · have h64' : (64 : Int) < (n : Int) := by omega
    go_wp2_with fail
    go_ret
    exact ⟨rfl, B1.out⟩
  have h64' : ¬ (64 : Int) < (n : Int) := by omega
  have NW := Lib.hid (runsNew_any (F := fun b => b < w.heap.size) A n c vs (2 + (s : Int)) w1 hn hl hf ((HV.out.below B1.out).more B1.out.size) HLI.out (fun b hb => Nat.lt_of_lt_of_le hb B1.out.size) (by unfold In64; omega) (HTW.out.step B1.out))
  obtain ⟨p, hp⟩ : ∃ p, p = Jp.new vs (2 + (s : Int)) := ⟨_, rfl⟩
  rw [← hp] at NW
  have HPN := Lib.hid hp
  clear hp
  go_wp2_with fail
  refine NW.out.mono ?_
  rintro e w2 ⟨⟨A1, nt1, ct1, R1, nr1, cr1, S1, ns1, cs1⟩, rfl, hm2, hb2⟩
  unfold jv
  simp only
  have hbn := below_new w2 (.cells #[.slice A1 nt1 ct1, .int .i64 p.1.size, .slice R1 nr1 cr1, .slice S1 ns1 cs1, .int .u64 (p.1.on : Nat)] 29)
  have hO := C5.new w2 (.slice A1 nt1 ct1) (.int .i64 p.1.size) (.slice R1 nr1 cr1) (.slice S1 ns1 cs1) (.int .u64 (p.1.on : Nat)) 29
  obtain ⟨V3, hV3⟩ : ∃ V3, V3 = w2.alloc (.cells #[.slice A1 nt1 ct1, .int .i64 p.1.size, .slice R1 nr1 cr1, .slice S1 ns1 cs1, .int .u64 (p.1.on : Nat)] 29) := ⟨_, rfl⟩
  rw [← hV3] at hbn hO
  have E3 := Lib.hid hV3
  have hbe := held_trans B1.out hb2
  obtain ⟨X, hX⟩ : ∃ X, X = w2.heap.size := ⟨_, rfl⟩
  rw [← hX] at hO
  have M1 := (hm2.bound.mono (G := fun b => b ≠ X) (fun b hb => by have := hb.2; omega)).below hbn
  have M3 := Lib.hid (show RM (FX X V3) V3 ⟨A1, nt1, ct1, R1, nr1, cr1, S1, ns1, cs1⟩ p.1 from M1.bound)
  have O3 := Lib.hid hO
  have B3 := Lib.hid (held_trans hbe hbn)
  have HXW := Lib.hid (show w.heap.size ≤ X by rw [hX]; exact hbe.size)
  have HXE := Lib.hid hX
  clear hV3 hO hbn hbe hm2 hb2 hX M1 NW B1
  have t0 := O3.out.b5.c0
  have t1 := O3.out.b5.c1
  have t2 := O3.out.b5.c2
  have t3 := O3.out.b5.c3
  have t4 := O3.out.b5.c4
  rcases Jp.new_is vs (2 + (s : Int)) with ⟨hne, _⟩ | ⟨heq, hmay⟩
  · have hne : ¬ p.2 = 0 := by rw [HPN.out]; exact hne
    have hqq : (p.2 != 0) = true := by simp [hne]
    go_wp2_with (rw [← E3.out])
    rw [← HXE.out]
    have BE := B3
    go_wp2_with fail
    go_ret
    exact ⟨rfl, BE.out⟩
  obtain rfl : p = (Jp.made vs (2 + (s : Int)), 0) := HPN.out.trans heq
  obtain ⟨hr1, hr2, hr3⟩ := M3.out.nr
  simp only at hr1 hr2 hr3
  have hpos : 0 < nr1 := by
    rw [← hr1]
    have h1 := hmay.rings
    have h2 := Jp.procs_pos hmay.tree
    omega
  have hnz : ¬ (nr1 : Int) = 0 := by omega
  have hnb : ((nr1 : Int) == 0) = false := by simp; omega
  obtain ⟨q, m5, m6, hq⟩ := mod_nat nr1 u2 hpos
  have F0 := Lib.hid (Jp.fill_zero hmay (by have := hn.out; omega) (q := q) (by rw [hr1]; exact hq))
  rw [hr1] at F0
  simp only at O3 M3 E3 t0 t1 t2 t3 t4
  have y2 : V3.cell? ⟨w2.heap.size, 2, none⟩ = some (.slice R1 nr1 cr1) := by rw [← HXE.out]; exact t2
  clear HPN hr1 t2
  go_wp2_with (rw [← E3.out])
  rw [← HXE.out]
  have t2 := y2
  clear y2
  clear E3 HXE t0 t1 t2 t3 t4
  obtain ⟨r0, hr0⟩ : ∃ r0, r0 = Jp.made vs (2 + (s : Int)) := ⟨_, rfl⟩
  rw [← hr0] at F0 O3 M3
  clear hr0
  go_loopw [14] (fun i wr => ∃ k : Nat, k ≤ N ∧ i = .int .i64 ((k : Int) + 1) ∧ ∃ (r : Jp.Rn) (A0 : Option Addr) (nt ct : Nat) (R : Option Addr) (nr cr : Nat) (S : Option Addr) (ns cs : Nat), Hid (Jp.Fill r (2 + (s : Int)) nr1 q k) ∧ Hid (C5 wr X (.slice A0 nt ct) (.int .i64 r.size) (.slice R nr cr) (.slice S ns cs) (.int .u64 (r.on : Nat))) ∧ Hid (RM (FX X wr) wr ⟨A0, nt, ct, R, nr, cr, S, ns, cs⟩ r) ∧ Hid (Below w.heap.size w wr)) (fun i _ => N + 1 - (intOf i).toNat)
  case atStart => exact ⟨0, Nat.zero_le _, rfl, _, _, _, _, _, _, _, _, _, _, F0, O3, M3, B3⟩
  case round =>
    clear O3 M3 B3 F0
    obtain ⟨k, hk, rfl, r, A0, nt, ct, R, nr, cr, S, ns, cs, FK, OK, MK, BK⟩ := hrel
    have t0 := OK.out.b5.c0
    have t1 := OK.out.b5.c1
    have t2 := OK.out.b5.c2
    have t3 := OK.out.b5.c3
    have t4 := OK.out.b5.c4
    by_cases hlt : k < N
    · have l1 : (k : Int) + 1 ≤ (N : Int) := by omega
      have hPT := runsPut_any ⟨A0, nt, ct, R, nr, cr, S, ns, cs⟩ r (q : Int) ((k : Int) + 1) wr MK.out (fun b hb => hb.2) (FK.out.low (by omega)) (by unfold In64; omega) (by unfold In64; omega) (HTW.out.step BK.out)
      obtain ⟨hput, hfill⟩ := FK.out.step (by omega)
      obtain ⟨l, hring, hlen⟩ := FK.out.next (by omega)
      obtain ⟨r', hr'⟩ : ∃ r', r' = Jp.done r q ((k : Int) + 1) := ⟨_, rfl⟩
      rw [hput] at hPT
      rw [← hr'] at hPT hfill hring
      unfold jv at hPT
      simp only at hPT
      have PT := Lib.hid hPT
      have FK' := Lib.hid hfill
      have RG := Lib.hid hring
      have HLE := Lib.hid hlen
      clear hPT hput hfill hring hlen hr' FK
      go_wp2_with fail
      refine PT.out.mono ?_
      rintro e w2 ⟨⟨A1, nt1', ct1, R1, nr1', cr1, S1, ns1, cs1⟩, rfl, hm2, hb2⟩
      unfold jv
      simp only
      have hO3 := (OK.out.step hb2).step (below_new w2 (.cells #[.slice A1 nt1' ct1, .int .i64 r'.size, .slice R1 nr1' cr1, .slice S1 ns1 cs1, .int .u64 (r'.on : Nat)] 29))
      have hY3 := C5.new w2 (.slice A1 nt1' ct1) (.int .i64 r'.size) (.slice R1 nr1' cr1) (.slice S1 ns1 cs1) (.int .u64 (r'.on : Nat)) 29
      have hbn := below_new w2 (.cells #[.slice A1 nt1' ct1, .int .i64 r'.size, .slice R1 nr1' cr1, .slice S1 ns1 cs1, .int .u64 (r'.on : Nat)] 29)
      obtain ⟨W3, hW3⟩ : ∃ W3, W3 = w2.alloc (.cells #[.slice A1 nt1' ct1, .int .i64 r'.size, .slice R1 nr1' cr1, .slice S1 ns1 cs1, .int .u64 (r'.on : Nat)] 29) := ⟨_, rfl⟩
      rw [← hW3] at hO3 hY3 hbn
      have E3 := Lib.hid hW3
      have B3 := held_trans (held_trans BK.out hb2) hbn
      have hxl := OK.out.lt
      have M3 := (hm2.mono (G := fun b => b ≠ X) (fun b hb => by
        rcases hb with h | h
        · exact h.1
        · omega)).below hbn
      have M4 := M3.put (X := X) (fun h => h rfl) (.slice A1 nt1' ct1) (.int .i64 r'.size) (.slice R1 nr1' cr1) (.slice S1 ns1 cs1) (.int .u64 (r'.on : Nat))
      have MK4 := Lib.hid M4.bound
      have OK4 := Lib.hid (hO3.put (.slice A1 nt1' ct1) (.int .i64 r'.size) (.slice R1 nr1' cr1) (.slice S1 ns1 cs1) (.int .u64 (r'.on : Nat)))
      have BK4 := Lib.hid (below_put (b := X) B3 HXW.out (.slice A1 nt1' ct1) (.int .i64 r'.size) (.slice R1 nr1' cr1) (.slice S1 ns1 cs1) (.int .u64 (r'.on : Nat)))
      have v0 := hY3.b5.c0
      have v1 := hY3.b5.c1
      have v2 := hY3.b5.c2
      have v3 := hY3.b5.c3
      have v4 := hY3.b5.c4
      have x0 := hO3.b5.c0
      have x1 := hO3.b5.c1
      have x2 := hO3.b5.c2
      have x3 := hO3.b5.c3
      have x4 := hO3.b5.c4
      have f0 := hO3.f0
      have f1 := hO3.f1
      have f2 := hO3.f2
      have f3 := hO3.f3
      have f4 := hO3.f4
      unfold put5 at MK4 OK4 BK4
      clear hO3 hY3 hbn hW3 B3 M3 M4 hm2 hb2 t0 t1 t2 t3 t4 PT OK MK BK
      go_upto_region 13 with (rw [← E3.out])
      go_cut [] (fun wx => ∃ (A0 : Option Addr) (nt ct : Nat) (R : Option Addr) (nr cr : Nat) (S : Option Addr) (ns cs : Nat), Hid (C5 wx X (.slice A0 nt ct) (.int .i64 r'.size) (.slice R nr cr) (.slice S ns cs) (.int .u64 (r'.on : Nat))) ∧ Hid (RM (FX X wx) wx ⟨A0, nt, ct, R, nr, cr, S, ns, cs⟩ r') ∧ Hid (Below w.heap.size w wx))
      case first =>
        go_wp2_with fail
        go_meet
        exact ⟨_, _, _, _, _, _, _, _, _, OK4, MK4, BK4⟩
      case rest =>
        clear OK4 MK4 BK4 v0 v1 v2 v3 v4 x0 x1 x2 x3 x4 f0 f1 f2 f3 f4
        obtain ⟨A0, nt, ct, R, nr, cr, S, ns, cs, OK, MK, BK⟩ := hcut
        obtain ⟨rb, ro, Ar, na, ca, eR, _, c0, c1, hrow⟩ := MK.out.ringAt RG.out
        obtain ⟨hr1, hr2, hr3⟩ := MK.out.nr
        simp only at eR hr1 hr2 hr3 c0
        subst eR
        have hrl := hrow.len
        simp only at hrl
        have hsz := FK'.out.size
        have l2 : (q : Int) < (nr : Int) := by have := FK'.out.few; omega
        have l3 : (0 : Int) ≤ (q : Int) := by omega
        have l4 : ¬ r'.size < (na : Int) := by have := HLE.out; omega
        have d1 := OK.out.b5.c1
        have d2 := OK.out.b5.c2
        clear hrow hrl hsz hr1 hr2
        go_wp2_with fail
        go_quiet (fail)
        have wk : IntKind.i64.wrap ((k : Int) + 1 + 1) = ((k + 1 : Nat) : Int) + 1 := by
          rw [show (k : Int) + 1 + 1 = ((k + 1 : Nat) : Int) + 1 by omega]
          exact IntWalk.i64_in _ (by omega)
        go_wp2_with fail
        go_roundw
        case rel => exact ⟨k + 1, by omega, by first | exact wk | rw [wk] | (rw [wk]; omega) | go_num, r', _, _, _, _, _, _, _, _, _, FK', Lib.hid (OK.out.step (below_drewN (Below.refl _ _) _)), Lib.hid ((MK.out.below (below_drewN (Below.refl _ _) _)).mono (fun b hb => hb)), Lib.hid (held_trans BK.out (below_drewN (Below.refl _ _) _))⟩
        case measure => simp [intOf]; omega
    · obtain rfl : k = N := by omega
      have l1 : ¬ (k : Int) + 1 ≤ (k : Int) := by omega
      go_wp2_with fail
      go_loopw [17] (fun i wx => ∃ j : Nat, j ≤ k ∧ i = .int .i64 ((j : Int) + 1) ∧ Hid (C5 wx X (.slice A0 nt ct) (.int .i64 r.size) (.slice R nr cr) (.slice S ns cs) (.int .u64 (r.on : Nat))) ∧ Hid (RM (FX X wx) wx ⟨A0, nt, ct, R, nr, cr, S, ns, cs⟩ r) ∧ Hid (Below w.heap.size w wx)) (fun i _ => k + 1 - (intOf i).toNat)
      case atStart => exact ⟨0, Nat.zero_le _, rfl, OK, MK, BK⟩
      case round =>
        clear OK MK BK t0 t1 t2 t3 t4
        obtain ⟨j, hj, rfl, OJ, MJ, BJ⟩ := hrel
        have t0 := OJ.out.b5.c0
        have t1 := OJ.out.b5.c1
        have t2 := OJ.out.b5.c2
        have t3 := OJ.out.b5.c3
        have t4 := OJ.out.b5.c4
        have hlow := FK.out.low (by omega)
        by_cases hlt2 : j < k
        · have l2 : (j : Int) + 1 ≤ (k : Int) := by omega
          have hWH := runsWhere_any ⟨A0, nt, ct, R, nr, cr, S, ns, cs⟩ r ((j : Int) + 1) _ MJ.out hlow
          have hw := FK.out.where' (g := j + 1) (by omega) (by omega)
          rw [show ((j + 1 : Nat) : Int) = (j : Int) + 1 by omega] at hw
          have wk : IntKind.i64.wrap ((j : Int) + 1 + 1) = ((j + 1 : Nat) : Int) + 1 := by
            rw [show (j : Int) + 1 + 1 = ((j + 1 : Nat) : Int) + 1 by omega]
            exact IntWalk.i64_in _ (by omega)
          rcases hw with hw | ⟨m, hw⟩
          · skip
            rw [hw] at hWH
            unfold jv at hWH
            simp only at hWH
            have WH := Lib.hid hWH
            clear hWH hw hlow
            go_wp2_with fail
            refine WH.out.mono ?_
            rintro e w3 ⟨rfl, hb3⟩
            have OJ5 := Lib.hid (OJ.out.step hb3)
            have MJ5 := Lib.hid ((MJ.out.below hb3).mono (G := FX X w3) (fun b hb => ⟨hb.1, Nat.lt_of_lt_of_le hb.2 hb3.size⟩))
            have BJ5 := Lib.hid (held_trans BJ.out hb3)
            clear hb3 WH OJ MJ BJ t0 t1 t2 t3 t4
            go_wp2_with fail
            go_roundw
            case rel => exact ⟨j + 1, by omega, by first | exact wk | rw [wk] | (rw [wk]; omega) | go_num, OJ5, MJ5, BJ5⟩
            case measure => simp [intOf]; omega
          · have q1 : ((-1 : Int) != (q : Int)) = true := by first | (simp; done) | (simp; omega)
            have q2 : ((-1 : Int) == (q : Int)) = false := by first | (simp; done) | (simp; omega)
            have q3 : ¬ (m : Int) < 0 := by omega
            rw [hw] at hWH
            unfold jv at hWH
            simp only at hWH
            have WH := Lib.hid hWH
            clear hWH hw hlow
            go_wp2_with fail
            refine WH.out.mono ?_
            rintro e w3 ⟨rfl, hb3⟩
            have OJ5 := Lib.hid (OJ.out.step hb3)
            have MJ5 := Lib.hid ((MJ.out.below hb3).mono (G := FX X w3) (fun b hb => ⟨hb.1, Nat.lt_of_lt_of_le hb.2 hb3.size⟩))
            have BJ5 := Lib.hid (held_trans BJ.out hb3)
            clear hb3 WH OJ MJ BJ t0 t1 t2 t3 t4
            go_wp2_with fail
            go_roundw
            case rel => exact ⟨j + 1, by omega, by first | exact wk | rw [wk] | (rw [wk]; omega) | go_num, OJ5, MJ5, BJ5⟩
            case measure => simp [intOf]; omega
        · obtain rfl : j = k := by omega
          have hAL := runsAll_any ⟨A0, nt, ct, R, nr, cr, S, ns, cs⟩ r _ MJ.out hlow
          unfold jv at hAL
          simp only at hAL
          have AL := Lib.hid hAL
          have HLW := Lib.hid hlow
          have l2 : ¬ (j : Int) + 1 ≤ (j : Int) := by omega
          clear hAL hlow
          go_wp2_with fail
          refine AL.out.mono ?_
          rintro e w4 ⟨Az, nz, cz, rfl, hrz, _, hb4⟩
          have hkk : nz = j := hrz.len.symm.trans FK.out.len
          subst hkk
          have hMY := runsMay_any ⟨A0, nt, ct, R, nr, cr, S, ns, cs⟩ r true w4 (Lib.hid (yes_of FK.out.may)) (MJ.out.below hb4) HLW.out (HTW.out.step (held_trans BJ.out hb4))
          unfold jv at hMY
          simp only at hMY
          have MY := Lib.hid hMY
          have OJ2 := Lib.hid (OJ.out.step hb4)
          have BJ2 := Lib.hid (held_trans BJ.out hb4)
          clear hMY hrz hb4 AL t0 t1 t2 t3 t4 OJ BJ MJ
          have t0 := OJ2.out.b5.c0
          have t1 := OJ2.out.b5.c1
          have t2 := OJ2.out.b5.c2
          have t3 := OJ2.out.b5.c3
          have t4 := OJ2.out.b5.c4
          go_wp2_with fail
          refine MY.out.mono ?_
          rintro e w5 ⟨rfl, hb5⟩
          have BE := Lib.hid (held_trans BJ2.out hb5)
          clear hb5 MY
          go_wp2_with fail
          go_ret
          exact ⟨rfl, BE.out⟩
set_option maxRecDepth 100000 in
theorem lifted (os : Os) (started : os.Started) (H : Type) (enc : TypeId × Value → H) :
    ReturnsInHanded {} Tryd.checked os 7 .any (fun w args => (Rows.runsFillsSpec.pre enc Tryd.prog Tryd.f7 [] false w args ∧ laidMetH Tryd.prog laidList w) ∧ sizedMet enc Tryd.prog Tryd.f7 (OpenSpec.ofChange Rows.runsFillsSpec) false w args)
      (Rows.runsFillsSpec.post enc Tryd.prog Tryd.f7 false true false false) := by
  refine returnsInHanded_of_change_and (C := Tryd.checked) (X := fun w _ => laidMetH Tryd.prog laidList w) (fun _ _ _ hh h => h.of_heap hh) own started (by kernel_rfl) Tryd.func7
    (ChangeSpec.witness_shaped (enc := enc) (C := Tryd.checked) (os := os) (X := fun w _ => laidMetH Tryd.prog laidList w) false (World.doorLaid Tryd.prog 14 os) #[.slice none 0 0, .int .u8 0, .int .u8 0, .int .u8 0] 8 rfl (World.shaped_of_RefB (by kernel_rfl) (by kernel_rfl)) (by kernel_rfl) (by kernel_rfl) (by kernel_rfl) (door_met os _)) ?_
  intro W base args ds gs before hval0 hW _ _ hL _
  have hval : ∀ (j : Nat) t v, Tryd.f7.params[j]? = some t → args[j]? = some v → Value.okWide Tryd.prog W .any base t v := hval0
  have hW' := hW
  obtain ⟨p, q, hA0, hV, rfl, hfz, hnd⟩ := hW
  have hA : DataW.TrodAll enc Tryd.prog W 0 (fun _ => true) true Tryd.f7.params.toList args.toList ds p := hA0
  rw [Tryd.params7] at hA hval
  obtain ⟨v0, vs0, d0, ds0, p0, q0, hargs, rfl, rfl, h0, r0⟩ := trodAll_cons hA
  obtain ⟨v1, vs1, d1, ds1, p1, q1, rfl, rfl, rfl, h1, r1⟩ := trodAll_cons r0
  obtain ⟨v2, vs2, d2, ds2, p2, q2, rfl, rfl, rfl, h2, r2⟩ := trodAll_cons r1
  obtain ⟨v3, vs3, d3, ds3, p3, q3, rfl, rfl, rfl, h3, r3⟩ := trodAll_cons r2
  obtain ⟨rfl, rfl, rfl⟩ := trodAll_nil r3
  obtain rfl : args = #[v0, v1, v2, v3] := by cases args; simp_all
  obtain ⟨rfl, rfl⟩ := trodVars_none hV
  obtain ⟨a0, len0, cap0, rfl⟩ := okWide_slice Tryd.underlying22 (hval 0 22 v0 rfl rfl)
  have k0 := h0
  have lt0 : ∀ x ∈ p0, x.block < W.heap.size := by obtain ⟨m, hm⟩ := k0; exact DataW.trod_lt m _ _ _ hm
  obtain ⟨hl0, hc0, z0, hn0, hf0, hr0⟩ : len0 ≤ 9223372036854775807 ∧ (len0 ≤ cap0 ∧ cap0 ≤ 9223372036854775807) ∧ ∃ vs : List (Int × Int), vs.length = len0 ∧ Fit vs ∧ VRow W W.heap.size a0 vs := by
    obtain ⟨fuel, hf⟩ := h0
    exact open_vs (by simpa [Value.cells] using hf)
  obtain ⟨a1, rfl, rfl, rfl, w1⟩ := open_int Tryd.underlying5 (hval 1 5 v1 rfl rfl) h1
  obtain ⟨a2, rfl, rfl, rfl, w2⟩ := open_int Tryd.underlying5 (hval 2 5 v2 rfl rfl) h2
  obtain ⟨a3, rfl, rfl, rfl, w3⟩ := open_int Tryd.underlying5 (hval 3 5 v3 rfl rfl) h3
  clear hA0 hval0
  refine (walk a0 len0 cap0 z0 a1 a2 a3 W (Lib.hid hn0) hl0 (Lib.hid hf0) hr0 w1 w2 w3 (tab_of_laid hL)).mono fun e W' ⟨he, bel⟩ => ?_
  subst he
  exact ⟨_, rfl, _, _, _, [], _, [], hW', trodAll_mk1 (shut_bool Tryd.underlying4 _), (trodAll_cons_mk (Below.trod laidOut (by kernel_rfl) (of_decide_eq_true (by kernel_rfl)) k0 bel lt0) (trodAll_cons_mk (shut_int Tryd.underlying5 w1) (trodAll_cons_mk (shut_int Tryd.underlying5 w2) (trodAll_cons_mk (shut_int Tryd.underlying5 w3) trodAll_mk0)))), rfl, bel.frame _, fun h => by cases h⟩
theorem over : Rows.RunsFillsSaid :=
  OpenClaim.holds_of_wide 7 Tryd.f7 rfl rfl rfl rfl rfl rfl rfl ⟨rfl, rfl, rfl, rfl, rfl⟩ rfl rfl rfl rfl rfl (by kernel_rfl) Tryd.func7 (by kernel_rfl)
    (of_decide_eq_true (by kernel_rfl)) (by unfold Func.isWrapper; first | (rw [if_pos (by decide +kernel)]; kernel_rfl) | (rw [if_neg (by decide +kernel)]; exact ⟨rfl, rfl⟩))
    (fun os started H enc _ => lifted os started H enc)
theorem proved : Rows.RunsFillsCardSaid :=
  Claim7.holds_tied_plain_at .later [] [.data] true Rows.runsFillsCard.stood.harness false
    over (fun _ h => by cases h) (by kernel_rfl) (fun _ h => by cases h) runsFills_row_tie rfl ⟨rfl, rfl⟩ (by kernel_rfl) rfl
    (fun f fn hf hfn => by
      obtain rfl : f = 7 := Option.some.inj ((show Tryd.prog.funcNamed "catafalque/catafalquelaw15.RunsFills" = some 7 by kernel_rfl).symm.trans hf) |>.symm
      obtain rfl : fn = Tryd.f7 := (Option.some.inj (Tryd.func7.symm.trans hfn)).symm
      exact ⟨by kernel_rfl, fun j t ht => by
        rw [Tryd.params7] at ht
        have hm : t ∈ [22, 5, 5, 5] := by simpa using Array.mem_of_getElem? ht
        have hall : ([22, 5, 5, 5].all fun u => !Tryd.prog.wantsStandIn u) = true := by kernel_rfl
        exact (show Tryd.prog.wantsStandIn t = false by simpa using List.all_eq_true.1 hall t hm)⟩)
    (by kernel_rfl)
end Go.Proofs.YtgloibgmaiadfaaDoor.runsFills

