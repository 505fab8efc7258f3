/- ArenaOnce: a number lives at most once at a time; as many can be taken as there is room; its generations rise: the call answers true and changes nothing that was there; for every input. -/
import Derived.Test.YtncmliojndgoiaaVCel
import Derived.Test.YtncmliojndgoiaaFrame
namespace Go.Proofs.Ytncmliojndgoiaa.arenaOnce
open Go.ChangeShapes Go.WideShapes Go.ChangeAt Go.RowKit
set_option linter.unusedVariables false

set_option maxHeartbeats 4000000 in
set_option maxRecDepth 100000 in
theorem walk (z0 : Int) (A : Option Addr) (N c : Nat) (zs : List Int) (w : World) (hu : (Lit.int .u8 z0).wf = true) (hn : Hid (zs.length = N)) (hl : N ≤ 9223372036854775807) (hr : BRow w A zs) :
    Calls Try.prog 4 #[.int .u8 z0, .slice A N c] w fun e w' => e = .returned (.bool true) ∧ Below w.heap.size w w' := by
  have hu' : 0 ≤ z0 ∧ z0 ≤ 255 := by simpa [Lit.wf, IntKind.min, IntKind.max, IntKind.signed, IntKind.bits] using hu
  obtain ⟨u0, u1⟩ := hu'
  obtain ⟨r, m1, hr'⟩ := mod_nat 64 u0 (by omega)
  have m1 : z0.tmod 64 = (r : Int) := m1
  have m2 : z0 % 64 = (r : Int) := by rw [← m1, Int.tmod_eq_emod_of_nonneg u0]
  have HR := Lib.hid hr
  obtain ⟨i0, hi, hz0, hz1, hz2⟩ := info_parts info_int
  clear hu hr
  go_enter Try.func4, Try.ntmps4
  go_wp2_with fail
  refine (shown_any _).mono ?_
  rintro e w1 ⟨rfl, hb1⟩
  have B1 := Lib.hid hb1
  clear hb1
  go_wp2_with fail
  obtain ⟨n, hn'⟩ : ∃ n : Nat, n = r + 1 := ⟨_, rfl⟩
  have hnr : 1 + (r : Int) = (n : Int) := by omega
  rw [hnr]
  clear m1 m2 hnr u0 u1
  refine (new_yes n w1 (by omega) (by omega)).mono ?_
  intro e w2 hN
  have C1 := Lib.hid (VC.new B1.out hN)
  obtain ⟨rfl, hx⟩ := hN
  clear hx
  generalize w1.heap.size + 1 = b at C1 ⊢
  generalize (fun k => k = w1.heap.size ∨ k = b) = F at C1
  have F1 := Lib.hid (Vp.Fresh.new n)
  have hn1 : 1 ≤ n ∧ n ≤ 64 := by omega
  obtain ⟨hn1, hn2⟩ := hn1
  clear hn' hr'
  have O1 := Lib.hid (VOwn.nil w2 F w.heap.size)
  go_wp2_with fail
  go_loopw [9, 10] (fun v i wr => ∃ (k : Nat) (a : Vp.Ar), k ≤ n ∧ i = .int .i64 k ∧ Hid (VC w wr b F a k) ∧ Hid (Vp.Fresh a n k) ∧ Hid (VOwn wr F w.heap.size v k a.live)) (fun _ i _ => n - (intOf i).toNat)
  case atStart => exact ⟨0, Vp.new n, Nat.zero_le _, rfl, C1, F1, O1⟩
  case round =>
    obtain ⟨k, a, hk, rfl, HC, HF, HO⟩ := hrel
    by_cases hkn : k < n
    · obtain ⟨a', ht, hf'⟩ := HF.out.take hkn
      obtain ⟨tv, ta⟩ := tookV_of ht
      have HF' := Lib.hid hf'
      have HT := Lib.hid tv
      have HTA := Lib.hid ta
      have L1 := Lib.hid (show Tp.has a.live ((k : Int) + 1) = false by unfold Tp.has; rw [fresh_has HF.out, decide_eq_false_iff_not]; omega)
      have HLV := Lib.hid (show a'.live = a.live ++ [(k : Int) + 1] by rw [hf'.live, HF.out.live, List.range_succ, List.map_append]; rfl)
      obtain ⟨Av, cv, hv, _⟩ := HO.out.row
      subst hv
      clear hf' tv ta ht
      go_wp2_with fail
      refine (take_any b F a k wr HC.out.ar (by omega)).mono ?_
      intro e w3 ht
      have C3 := Lib.hid (HC.out.took ht)
      have O3 := Lib.hid (HO.out.kept ht.2.2 (fun j hj => .inl hj))
      obtain ⟨rfl, hx⟩ := ht
      rw [HTA.out] at C3
      rw [HT.out]
      clear hx HO
      obtain ⟨Av', cv', hv, R3⟩ := O3.out.row
      injection hv with ea eb ec
      subst ea ec
      clear eb
      go_wp2_with fail
      refine (in_any Av k cv a.live ((k : Int) + 1) w3 w3.heap.size (Lib.hid R3.len) (by omega) R3.row).mono ?_
      rintro e w4 ⟨rfl, rfl⟩
      rw [L1.out]
      clear R3
      have ho := O3.out.own
      go_wp2_with (at_builtin; refine wpList_append_lies _ rfl _ _ 22 rfl w.heap.size 3 i0 (.int .i64 0) 1 8 Try.underlying22 hi hz0 hz1 hz2 rfl (by decide) (.slice Av k cv) k (a.live.map (Value.int .i64)) rfl (ho.alloc _) ⟨w4.heap.size, 0, none⟩ 1 1 [.int .i64 (k + 1)] rfl rfl (one_new _ _) (ints_oneCell .i64 [(k : Int) + 1]) (by decide) (by unfold maxLen; omega) (by omega) (by have := C3.out.below.size; simp; omega) _ rfl ?_; intro gg cap w5 ho5 hg5 hat hlt5)
      have O5 := Lib.hid (O3.out.more C3.out.ar.lt ho5 hat)
      have C5 := Lib.hid ((C3.out.step (below_new w4 (.cells #[.int .i64 ((k : Int) + 1)] 3))).grown hg5 O3.out.inb)
      rw [← HLV.out] at O5
      clear ho ho5 hg5 hat hlt5
      go_wp2_with fail
      go_roundw
      case rel => exact ⟨k + 1, a', by omega, by go_num, C5, HF', O5⟩
      case measure => simp [intOf]; omega
    · obtain rfl : k = n := by omega
      have ht := HF.out.full
      obtain ⟨tv, ta⟩ := tookV_of ht
      have HT := Lib.hid tv
      have HTA := Lib.hid ta
      have U0 := Lib.hid HF.out.toFull
      clear tv ta ht HO
      go_wp2_with fail
      refine (take_any b F a k wr HC.out.ar (by omega)).mono ?_
      intro e w3 ht
      have C3 := Lib.hid (HC.out.took ht)
      obtain ⟨rfl, hx⟩ := ht
      rw [HTA.out] at C3
      rw [HT.out]
      clear hx HF HC HT HTA
      go_wp2_with fail
      go_loopw [17] (fun i wr => ∃ (j : Nat) (F : Nat → Prop) (a : Vp.Ar), j ≤ N ∧ j ≤ 100 ∧ i = .int .i64 j ∧ Hid (VC w wr b F a (k + 1 + j)) ∧ Hid (Full a k)) (fun i _ => 100 - (intOf i).toNat)
      case atStart => exact ⟨0, F, a, Nat.zero_le _, Nat.zero_le _, rfl, Lib.hid (by simpa using C3.out), U0⟩
      case round =>
        obtain ⟨j, F', a', hj, hj2, rfl, HC, HU⟩ := hrel
        by_cases hlt : j < N
        · by_cases h100 : j < 100
          · obtain ⟨z, hz⟩ : ∃ z, zs[j]? = some z := ⟨_, List.getElem?_eq_getElem (by have := hn.out; omega)⟩
            obtain ⟨b', off, hAA, hlt', hc, y0, y1⟩ := HR.out j z hz
            subst hAA
            have hcw : wr.cell? ⟨b', off + j, none⟩ = some (.int .u8 z) := (HC.out.below.cell (p := ⟨b', off + j, none⟩) hlt').trans hc
            obtain ⟨r, m1, hrn⟩ := mod_nat k y0 (by omega)
            have m2 : z % (k : Int) = (r : Int) := by rw [← m1, Int.tmod_eq_emod_of_nonneg y0]
            have k0 : ((k : Int) == 0) = false := by rw [beq_eq_false_iff_ne]; omega
            clear hz hc
            go_wp2_with fail
            obtain ⟨g, hg⟩ : ∃ g : Int, g = 1 + (r : Int) := ⟨_, rfl⟩
            rw [← hg]
            have hg1 : 1 ≤ g ∧ g ≤ k := by omega
            have hgl := HU.out.mem hg1.1 hg1.2
            obtain ⟨ka, hka⟩ := HU.out.ok
            obtain ⟨a2, ht, e1, e2, e3, e4, e5⟩ := hka.again HU.out.freed hgl
            obtain ⟨tv, ta⟩ := tookV_of ht
            have HT := Lib.hid tv
            have HTA := Lib.hid ta
            have HG5 := Lib.hid e5
            have HLN := Lib.hid (show a2.live.length = k by rw [e3]; exact HU.out.len)
            have HU2 := Lib.hid (show Full a2 k from ⟨⟨_, e1⟩, e2, e4.trans HU.out.room, e3.trans HU.out.len⟩)
            have L1 := Lib.hid (show a'.live.contains g = true from List.contains_iff_mem.2 hgl)
            obtain ⟨q0, q1⟩ := HC.out.ar.gen_le g (by omega)
            obtain ⟨n0, hn0⟩ : ∃ n0, n0 = Vp.gen a' g := ⟨_, rfl⟩
            rw [← hn0] at HT HG5 q0 q1
            have HN0 := Lib.hid hn0
            have hwr : IntKind.i64.wrap (n0 + 1) = n0 + 1 := IntWalk.i64_in _ (by omega)
            have x1 : (g != g) = false := by simp
            have x2 : (n0 + 1 != n0 + 1) = false := by simp
            have x3 : ((k : Int) != (k : Int)) = false := by simp
            have hg64 := in64_small (g := g) (by omega) (by omega)
            clear tv ta ht e1 e2 e3 e4 e5 hka hgl hn0 hg m1 m2
            refine (gen_any b F' a' _ g wr HC.out.ar).mono ?_
            rintro e w4 ⟨rfl, rfl⟩
            rw [← HN0.out]
            go_wp2_with fail
            refine (free_any b F' a' _ g wr HC.out.ar hg64).mono ?_
            rintro e w5 ⟨rfl, F5, h1, h2, h3⟩
            have C5 := Lib.hid (HC.out.freed h1 h2 h3)
            rw [L1.out]
            clear h1 h2 h3
            go_wp2_with fail
            refine (take_any b F5 _ _ w5 C5.out.ar (by omega)).mono ?_
            intro e w6 ht
            have C6 := Lib.hid (C5.out.took ht)
            obtain ⟨rfl, hx⟩ := ht
            rw [HTA.out] at C6
            rw [HT.out]
            clear hx hcw
            go_wp2_with fail
            refine (gen_any b F5 a2 _ g w6 C6.out.ar).mono ?_
            rintro e w7 ⟨rfl, rfl⟩
            rw [HG5.out]
            go_wp2_with fail
            refine (count_any b F5 a2 _ w6 C6.out.ar).mono ?_
            rintro e w7 ⟨rfl, rfl⟩
            rw [HLN.out]
            go_wp2_with fail
            go_roundw
            case rel => exact ⟨j + 1, F5, a2, by omega, by omega, by go_num, Lib.hid (by have := C6.out; rw [show (k : Int) + 1 + ((j + 1 : Nat) : Int) = (k : Int) + 1 + (j : Int) + 1 by omega]; exact this), HU2⟩
            case measure => simp [intOf]; omega
          · obtain rfl : j = 100 := by omega
            go_wp2_with fail
            go_ret
            exact ⟨rfl, HC.out.below⟩
        · obtain rfl : j = N := by omega
          go_wp2_with fail
          go_ret
          exact ⟨rfl, HC.out.below⟩
set_option maxRecDepth 100000 in
theorem lifted (os : Os) (started : os.Started) (H : Type) (enc : TypeId × Value → H) :
    ReturnsInHanded {} Try.checked os 4 .any (Rows.arenaOnceSpec.pre6 enc Try.prog Try.f4 Rows.arenaOnceRow.domain false) (Rows.arenaOnceSpec.post enc Try.prog Try.f4 false true false false) := by
  refine returnsInHanded_of_change (C := Try.checked) own started (by kernel_rfl) Try.func4
    (ChangeSpec.witness6 (enc := enc) (C := Try.checked) false ⟨#[], #[.int .u8 0, .slice none 0 0], []⟩ 8 (by kernel_rfl) (by kernel_rfl) (by kernel_rfl) (by kernel_rfl)) ?_
  intro W base args ds gs before hval0 hW hcnd _
  have hval : ∀ (j : Nat) t v, Try.f4.params[j]? = some t → args[j]? = some v → Value.okWide Try.prog W .any base t v := hval0
  have hW' := hW
  obtain ⟨p, q, hA0, hV, rfl, hfz, hnd⟩ := hW
  have hA : DataW.TrodAll enc Try.prog W 0 (fun _ => true) true Try.f4.params.toList args.toList ds p := hA0
  rw [Try.params4] at hA hval
  obtain ⟨v0, vs0, d0, ds0, p0, q0, hargs, rfl, rfl, h0, r0⟩ := trodAll_cons hA
  obtain ⟨v1, vs1, d1, ds1, p1, q1, rfl, rfl, rfl, h1, r1⟩ := trodAll_cons r0
  obtain ⟨rfl, rfl, rfl⟩ := trodAll_nil r1
  obtain rfl : args = #[v0, v1] := by cases args; simp_all
  obtain ⟨rfl, rfl⟩ := trodVars_none hV
  obtain ⟨a0, rfl, rfl, rfl, w0⟩ := open_int Try.underlying5 (hval 0 5 v0 rfl rfl) h0
  have k1 := h1
  have lt1 : ∀ x ∈ p1, x.block < W.heap.size := by obtain ⟨m, hm⟩ := k1; exact DataW.trod_lt m _ _ _ hm
  obtain ⟨a1, len1, cap1, rfl⟩ := okWide_slice Try.underlying44 (hval 1 44 v1 rfl rfl)
  obtain ⟨aa1, ll1, cc1, z1, ev1, hn1, hr1⟩ : ∃ A n c zs, Value.slice a1 len1 cap1 = .slice A n c ∧ (zs.length = n ∧ n ≤ 9223372036854775807) ∧ BRow W A zs := by
    obtain ⟨fuel, hf⟩ := h1
    exact open_bytes (by simpa [Value.cells] using hf)
  injection ev1 with ea1 eb1 ec1
  subst ea1 eb1 ec1
  clear hA0 hval0
  refine (walk a0 a1 len1 cap1 z1 W w0 (Lib.hid hn1.1) hn1.2 hr1).mono fun e W' ⟨he, bel⟩ => ?_
  subst he
  exact ⟨_, rfl, _, _, _, [], _, [], hW', trodAll_mk1 (shut_bool Try.underlying4 _), (trodAll_cons_mk (shut_int Try.underlying5 w0) (trodAll_cons_mk (Below.trod laidOut (by kernel_rfl) (of_decide_eq_true (by kernel_rfl)) k1 bel lt1) trodAll_mk0)), rfl, bel.frame _, fun h => by cases h⟩
theorem over : Rows.arenaOnceRow.holds Try.pinned (OpenSpec.ofChange Rows.arenaOnceSpec) :=
  OpenClaim.holds_of_wide 4 Try.f4 rfl rfl rfl rfl rfl rfl rfl ⟨rfl, rfl, rfl, rfl, rfl⟩ rfl rfl rfl rfl rfl (by kernel_rfl) Try.func4 (by kernel_rfl)
    (of_decide_eq_true (by kernel_rfl)) (by unfold Func.isWrapper; first | (rw [if_pos (by decide +kernel)]; kernel_rfl) | (rw [if_neg (by decide +kernel)]; exact ⟨rfl, rfl⟩))
    (fun os started H enc _ => lifted os started H enc)
theorem proved : Rows.ArenaOnceSaid := over
end Go.Proofs.Ytncmliojndgoiaa.arenaOnce

