/- FifoBack: who is dropped, and pushed again, is the last one, and as many stand there: the call answers true and changes nothing that was there; for every input. -/
import Derived.Test.YthljecllmdbbbaaQCel
namespace Go.Proofs.Ythljecllmdbbbaa.fifoBack
open Go.ChangeShapes Go.WideShapes Go.ChangeAt Go.RowKit
set_option linter.unusedVariables false

theorem push_one {l0 : List Int} {g : Int} (h1 : 1 ≤ g) (h2 : g ≤ 64) : ∃ l1 e, Qp.push [l0] ((64 : Nat) : Int) 0 g = ([l1], e) ∧ l1 ≠ [] := by
  by_cases ho : 0 ≤ Qp.of [l0] g
  · refine ⟨l0, 5, push_there (k := 0) (by simp) h1 h2 ho, ?_⟩
    obtain ⟨i, l, _, hi, hg⟩ := Qp.of_at ho
    cases i with
    | zero => simp at hi; subst hi; intro e; rw [e] at hg; cases hg
    | succ i => simp at hi
  · exact ⟨l0 ++ [g], 0, push_last (k := 0) rfl h1 h2 (by omega), by simp⟩
set_option maxHeartbeats 4000000 in
set_option maxRecDepth 100000 in
theorem walk (A : Option Addr) (n c : Nat) (zs : List Int) (t : Int) (w : World) (hn : Hid (zs.length = n)) (hl : n ≤ 9223372036854775807) (hr : BRow w A zs) (hu : (Lit.int .u8 t).wf = true) :
    Calls Try.prog 8 #[.slice A n c, .int .u8 t] w fun e w' => e = .returned (.bool true) ∧ Below w.heap.size w w' := by
  have hu' : 0 ≤ t ∧ t ≤ 255 := by simpa [Lit.wf, IntKind.min, IntKind.max, IntKind.signed, IntKind.bits] using hu
  obtain ⟨u0, u1⟩ := hu'
  have HR := Lib.hid hr
  clear hu hr
  go_enter Try.func8, Try.ntmps8
  go_wp2_with fail
  refine (shown_any _).mono ?_
  rintro e w1 ⟨rfl, hb1⟩
  have B1 := Lib.hid hb1
  clear hb1
  go_wp2_with fail
  refine (new_yes 64 1 w1 (by omega) (by omega) (by omega) (by omega)).mono ?_
  rintro e w2 ⟨rfl, hA, hb⟩
  obtain ⟨b, hbb⟩ : ∃ b, b = w1.heap.size := ⟨_, rfl⟩
  rw [← hbb] at hA ⊢
  have hwb : w.heap.size ≤ b := by rw [hbb]; exact B1.out.size
  have A2 := Lib.hid (show Ar w2 b 64 [[]] from hA)
  have B2 := Lib.hid (B1.out.trans (hb.mono B1.out.size))
  clear hA hb hbb B1
  go_wp2_with fail
  go_loopw [8] (fun i wr => ∃ (k : Nat) (l0 : List Int), k ≤ n ∧ k ≤ 100 ∧ i = .int .i64 k ∧ Hid (Ar wr b 64 [l0]) ∧ Hid (l0 = [] → k = 0) ∧ Hid (Below w.heap.size w wr)) (fun i _ => 100 - (intOf i).toNat)
  case atStart => exact ⟨0, [], Nat.zero_le _, Nat.zero_le _, rfl, A2, Lib.hid (fun _ => rfl), B2⟩
  case round =>
    obtain ⟨k, l0, hk, hk2, rfl, HA, H0, HB⟩ := hrel
    by_cases hlt : k < n
    · by_cases h100 : k < 100
      · obtain ⟨z, hz⟩ : ∃ z, zs[k]? = some z := ⟨_, List.getElem?_eq_getElem (by have := hn.out; omega)⟩
        obtain ⟨b', off, hAA, hlt', hc, z0, z1⟩ := HR.out k z hz
        subst hAA
        have hcw : wr.cell? ⟨b', off + k, none⟩ = some (.int .u8 z) := (HB.out.cell (p := ⟨b', off + k, none⟩) hlt').trans hc
        have m1 : z.tmod 64 = z % 64 := Int.tmod_eq_emod_of_nonneg z0
        clear hz hc
        go_wp2_with fail
        have hg1 : 1 ≤ 1 + z % 64 ∧ 1 + z % 64 ≤ 64 := by omega
        obtain ⟨l1, e1, hp, hl1⟩ := push_one (l0 := l0) hg1.1 hg1.2
        have HP := Lib.hid hp
        clear hp
        refine (push_any b 64 [l0] 0 (1 + z % 64) wr HA.out).mono ?_
        rintro e w3 ⟨rfl, hA, hg⟩
        rw [HP.out] at hA ⊢
        have HA3 := Lib.hid hA
        have HB3 := Lib.hid (below_turned HB.out hg HB.out.size hwb)
        have H3 := Lib.hid (show l1 = [] → k + 1 = 0 from fun e => absurd e hl1)
        clear hA hg hcw
        go_wp2_with fail
        go_roundw
        case rel => exact ⟨k + 1, l1, by omega, by omega, by go_num, HA3, H3, HB3⟩
        case measure => simp [intOf]; omega
      · obtain rfl : k = 100 := by omega
        have hne : l0 ≠ [] := fun e => by have := H0.out e; omega
        go_wp2_with fail
        refine (all_row b 64 [l0] 0 wr HA.out).mono ?_
        rintro e w3 ⟨A3, n3, c3, rfl, hr3, hf3, hb3⟩
        rw [all_one] at hr3
        have hab := HA.out.lt
        have HA3 := Lib.hid (HA.out.step hb3)
        have HB3 := Lib.hid (HB.out.trans (hb3.mono HB.out.size))
        have hn3 : 0 < n3 := by have := hr3.len; cases l0 with | nil => exact absurd rfl hne | cons x t => simp at this; omega
        have hn64 : n3 ≤ 64 := by have h1 := hr3.len; have h2 := Qp.all_length (m := 64) HA.out.ok 0; rw [all_one] at h2; omega
        obtain ⟨b3, o3, rfl, hb3', hc3⟩ := hr3.cells hn3
        obtain ⟨j, hj⟩ : ∃ j : Nat, (j : Int) = t % (n3 : Int) := ⟨(t % (n3 : Int)).toNat, by have := Int.emod_nonneg t (show (n3 : Int) ≠ 0 by omega); omega⟩
        have hjn : j < n3 := by have := Int.emod_lt_of_pos t (show (0 : Int) < n3 by omega); omega
        obtain ⟨g, hgj⟩ : ∃ g, l0[j]? = some g := ⟨_, List.getElem?_eq_getElem (by rw [hr3.len]; exact hjn)⟩
        have hcg := hc3 j g hgj
        have hmem : g ∈ l0 := List.mem_of_getElem? hgj
        have hok := HA.out.ok
        have hgb := hok.mem 0 l0 g rfl hmem
        have HS := Lib.hid (stands_one hok hmem)
        have HO := Lib.hid (of_gone hok g)
        have HP := Lib.hid (show Qp.push (Qp.drop [l0] g) ((64 : Nat) : Int) 0 g = ([Qp.but g l0 ++ [g]], 0) from push_last (q := Qp.drop [l0] g) (k := 0) (g := g) (l := Qp.but g l0) rfl hgb.1 hgb.2 (by rw [HO.out]; omega))
        have HL := Lib.hid (but_length (nodup_one hok) hmem)
        have t1 : t.tmod (n3 : Int) = (j : Int) := by rw [hj]; exact Int.tmod_eq_emod_of_nonneg u0
        have t2 : t % (n3 : Int) = (j : Int) := hj.symm
        have hn3' : ((n3 : Int) == 0) = false := by rw [beq_eq_false_iff_ne]; omega
        have HLN := Lib.hid hr3.len
        clear hr3 hf3 hb3 hc3 hgj hok hj hmem
        go_wp2_with fail
        refine (drop_any b 64 [l0] g w3 HA3.out).mono ?_
        rintro e w4 ⟨rfl, hA, hg⟩
        rw [HS.out]
        have HA4 := Lib.hid hA
        have HB4 := Lib.hid (below_turned HB3.out hg HB3.out.size hwb)
        clear hA hg HA3 HB3 HS hcg t1 t2
        go_wp2_with fail
        refine (push_any b 64 (Qp.drop [l0] g) 0 g w4 HA4.out).mono ?_
        rintro e w5 ⟨rfl, hA, hg⟩
        rw [HP.out] at hA ⊢
        have HA5 := Lib.hid hA
        have HB5 := Lib.hid (below_turned HB4.out hg HB4.out.size hwb)
        clear hA hg HA4 HB4 HP HO
        go_wp2_with fail
        refine (all_row b 64 [Qp.but g l0 ++ [g]] 0 w5 HA5.out).mono ?_
        rintro e w6 ⟨A6, n6, c6, rfl, hr6, hf6, hb6⟩
        rw [all_one] at hr6
        obtain rfl : n6 = n3 := by have h1 := hr6.len; have h2 := HL.out; have h3 := HLN.out; simp at h1; omega
        obtain ⟨b6, o6, rfl, hb6', hc6⟩ := hr6.cells hn3
        have hcg := hc6 (n6 - 1) g (by have h2 := HL.out; have h3 := HLN.out; rw [List.getElem?_append_right (by omega), show n6 - 1 - (Qp.but g l0).length = 0 by omega]; rfl)
        have HA6 := Lib.hid (HA5.out.step hb6)
        have HB6 := Lib.hid (HB5.out.trans (hb6.mono HB5.out.size))
        have s1 : IntKind.i64.wrap ((n6 : Int) - 1) = (n6 : Int) - 1 := IntWalk.i64_in _ (by omega)
        have s2 : (0 : Int) ≤ (n6 : Int) - 1 := by omega
        have s3 : (n6 : Int) - 1 < (n6 : Int) := by omega
        have s4 : ((n6 : Int) - 1).toNat = n6 - 1 := by omega
        have HP2 := Lib.hid (show Qp.push [Qp.but g l0 ++ [g]] ((64 : Nat) : Int) 0 g = ([Qp.but g l0 ++ [g]], 5) from push_there (k := 0) (by simp) hgb.1 hgb.2 (by rw [of_one HA6.out.ok (by simp)]; omega))
        clear hr6 hf6 hb6 hc6 HA5 HB5
        go_wp2_with fail
        refine (push_any b 64 [Qp.but g l0 ++ [g]] 0 g w6 HA6.out).mono ?_
        rintro e w7 ⟨rfl, hA, hg⟩
        rw [HP2.out]
        have HB7 := Lib.hid (below_turned HB6.out hg HB6.out.size hwb)
        clear hA hg
        go_wp2_with fail
        go_ret
        exact ⟨rfl, HB7.out⟩
    · obtain rfl : k = n := by omega
      by_cases he : l0 = []
      · obtain rfl : k = 0 := H0.out he
        subst he
        go_wp2_with fail
        refine (all_row b 64 [[]] 0 wr HA.out).mono ?_
        rintro e w3 ⟨A3, n3, c3, rfl, hr3, hf3, hb3⟩
        obtain rfl : 0 = n3 := hr3.len
        have HB3 := Lib.hid (HB.out.trans (hb3.mono HB.out.size))
        clear hr3 hf3 hb3
        go_wp2_with fail
        go_ret
        exact ⟨rfl, HB3.out⟩
      · have hne := he
        go_wp2_with fail
        refine (all_row b 64 [l0] 0 wr HA.out).mono ?_
        rintro e w3 ⟨A3, n3, c3, rfl, hr3, hf3, hb3⟩
        rw [all_one] at hr3
        have hab := HA.out.lt
        have HA3 := Lib.hid (HA.out.step hb3)
        have HB3 := Lib.hid (HB.out.trans (hb3.mono HB.out.size))
        have hn3 : 0 < n3 := by have := hr3.len; cases l0 with | nil => exact absurd rfl hne | cons x t => simp at this; omega
        have hn64 : n3 ≤ 64 := by have h1 := hr3.len; have h2 := Qp.all_length (m := 64) HA.out.ok 0; rw [all_one] at h2; omega
        obtain ⟨b3, o3, rfl, hb3', hc3⟩ := hr3.cells hn3
        obtain ⟨j, hj⟩ : ∃ j : Nat, (j : Int) = t % (n3 : Int) := ⟨(t % (n3 : Int)).toNat, by have := Int.emod_nonneg t (show (n3 : Int) ≠ 0 by omega); omega⟩
        have hjn : j < n3 := by have := Int.emod_lt_of_pos t (show (0 : Int) < n3 by omega); omega
        obtain ⟨g, hgj⟩ : ∃ g, l0[j]? = some g := ⟨_, List.getElem?_eq_getElem (by rw [hr3.len]; exact hjn)⟩
        have hcg := hc3 j g hgj
        have hmem : g ∈ l0 := List.mem_of_getElem? hgj
        have hok := HA.out.ok
        have hgb := hok.mem 0 l0 g rfl hmem
        have HS := Lib.hid (stands_one hok hmem)
        have HO := Lib.hid (of_gone hok g)
        have HP := Lib.hid (show Qp.push (Qp.drop [l0] g) ((64 : Nat) : Int) 0 g = ([Qp.but g l0 ++ [g]], 0) from push_last (q := Qp.drop [l0] g) (k := 0) (g := g) (l := Qp.but g l0) rfl hgb.1 hgb.2 (by rw [HO.out]; omega))
        have HL := Lib.hid (but_length (nodup_one hok) hmem)
        have t1 : t.tmod (n3 : Int) = (j : Int) := by rw [hj]; exact Int.tmod_eq_emod_of_nonneg u0
        have t2 : t % (n3 : Int) = (j : Int) := hj.symm
        have hn3' : ((n3 : Int) == 0) = false := by rw [beq_eq_false_iff_ne]; omega
        have HLN := Lib.hid hr3.len
        clear hr3 hf3 hb3 hc3 hgj hok hj hmem
        go_wp2_with fail
        refine (drop_any b 64 [l0] g w3 HA3.out).mono ?_
        rintro e w4 ⟨rfl, hA, hg⟩
        rw [HS.out]
        have HA4 := Lib.hid hA
        have HB4 := Lib.hid (below_turned HB3.out hg HB3.out.size hwb)
        clear hA hg HA3 HB3 HS hcg t1 t2
        go_wp2_with fail
        refine (push_any b 64 (Qp.drop [l0] g) 0 g w4 HA4.out).mono ?_
        rintro e w5 ⟨rfl, hA, hg⟩
        rw [HP.out] at hA ⊢
        have HA5 := Lib.hid hA
        have HB5 := Lib.hid (below_turned HB4.out hg HB4.out.size hwb)
        clear hA hg HA4 HB4 HP HO
        go_wp2_with fail
        refine (all_row b 64 [Qp.but g l0 ++ [g]] 0 w5 HA5.out).mono ?_
        rintro e w6 ⟨A6, n6, c6, rfl, hr6, hf6, hb6⟩
        rw [all_one] at hr6
        obtain rfl : n6 = n3 := by have h1 := hr6.len; have h2 := HL.out; have h3 := HLN.out; simp at h1; omega
        obtain ⟨b6, o6, rfl, hb6', hc6⟩ := hr6.cells hn3
        have hcg := hc6 (n6 - 1) g (by have h2 := HL.out; have h3 := HLN.out; rw [List.getElem?_append_right (by omega), show n6 - 1 - (Qp.but g l0).length = 0 by omega]; rfl)
        have HA6 := Lib.hid (HA5.out.step hb6)
        have HB6 := Lib.hid (HB5.out.trans (hb6.mono HB5.out.size))
        have s1 : IntKind.i64.wrap ((n6 : Int) - 1) = (n6 : Int) - 1 := IntWalk.i64_in _ (by omega)
        have s2 : (0 : Int) ≤ (n6 : Int) - 1 := by omega
        have s3 : (n6 : Int) - 1 < (n6 : Int) := by omega
        have s4 : ((n6 : Int) - 1).toNat = n6 - 1 := by omega
        have HP2 := Lib.hid (show Qp.push [Qp.but g l0 ++ [g]] ((64 : Nat) : Int) 0 g = ([Qp.but g l0 ++ [g]], 5) from push_there (k := 0) (by simp) hgb.1 hgb.2 (by rw [of_one HA6.out.ok (by simp)]; omega))
        clear hr6 hf6 hb6 hc6 HA5 HB5
        go_wp2_with fail
        refine (push_any b 64 [Qp.but g l0 ++ [g]] 0 g w6 HA6.out).mono ?_
        rintro e w7 ⟨rfl, hA, hg⟩
        rw [HP2.out]
        have HB7 := Lib.hid (below_turned HB6.out hg HB6.out.size hwb)
        clear hA hg
        go_wp2_with fail
        go_ret
        exact ⟨rfl, HB7.out⟩
set_option maxRecDepth 100000 in
theorem lifted (os : Os) (started : os.Started) (H : Type) (enc : TypeId × Value → H) :
    ReturnsInHanded {} Try.checked os 8 .any (Rows.fifoBackSpec.pre6 enc Try.prog Try.f8 Rows.fifoBackRow.domain false) (Rows.fifoBackSpec.post enc Try.prog Try.f8 false true false false) := by
  refine returnsInHanded_of_change (C := Try.checked) own started (by kernel_rfl) Try.func8
    (ChangeSpec.witness6 (enc := enc) (C := Try.checked) false ⟨#[], #[.slice none 0 0, .int .u8 0], []⟩ 8 (by kernel_rfl) (by kernel_rfl) (by kernel_rfl) (by kernel_rfl)) ?_
  intro W base args ds gs before hval0 hW hcnd _
  have hval : ∀ (j : Nat) t v, Try.f8.params[j]? = some t → args[j]? = some v → Value.okWide Try.prog W .any base t v := hval0
  have hW' := hW
  obtain ⟨p, q, hA0, hV, rfl, hfz, hnd⟩ := hW
  have hA : DataW.TrodAll enc Try.prog W 0 (fun _ => true) true Try.f8.params.toList args.toList ds p := hA0
  rw [Try.params8] at hA hval
  obtain ⟨v0, vs0, d0, ds0, p0, q0, hargs, rfl, rfl, h0, r0⟩ := trodAll_cons hA
  obtain ⟨v1, vs1, d1, ds1, p1, q1, rfl, rfl, rfl, h1, r1⟩ := trodAll_cons r0
  obtain ⟨rfl, rfl, rfl⟩ := trodAll_nil r1
  obtain rfl : args = #[v0, v1] := by cases args; simp_all
  obtain ⟨rfl, rfl⟩ := trodVars_none hV
  have k0 := h0
  have lt0 : ∀ x ∈ p0, x.block < W.heap.size := by obtain ⟨m, hm⟩ := k0; exact DataW.trod_lt m _ _ _ hm
  obtain ⟨a0, len0, cap0, rfl⟩ := okWide_slice Try.underlying51 (hval 0 51 v0 rfl rfl)
  obtain ⟨aa0, ll0, cc0, z0, ev0, hn0, hr0⟩ : ∃ A n c zs, Value.slice a0 len0 cap0 = .slice A n c ∧ (zs.length = n ∧ n ≤ 9223372036854775807) ∧ BRow W A zs := by
    obtain ⟨fuel, hf⟩ := h0
    exact open_bytes (by simpa [Value.cells] using hf)
  injection ev0 with ea0 eb0 ec0
  subst ea0 eb0 ec0
  obtain ⟨a1, rfl, rfl, rfl, w1⟩ := open_int Try.underlying5 (hval 1 5 v1 rfl rfl) h1
  clear hA0 hval0
  refine (walk a0 len0 cap0 z0 a1 W (Lib.hid hn0.1) hn0.2 hr0 w1).mono fun e W' ⟨he, bel⟩ => ?_
  subst he
  exact ⟨_, rfl, _, _, _, [], _, [], hW', trodAll_mk1 (shut_bool Try.underlying4 _), (trodAll_cons_mk (Below.trod laidOut (by kernel_rfl) (of_decide_eq_true (by kernel_rfl)) k0 bel lt0) (trodAll_cons_mk (shut_int Try.underlying5 w1) trodAll_mk0)), rfl, bel.frame _, fun h => by cases h⟩
theorem over : Rows.fifoBackRow.holds Try.pinned (OpenSpec.ofChange Rows.fifoBackSpec) :=
  OpenClaim.holds_of_wide 8 Try.f8 rfl rfl rfl rfl rfl rfl rfl ⟨rfl, rfl, rfl, rfl, rfl⟩ rfl rfl rfl rfl rfl (by kernel_rfl) Try.func8 (by kernel_rfl)
    (of_decide_eq_true (by kernel_rfl)) (by unfold Func.isWrapper; first | (rw [if_pos (by decide +kernel)]; kernel_rfl) | (rw [if_neg (by decide +kernel)]; exact ⟨rfl, rfl⟩))
    (fun os started H enc _ => lifted os started H enc)
theorem proved : Rows.FifoBackSaid := over
end Go.Proofs.Ythljecllmdbbbaa.fifoBack

