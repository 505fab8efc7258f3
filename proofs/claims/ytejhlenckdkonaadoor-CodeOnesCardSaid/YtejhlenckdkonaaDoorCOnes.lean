/- CodeOnes: programs that may be, with one instruction of a wrong Op, or A, may not be, and just there; without the last one's end, neither: the call answers true and changes nothing that was there; for every input. -/
import Derived.Test.YtejhlenckdkonaaDoorCShown
import Derived.Test.YtejhlenckdkonaaDoorCFrame
import Derived.Test.YtejhlenckdkonaaDoorCOwn
namespace Go.Proofs.YtejhlenckdkonaaDoor.codeOnes
open Go.ChangeShapes Go.WideShapes Go.ChangeAt Go.RowKit
set_option linter.unusedVariables false
set_option maxRecDepth 100000

theorem of_u8 {a : Int} (h : (Lit.int .u8 a).wf = true) : 0 ≤ a ∧ a ≤ 255 := by
  simpa [Lit.wf, IntKind.min, IntKind.max, IntKind.signed, IntKind.bits] using h
theorem mod_five {a : Int} (h : 0 ≤ a) : 0 ≤ a.tmod 5 ∧ a.tmod 5 ≤ 4 := by
  rw [Int.tmod_eq_emod_of_nonneg h]; omega
theorem mod_nat {a : Int} (h : 0 ≤ a) {n : Nat} (hn : 1 ≤ n) : ∃ i : Nat, a.tmod (n : Int) = (i : Int) ∧ i < n := by
  rw [Int.tmod_eq_emod_of_nonneg h]
  have h1 := Int.emod_nonneg a (show (n : Int) ≠ 0 by omega)
  have h2 := Int.emod_lt_of_pos a (show (0 : Int) < (n : Int) by omega)
  exact ⟨(a % (n : Int)).toNat, by omega, by omega⟩
theorem wrap_small {a : Int} (h : 0 ≤ a ∧ a ≤ 255) : wrap64 a = a := by
  unfold wrap64
  rw [Int.emod_eq_of_lt (by omega) (by omega)]; omega
set_option maxHeartbeats 16000000 in
theorem walk (A : Option Addr) (n c : Nat) (ps : List (List (Int × Int))) (sems boxes at' x : Int) (w : World) (h : PRow w A n c ps) (hs : (Lit.int .u8 sems).wf = true) (hb : (Lit.int .u8 boxes).wf = true) (ha : (Lit.int .u8 at').wf = true) (hx : (Lit.int .u8 x).wf = true) (hM : Met w) :
    Calls Tryd.prog 6 #[.slice A n c, .int .u8 sems, .int .u8 boxes, .int .u8 at', .int .u8 x] w fun e w' => e = .returned (.bool true) ∧ Below w.heap.size w w' := by
  obtain ⟨i1, hi1, hy0, hy1, hy2⟩ := info_parts info_sl
  have H := Lib.hid h
  have HM := Lib.hid hM
  have hcap := h.cap
  have hmost := h.most
  have HL := Lib.hid h.len
  replace hs := of_u8 hs
  replace hb := of_u8 hb
  replace ha := of_u8 ha
  replace hx := of_u8 hx
  obtain ⟨s, hsm⟩ : ∃ s, sems.tmod 5 = s := ⟨_, rfl⟩
  obtain ⟨bx, hbm⟩ : ∃ s, boxes.tmod 5 = s := ⟨_, rfl⟩
  have hs5 : 0 ≤ s ∧ s ≤ 4 := by rw [← hsm]; exact mod_five hs.1
  have hb5 : 0 ≤ bx ∧ bx ≤ 4 := by rw [← hbm]; exact mod_five hb.1
  have ws : wrap64 s = s := wrap_small (by omega)
  have wb : wrap64 bx = bx := wrap_small (by omega)
  have wa : wrap64 at' = at' := wrap_small ha
  have wx : wrap64 x = x := wrap_small hx
  obtain ⟨⟨r1, r2, r3⟩, hr⟩ : ∃ r, Cp.check ps s bx = r := ⟨_, rfl⟩
  have HR := Lib.hid hr
  have HS5 := Lib.hid hs5
  have HB5 := Lib.hid hb5
  have HA := Lib.hid ha.1
  have HX := Lib.hid hx.1
  clear h hM hr hs hb ha hx hs5 hb5
  go_enter Tryd.func6, Tryd.ntmps6
  go_wp2_with fail
  refine (shown_any _ HM.out).mono ?_
  rintro e w1 ⟨rfl, hb1⟩
  have HB1 := Lib.hid hb1
  clear hb1
  by_cases h8 : 8 < n
  · have g0 : (8 : Int) < (n : Int) := by omega
    go_wp2_with fail
    go_ret
    exact ⟨rfl, HB1.out.alloc HB1.out.size _⟩
  · have g0 : ¬ (8 : Int) < (n : Int) := by omega
    have g00 : decide ((8 : Int) < (n : Int)) = false := decide_eq_false g0
    obtain ⟨W1, hW1⟩ : ∃ W, W = w1.alloc (.cells #[.int .i64 s, .int .i64 bx] 29) := ⟨_, rfl⟩
    have s0 : W1.cell? ⟨w1.heap.size, 0, none⟩ = some (.int .i64 s) := by rw [hW1, World.cell?_alloc_at _ _ _ _ rfl]; rfl
    have s1 : W1.cell? ⟨w1.heap.size, 1, none⟩ = some (.int .i64 bx) := by rw [hW1, World.cell?_alloc_at _ _ _ _ rfl]; rfl
    have HBW := Lib.hid (show Below w.heap.size w W1 by rw [hW1]; exact HB1.out.alloc HB1.out.size _)
    have E1 := Lib.hid hW1
    clear hW1
    go_wp2_with fail
    rw [← E1.out]
    clear E1
    refine (check_any A n c ps s bx _ (H.out.below HBW.out)).mono ?_
    rintro e w2 ⟨rfl, hb2⟩
    rw [HR.out]
    have HB2 := Lib.hid hb2
    have e0 := keepcell hb2 s0
    have e1 := keepcell hb2 s1
    clear hb2
    by_cases h3 : r3 = 0
    · subst h3
      obtain ⟨hok1, hok2, hok3⟩ := Cp.check_ok HR.out
      rw [HL.out] at hok2
      rw [HL.out] at hok3
      have HOK := Lib.hid hok3
      obtain ⟨i, hi, hin⟩ := mod_nat HA.out hok2.1
      have gn : ((n : Int) == 0) = false := by rw [beq_eq_false_iff_ne]; omega
      obtain ⟨l, hl⟩ : ∃ l, ps[i]? = some l := ⟨_, List.getElem?_eq_getElem (by rw [HL.out]; exact hin)⟩
      obtain ⟨b, off, Ai, ci, rfl, hbb, hc, _, _, _⟩ := (H.out.below (HBW.out.trans (HB2.out.mono HBW.out.size))).row i l hl
      obtain ⟨m, hm⟩ : ∃ m, l.length = m := ⟨_, rfl⟩
      rw [hm] at hc
      obtain ⟨hm1, hm32, _⟩ := Cp.bad_ok (hok3 i l hl)
      rw [hm] at hm1 hm32
      obtain ⟨k, hk, hkm⟩ := mod_nat HX.out hm1
      have gm : ((m : Int) == 0) = false := by rw [beq_eq_false_iff_ne]; omega
      have HMm := Lib.hid hm
      have HLi := Lib.hid hl
      clear hok1 hok3 hm hl
      go_wp2_with fail
      rw [wa, wx]
      go_loopw [18, 19, 20] (fun va vb ij wr => ∃ (j : Nat) (gs hs : List (Nat × Nat)), j ≤ n ∧ ij = .int .i64 j ∧ Hid (Two wr W1.heap.size va vb gs hs (ps.take j) (ps.take j)) ∧ Hid (Below W1.heap.size W1 wr)) (fun _ _ ij _ => n - (intOf ij).toNat)
      case atStart => exact ⟨0, [], [], Nat.zero_le _, rfl, Lib.hid ⟨File.none _ _, File.none _ _, List.nodup_nil⟩, HB2⟩
      case round =>
        clear HB2 e0 e1 hc
        obtain ⟨j, gs, hs, hj, rfl, HT, HBr⟩ := hrel
        have HWr := Lib.hid (HBW.out.trans (HBr.out.mono HBW.out.size))
        have HJ := Lib.hid (show (ps.take j).length = j by rw [List.length_take, HL.out]; omega)
        by_cases hlt : j < n
        · obtain ⟨l2, hl2⟩ : ∃ l, ps[j]? = some l := ⟨_, List.getElem?_eq_getElem (by rw [HL.out]; exact hlt)⟩
          obtain ⟨b', off', Aj, c2, e3, hb2, hc2, hv2, hcap2, hmost2⟩ := (H.out.below HWr.out).row j l2 hl2
          injection e3 with e3
          injection e3 with e31 e32
          subst e31 e32
          obtain ⟨hmpos, hm2le, _⟩ := Cp.bad_ok (HOK.out j l2 hl2)
          obtain ⟨m2, hm2⟩ : ∃ m, l2.length = m := ⟨_, rfl⟩
          rw [hm2] at hc2 hmpos hm2le
          obtain ⟨x0, hx0⟩ : ∃ x, l2[0]? = some x := ⟨_, List.getElem?_eq_getElem (by omega)⟩
          obtain ⟨b2, off2, rfl, _, _, _⟩ := hv2 0 x0 hx0
          have HV2 := Lib.hid hv2
          have HM2 := Lib.hid hm2
          have HTK := Lib.hid (show ps.take (j + 1) = ps.take j ++ [l2] by rw [List.take_add_one, hl2]; rfl)
          have HL2 := Lib.hid hl2
          clear hv2 hm2 hl2 hx0
          have hbn := Lib.hid (below_new wr (.cells #[] 42))
          have hown := Lib.hid (own_empty wr wr.heap.size 42 (Nat.le_refl _))
          go_wp2_with (at_builtin; refine wpList_append_ins_g (.tmp 73) (.tmp 77) rfl (by simp [Region.wanted]) wr.heap.size (.slice (some ⟨wr.heap.size, 0, none⟩) 0 0) 0 [] rfl hown.out (some ⟨b2, off2, none⟩) m2 c2 l2 rfl ((HV2.out.below hbn.out).more hbn.out.size) HM2.out (fun e => by cases e) (by omega) (by simp) ?_)
          intro va2 w5 hoa hga
          obtain ⟨ga, cga, rfl, hgB, hblk, hcg, hcgm⟩ := Blk.of_own (m := m2) (l := l2) (by simpa using hoa) hmpos
          have HB5 := Lib.hid (hbn.out.grown hga (by simp) (fun q e => by simp [Value.ownBlock] at e; omega))
          have HGB := Lib.hid hgB
          have HBLK := Lib.hid (hblk.keep (Below.heap_alloc w5 (.cells #[.slice (some ⟨ga, 0, none⟩) m2 cga] 24) _ hblk.lt))
          have HB6 := Lib.hid (HB5.out.alloc HB5.out.size (.cells #[.slice (some ⟨ga, 0, none⟩) m2 cga] 24))
          have HT6 := Lib.hid (HT.out.step HB6.out)
          have hcell := one_cell w5 (.slice (some ⟨ga, 0, none⟩) m2 cga) 24
          have hownA := HT6.out.a.own
          rw [HJ.out] at hownA
          have hs6 := HB6.out.size
          have hsb := HBr.out.size
          clear hoa hga hgB hblk
          go_wp2_with (at_builtin; refine wpList_append_own _ rfl _ _ 22 rfl W1.heap.size 24 i1 (.slice none 0 0) 1 24 Tryd.underlying22 hi1 hy0 hy1 hy2 rfl (by decide) _ _ _ rfl hownA ⟨w5.heap.size, 0, none⟩ 1 1 [.slice (some ⟨ga, 0, none⟩) m2 cga] rfl rfl hcell (by simp [Value.oneCell']) (by unfold maxLen; omega) (by omega) (by omega) ?_)
          intro v' w7 hown7 hg7 _
          have HT7 := Lib.hid (HT.out.more HB6.out HBr.out.size HGB.out HBLK.out (by rw [HM2.out]; exact hcg) hcgm (by rw [HJ.out]; unfold sl; rw [HM2.out]; exact hown7) hg7)
          have HB7 := Lib.hid ((HBr.out.trans (HB6.out.mono HBr.out.size)).grown hg7 (by omega) (fun q e => (hownA.lt q e).1))
          clear hown7 hg7 hownA hcell hcg hcgm HT6 HBLK HGB HB6 HB5 hbn hown hs6 hsb HT HBr hc2
          have HW7 := Lib.hid (HBW.out.trans (HB7.out.mono HBW.out.size))
          obtain ⟨b', off', Aj, c3, e3, hb3, hc2, hv3, hcap3, hmost3⟩ := (H.out.below HW7.out).row j l2 HL2.out
          injection e3 with e3
          injection e3 with e31 e32
          subst e31 e32
          obtain ⟨x0, hx0⟩ : ∃ x, l2[0]? = some x := ⟨_, List.getElem?_eq_getElem (by rw [HM2.out]; omega)⟩
          obtain ⟨b2, off2, rfl, _, _, _⟩ := hv3 0 x0 hx0
          have HV3 := Lib.hid hv3
          rw [HM2.out] at hc2
          clear hv3 hx0
          have HTs := Lib.hid HT7.out.swap
          clear HT7
          have hbn := Lib.hid (below_new w7 (.cells #[] 42))
          have hown := Lib.hid (own_empty w7 w7.heap.size 42 (Nat.le_refl _))
          go_wp2_with (at_builtin; refine wpList_append_ins_g (.tmp 82) (.tmp 86) rfl (by simp [Region.wanted]) w7.heap.size (.slice (some ⟨w7.heap.size, 0, none⟩) 0 0) 0 [] rfl hown.out (some ⟨b2, off2, none⟩) m2 c3 l2 rfl ((HV3.out.below hbn.out).more hbn.out.size) HM2.out (fun e => by cases e) (by omega) (by simp) ?_)
          intro va2 w5 hoa hga
          obtain ⟨gb, cgb, rfl, hgB, hblk, hcg, hcgm⟩ := Blk.of_own (m := m2) (l := l2) (by simpa using hoa) hmpos
          have HB5 := Lib.hid (hbn.out.grown hga (by simp) (fun q e => by simp [Value.ownBlock] at e; omega))
          have HGB := Lib.hid hgB
          have HBLK := Lib.hid (hblk.keep (Below.heap_alloc w5 (.cells #[.slice (some ⟨gb, 0, none⟩) m2 cgb] 24) _ hblk.lt))
          have HB6 := Lib.hid (HB5.out.alloc HB5.out.size (.cells #[.slice (some ⟨gb, 0, none⟩) m2 cgb] 24))
          have HT6 := Lib.hid (HTs.out.step HB6.out)
          have hcell := one_cell w5 (.slice (some ⟨gb, 0, none⟩) m2 cgb) 24
          have hownA := HT6.out.a.own
          rw [HJ.out] at hownA
          have hs6 := HB6.out.size
          have hsb := HB7.out.size
          clear hoa hga hgB hblk
          go_wp2_with (at_builtin; refine wpList_append_own _ rfl _ _ 22 rfl W1.heap.size 24 i1 (.slice none 0 0) 1 24 Tryd.underlying22 hi1 hy0 hy1 hy2 rfl (by decide) _ _ _ rfl hownA ⟨w5.heap.size, 0, none⟩ 1 1 [.slice (some ⟨gb, 0, none⟩) m2 cgb] rfl rfl hcell (by simp [Value.oneCell']) (by unfold maxLen; omega) (by omega) (by omega) ?_)
          intro v' w7 hown7 hg7 _
          have HT8 := Lib.hid ((HTs.out.more HB6.out HB7.out.size HGB.out HBLK.out (by rw [HM2.out]; exact hcg) hcgm (by rw [HJ.out]; unfold sl; rw [HM2.out]; exact hown7) hg7).swap)
          have HB8 := Lib.hid ((HB7.out.trans (HB6.out.mono HB7.out.size)).grown hg7 (by omega) (fun q e => (hownA.lt q e).1))
          rw [← HTK.out] at HT8
          clear hown7 hg7 hownA hcell hcg hcgm HT6 HBLK HGB HB6 HB5 hbn hown hs6 hsb HTs HB7 hc2
          go_wp2_with fail
          go_roundw
          case rel => exact ⟨j + 1, gs ++ [(ga, cga)], hs ++ [(gb, cgb)], by omega, by go_num, HT8, HB8⟩
          case measure => simp [intOf]; omega
        · obtain rfl : j = n := by omega
          rw [List.take_of_length_le (by rw [HL.out]; exact Nat.le_refl _)] at HT
          have HLN := HL.out
          have hin' : i < gs.length := by rw [HT.out.a.len, HLN]; exact hin
          have hin2 : i < hs.length := by rw [HT.out.b.len, HLN]; exact hin
          obtain ⟨⟨g, cg⟩, hg⟩ : ∃ g, gs[i]? = some g := ⟨_, List.getElem?_eq_getElem hin'⟩
          obtain ⟨⟨gh, ch⟩, hh⟩ : ∃ g, hs[i]? = some g := ⟨_, List.getElem?_eq_getElem hin2⟩
          obtain ⟨p, hp⟩ : ∃ p, l[k]? = some p := ⟨_, List.getElem?_eq_getElem (by rw [HMm.out]; exact hkm)⟩
          obtain ⟨pz, hpz⟩ : ∃ p, l[m - 1]? = some p := ⟨_, List.getElem?_eq_getElem (by rw [HMm.out]; omega)⟩
          obtain ⟨mm, hmm⟩ : ∃ mm, m = mm + 1 := ⟨m - 1, by omega⟩
          subst hmm
          rw [Nat.add_sub_cancel] at hpz
          obtain ⟨qa, ca, rfl, HPA⟩ := HT.out.a.prow (by rw [HLN]; omega)
          obtain ⟨qb, cb, rfl, HPB⟩ := HT.out.b.prow (by rw [HLN]; omega)
          rw [HLN] at HT ⊢
          have fa := HT.out.a.cell hg HLi.out
          have fb := HT.out.b.cell hh HLi.out
          rw [HMm.out] at fa fb
          have hba := HT.out.a.block
          have hbb2 := HT.out.b.block
          obtain ⟨hgB, hgk, _, _⟩ := HT.out.a.blk i _ l hg HLi.out
          obtain ⟨hhB, hhk, _, _⟩ := HT.out.b.blk i _ l hh HLi.out
          have hgh : g ≠ gh := HT.out.apart (g, cg) (List.mem_of_getElem? hg) (gh, ch) (List.mem_of_getElem? hh)
          have hgqa : g ≠ qa := by rcases hgk.other HT.out.a.own with e | e; cases e; exact fun e2 => e (by rw [e2]; rfl)
          have hgqb : g ≠ qb := by rcases hgk.other HT.out.b.own with e | e; cases e; exact fun e2 => e (by rw [e2]; rfl)
          have hhqb : gh ≠ qb := by rcases hhk.other HT.out.b.own with e | e; cases e; exact fun e2 => e (by rw [e2]; rfl)
          have hsB : w1.heap.size < W1.heap.size := World.block_lt_of_cell? _ _ s0
          have st1 := hgk.c1 k p hp
          have sf1 := hgk.free (k * 2 + 1)
          have fb2 : (wr.setCell ⟨g, k * 2 + 1, none⟩ (.int .i64 2000)).cell? ⟨qb, i, none⟩ = some (.slice (some ⟨gh, 0, none⟩) (mm + 1) ch) := by
            rw [World.cell?_setCell_other _ _ _ _ (fun e => by injection e with e _; exact hgqb e)]; exact fb
          have hk2 := hhk.keep (W' := wr.setCell ⟨g, k * 2 + 1, none⟩ (.int .i64 2000)) ((grown_set wr g (k * 2 + 1) (.int .i64 2000)).block _ hhk.lt (by intro e; injection e with e; exact hgh e.symm))
          have st2 := hk2.c0 mm pz hpz
          have st3 := hk2.c1 mm pz hpz
          have sf2 := hk2.free (mm * 2)
          have sf3 := hk2.free (mm * 2 + 1)
          have HT4 := Lib.hid (HT.out.both (x := 2000) hg hh HLi.out hp hpz)
          have HB4 := Lib.hid (((HBr.out.setCell (p := ⟨g, k * 2 + 1, none⟩) hgB (.int .i64 2000)).setCell (p := ⟨gh, mm * 2, none⟩) hhB (.int .i64 2)).setCell (p := ⟨gh, mm * 2 + 1, none⟩) hhB (.int .i64 0))
          have z0 := keepcell HB4.out s0
          have z1 := keepcell HB4.out s1
          obtain ⟨W4, hW4⟩ : ∃ W, W = ((wr.setCell ⟨g, k * 2 + 1, none⟩ (.int .i64 2000)).setCell ⟨gh, mm * 2, none⟩ (.int .i64 2)).setCell ⟨gh, mm * 2 + 1, none⟩ (.int .i64 0) := ⟨_, rfl⟩
          rw [← hW4] at HT4 HB4
          have E4 := Lib.hid hW4
          have HPK := Lib.hid hp
          clear hW4 HT HPA HPB fb hgk hhk hk2 hp hpz hg hh
          have hsz : (ps.set i (l.set k (p.1, 2000))).length = j := by rw [List.length_set]; exact HLN
          have hsz2 : (ps.set i (l.set mm (2, 0))).length = j := by rw [List.length_set]; exact HLN
          have HPA := Lib.hid (HT4.out.a.prow' hsz hok2.1)
          have HPB := Lib.hid (HT4.out.b.prow' hsz2 hok2.1)
          have hcl : (0 ≤ s ∧ s ≤ 4 ∧ 0 ≤ bx ∧ bx ≤ 4) := ⟨HS5.out.1, HS5.out.2, HB5.out.1, HB5.out.2⟩
          have hbadi := HOK.out i l HLi.out
          have HCA := Lib.hid (show Cp.check (ps.set i (l.set k (p.1, 2000))) s bx = ((i : Int), (k : Int), 1) from
            Cp.check_set hcl (by rw [HLN]; exact hok2) (by rw [HLN]; exact HOK.out) (by rw [HLN]; exact hin) (y := ((k : Int), 1)) (by rw [HLN]; exact Cp.bad_a hbadi HPK.out hcl.2.1 hcl.2.2.2 (by omega)))
          have HCB := Lib.hid (show Cp.check (ps.set i (l.set mm (2, 0))) s bx = ((i : Int), (mm : Int), 2) from
            Cp.check_set hcl (by rw [HLN]; exact hok2) (by rw [HLN]; exact HOK.out) (by rw [HLN]; exact hin) (y := ((mm : Int), 2)) (by
              have h1 := Cp.bad_b (l := l) (sems := s) (boxes := bx) (progs := (j : Int)) hbadi
              rw [HMm.out, Nat.add_sub_cancel] at h1
              rw [HLN, h1]
              congr 2; omega))
          have HCN := Lib.hid (Cp.check_nil hcl)
          have HW4 := Lib.hid (HBW.out.trans (HB4.out.mono HBW.out.size))
          clear hsz hsz2 hcl hbadi
          go_wp2_with fail
          rw [← E4.out]
          clear E4
          refine (check_any _ j ca _ s bx W4 HPA.out).mono ?_
          rintro e w5 ⟨rfl, hb5⟩
          rw [HCA.out]
          have HB5 := Lib.hid (HB4.out.trans (hb5.mono HB4.out.size))
          have HPB5 := Lib.hid (HPB.out.below hb5)
          have z2 := keepcell HB5.out s0
          have z3 := keepcell HB5.out s1
          clear hb5 z0 z1 fa fb2 st1 st2 st3 sf1 sf2 sf3
          go_wp2_with fail
          refine (check_any _ j cb _ s bx w5 HPB5.out).mono ?_
          rintro e w6 ⟨rfl, hb6⟩
          rw [HCB.out]
          have HB6 := Lib.hid (HB5.out.trans (hb6.mono HB5.out.size))
          have z4 := keepcell HB6.out s0
          have z5 := keepcell HB6.out s1
          clear hb6 z2 z3
          go_wp2_with fail
          have hnone := Lib.hid (show PRow w6.drew (some ⟨b, off, none⟩) 0 c [] from ⟨rfl, Nat.zero_le _, hmost, (fun e => by cases e), fun i l h => by simp at h⟩)
          go_region_held3 (fun w' => w'.cell? ⟨w1.heap.size, 0, none⟩ = some (.int .i64 s) ∧ w'.cell? ⟨w1.heap.size, 1, none⟩ = some (.int .i64 bx)) ((first | exact ⟨z6, z7⟩ | exact ⟨z4, z5⟩ | go_keep)) ((go_at_call 10; refine (check_any (some ⟨b, off, none⟩) 0 c [] s bx _ hnone.out).mono ?_; rintro e w7 ⟨rfl, hb7⟩; rw [HCN.out]; (have HB7 := Lib.hid (HB6.out.trans ((below_of_drew hb7).mono HB6.out.size)); have z6 := keepcell_drew hb7 z4; have z7 := keepcell_drew hb7 z5)))
          go_wp2_with fail
          go_ret
          exact ⟨rfl, HBW.out.trans (HB7.out.mono HBW.out.size)⟩
    · have g3 : (r3 != 0) = true := by rw [bne_iff_ne]; exact h3
      clear h3
      go_wp2_with fail
      go_ret
      exact ⟨rfl, HBW.out.trans (HB2.out.mono HBW.out.size)⟩
set_option maxRecDepth 100000 in
theorem lifted (os : Os) (started : os.Started) (H : Type) (enc : TypeId × Value → H) :
    ReturnsInHanded {} Tryd.checked os 6 .any (fun w args => (Rows.codeOnesSpec.pre enc Tryd.prog Tryd.f6 [] false w args ∧ laidMetH Tryd.prog laid4 w) ∧ sizedMet enc Tryd.prog Tryd.f6 (OpenSpec.ofChange Rows.codeOnesSpec) false w args)
      (Rows.codeOnesSpec.post enc Tryd.prog Tryd.f6 false true false false) := by
  refine returnsInHanded_of_change_and (C := Tryd.checked) (X := fun w _ => laidMetH Tryd.prog laid4 w) (fun _ _ _ hh h => h.of_heap hh) own started (by kernel_rfl) Tryd.func6
    (ChangeSpec.witness_shaped (enc := enc) (C := Tryd.checked) (os := os) (X := fun w _ => laidMetH Tryd.prog laid4 w) false (World.doorLaid Tryd.prog 67 os) #[.slice none 0 0, .int .u8 0, .int .u8 0, .int .u8 0, .int .u8 0] 8 rfl (World.shaped_of_RefB (by kernel_rfl) (by kernel_rfl)) (by kernel_rfl) (by kernel_rfl) (by kernel_rfl) (door4 os _)) ?_
  intro W base args ds gs before hval0 hW _ _ hL _
  have hval : ∀ (j : Nat) t v, Tryd.f6.params[j]? = some t → args[j]? = some v → Value.okWide Tryd.prog W .any base t v := hval0
  have hW' := hW
  obtain ⟨p, q, hA0, hV, rfl, hfz, hnd⟩ := hW
  have hA : DataW.TrodAll enc Tryd.prog W 0 (fun _ => true) true Tryd.f6.params.toList args.toList ds p := hA0
  rw [Tryd.params6] at hA hval
  obtain ⟨v0, vs0, d0, ds0, p0, q0, hargs, rfl, rfl, h0, r0⟩ := trodAll_cons hA
  obtain ⟨v1, vs1, d1, ds1, p1, q1, rfl, rfl, rfl, h1, r1⟩ := trodAll_cons r0
  obtain ⟨v2, vs2, d2, ds2, p2, q2, rfl, rfl, rfl, h2, r2⟩ := trodAll_cons r1
  obtain ⟨v3, vs3, d3, ds3, p3, q3, rfl, rfl, rfl, h3, r3⟩ := trodAll_cons r2
  obtain ⟨v4, vs4, d4, ds4, p4, q4, rfl, rfl, rfl, h4, r4⟩ := trodAll_cons r3
  obtain ⟨rfl, rfl, rfl⟩ := trodAll_nil r4
  obtain rfl : args = #[v0, v1, v2, v3, v4] := by cases args; simp_all
  obtain ⟨rfl, rfl⟩ := trodVars_none hV
  have k0 := h0
  have lt0 : ∀ x ∈ p0, x.block < W.heap.size := by obtain ⟨m, hm⟩ := k0; exact DataW.trod_lt m _ _ _ hm
  obtain ⟨a0, len0, cap0, rfl⟩ := okWide_slice Tryd.underlying22 (hval 0 22 v0 rfl rfl)
  obtain ⟨aa0, ll0, cc0, z0, ev0, hr0⟩ : ∃ A n c zs, Value.slice a0 len0 cap0 = .slice A n c ∧ PRow W A n c zs := by
    obtain ⟨fuel, hf⟩ := h0
    exact open_progs (by simpa [Value.cells] using hf)
  injection ev0 with ea0 eb0 ec0
  subst ea0 eb0 ec0
  obtain ⟨a1, rfl, rfl, rfl, w1⟩ := open_int Tryd.underlying5 (hval 1 5 v1 rfl rfl) h1
  obtain ⟨a2, rfl, rfl, rfl, w2⟩ := open_int Tryd.underlying5 (hval 2 5 v2 rfl rfl) h2
  obtain ⟨a3, rfl, rfl, rfl, w3⟩ := open_int Tryd.underlying5 (hval 3 5 v3 rfl rfl) h3
  obtain ⟨a4, rfl, rfl, rfl, w4⟩ := open_int Tryd.underlying5 (hval 4 5 v4 rfl rfl) h4
  clear hA0 hval0
  refine (walk a0 len0 cap0 z0 a1 a2 a3 a4 W hr0 w1 w2 w3 w4 (met_of_laid4 hL)).mono fun e W' ⟨he, bel⟩ => ?_
  subst he
  exact ⟨_, rfl, _, _, _, [], _, [], hW', trodAll_mk1 (shut_bool Tryd.underlying4 _), (trodAll_cons_mk (Below.trod laidOut (by kernel_rfl) (of_decide_eq_true (by kernel_rfl)) k0 bel lt0) (trodAll_cons_mk (shut_int Tryd.underlying5 w1) (trodAll_cons_mk (shut_int Tryd.underlying5 w2) (trodAll_cons_mk (shut_int Tryd.underlying5 w3) (trodAll_cons_mk (shut_int Tryd.underlying5 w4) trodAll_mk0))))), rfl, bel.frame _, fun h => by cases h⟩
theorem over : Rows.CodeOnesSaid :=
  OpenClaim.holds_of_wide 6 Tryd.f6 rfl rfl rfl rfl rfl rfl rfl ⟨rfl, rfl, rfl, rfl, rfl⟩ rfl rfl rfl rfl rfl (by kernel_rfl) Tryd.func6 (by kernel_rfl)
    (of_decide_eq_true (by kernel_rfl)) (by unfold Func.isWrapper; first | (rw [if_pos (by decide +kernel)]; kernel_rfl) | (rw [if_neg (by decide +kernel)]; exact ⟨rfl, rfl⟩))
    (fun os started H enc _ => lifted os started H enc)
theorem proved : Rows.CodeOnesCardSaid :=
  Claim7.holds_tied_plain_at .later [] [.data, .data, .data, .data] true Rows.codeOnesCard.stood.harness true
    over (fun _ h => by cases h) (by kernel_rfl) (fun _ h => by cases h) codeOnes_row_tie rfl ⟨rfl, rfl⟩ (by kernel_rfl) rfl
    (fun f fn hf hfn => by
      obtain rfl : f = 6 := Option.some.inj ((show Tryd.prog.funcNamed "catafalque/catafalquelaw07.CodeOnes" = some 6 by kernel_rfl).symm.trans hf) |>.symm
      obtain rfl : fn = Tryd.f6 := (Option.some.inj (Tryd.func6.symm.trans hfn)).symm
      exact ⟨by kernel_rfl, fun j t ht => by
        rw [Tryd.params6] at ht
        have hm : t ∈ [22, 5, 5, 5, 5] := by simpa using Array.mem_of_getElem? ht
        have hall : ([22, 5, 5, 5, 5].all fun u => !Tryd.prog.wantsStandIn u) = true := by kernel_rfl
        exact (show Tryd.prog.wantsStandIn t = false by simpa using List.all_eq_true.1 hall t hm)⟩)
    (by kernel_rfl)
end Go.Proofs.YtejhlenckdkonaaDoor.codeOnes

