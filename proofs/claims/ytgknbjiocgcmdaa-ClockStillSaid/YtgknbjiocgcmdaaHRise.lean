/- rise and sink, by their contracts: a heap but for one timer is a heap again. -/
import Derived.Test.YtgknbjiocgcmdaaHLeast
namespace Go.Proofs.Ytgknbjiocgcmdaa
open Go.RowKit
set_option linter.unusedVariables false
variable {R : Nat → Value → Prop}

set_option maxHeartbeats 2000000 in
theorem rise_any (b : Nat) (F : Nat → Prop) (l : List Hp.Tm) (p : Nat) (w : World) (h : HM R w b F l) (hp : p < l.length) (hl : l.length ≤ 1000000) (hu : Hid (Hp.Up l p)) :
    Calls Try.prog 29 #[.pointer (some ⟨b, 0, none⟩), .int .i64 p] w fun e w' => e = .returned (.tuple #[]) ∧ ∃ l', l'.Perm l ∧ Hp.Heap l' ∧ HM R w' b F l' ∧ Kept F w w' := by
  obtain ⟨n, hn⟩ : ∃ n, n = l.length := ⟨_, rfl⟩
  rw [← hn] at hl hp
  have HN := Lib.hid hn
  have H := Lib.hid h
  clear h hn
  go_enter Try.func29, Try.ntmps29
  go_wp2_with fail
  go_loopw [1] (fun k wr => ∃ (p : Nat) (l' : List Hp.Tm), k = .int .i64 p ∧ p < n ∧ Hid (n = l'.length) ∧ Hid (l'.Perm l) ∧ Hid (Hp.Up l' p) ∧ Hid (HM R wr b F l') ∧ Hid (Kept F w wr)) (fun k _ => (intOf k).toNat)
  case atStart => exact ⟨p, l, rfl, hp, HN, Lib.hid (List.Perm.refl _), hu, H, Lib.hid (Kept.refl _ _)⟩
  case round =>
    obtain ⟨p, m, rfl, hp, HN, HP, HU, H, HK⟩ := hrel
    have hlen := HN.out
    by_cases h0 : p = 0
    · subst h0
      go_wp2_with fail
      go_end0
      exact ⟨rfl, m, HP.out, Hp.up_zero HU.out, H.out, HK.out⟩
    · obtain ⟨x, hx⟩ : ∃ x, m[p]? = some x := ⟨_, List.getElem?_eq_getElem (by omega)⟩
      obtain ⟨y, hy⟩ : ∃ y, m[(p - 1) / 2]? = some y := ⟨_, List.getElem?_eq_getElem (by omega)⟩
      obtain ⟨g, c, c0, _, _, hcap, hmost, _, hc⟩ := H.out.cells (by omega)
      obtain ⟨x0, x1, x2⟩ := hc _ x hx
      obtain ⟨y0, y1, y2⟩ := hc _ y hy
      rw [← hlen] at c0 hcap
      have HC := Lib.hid (fun W => compare_any x y W)
      have HX := Lib.hid hx
      have HY := Lib.hid hy
      obtain ⟨q, hq⟩ : ∃ q, (p - 1) / 2 = q := ⟨_, rfl⟩
      rw [hq] at y0 y1 y2
      have p1 : (p : Int) < (n : Int) := by omega
      have p2 : (0 : Int) < (p : Int) := by omega
      have q1 : (q : Int) < (n : Int) := by omega
      have e1 : IntKind.i64.wrap ((p : Int) - 1) = (p : Int) - 1 := IntWalk.i64_in _ (by omega)
      have e2 : ((p : Int) - 1).tdiv 2 = (q : Int) := by rw [Int.tdiv_eq_ediv_of_nonneg (by omega)]; omega
      have e3 : IntKind.i64.wrap (((p : Int) - 1).tdiv 2) = (q : Int) := by rw [e2]; exact IntWalk.i64_in _ (by omega)
      obtain ⟨xa, xb, xc⟩ := x
      obtain ⟨ya, yb, yc⟩ := y
      clear hc hx hy hlen
      simp only at x0 x1 x2 y0 y1 y2
      go_wp2_with fail
      go_region_held3 (fun w' => w'.cell? ⟨b, 0, none⟩ = some (.slice (some ⟨g, 0, none⟩) n c) ∧ w'.cell? ⟨g, p * 3, none⟩ = some (.int .i64 xa) ∧ w'.cell? ⟨g, p * 3 + 1, none⟩ = some (.int .i64 xb) ∧ w'.cell? ⟨g, p * 3 + 2, none⟩ = some (.int .i64 xc) ∧ w'.cell? ⟨g, q * 3, none⟩ = some (.int .i64 ya) ∧ w'.cell? ⟨g, q * 3 + 1, none⟩ = some (.int .i64 yb) ∧ w'.cell? ⟨g, q * 3 + 2, none⟩ = some (.int .i64 yc))
        (first
          | (go_split_ands; refine ⟨keepcell hbX (by assumption), keepcell hbX (by assumption), keepcell hbX (by assumption), keepcell hbX (by assumption), keepcell hbX (by assumption), keepcell hbX (by assumption), keepcell hbX (by assumption)⟩)
          | go_keep)
        (first
          | (go_at_call 38; refine (HC.out _).mono ?_; rintro e w1 ⟨rfl, hG⟩; have hbX := hG.below))
      have HM1 := Lib.hid (H.out.step (below_of_drew hbX))
      have HK1 := Lib.hid (HK.out.trans (Kept.of_below (F := F) (below_of_drew hbX)))
      clear hbX hG c0 x0 x1 x2 y0 y1 y2
      obtain ⟨r, hr⟩ : ∃ r, r = Hp.cmp (xa, xb, xc) (ya, yb, yc) := ⟨_, rfl⟩
      rw [← hr]
      have hlen := HN.out
      by_cases hlt : r < 0
      · have HU1 := Lib.hid (Hp.up_step (by omega) HU.out HX.out HY.out (Hp.cmp_neg.1 (by omega)))
        clear hr
        have hS := swap_any b F m p q w1 HM1.out (by omega) (by omega) (by omega)
        have HS := Lib.hid hS
        clear hS hlen
        go_wp2_with fail
        refine HS.out.mono ?_
        rintro e w2 ⟨rfl, hm2, hk2⟩
        have HM2 := Lib.hid hm2
        have HK2 := Lib.hid (HK1.out.trans hk2)
        have HP2 := Lib.hid ((Hp.swap_perm m p q).trans HP.out)
        have HN2 := Lib.hid (HN.out.trans (Hp.swap_length m p q).symm)
        clear hm2 hk2
        go_wp2_with fail
        go_roundw
        case rel => exact ⟨q, Hp.swap m p q, rfl, by omega, HN2, HP2, by rw [← hq]; rw [hq]; rw [hq] at HU1; exact HU1, HM2, HK2⟩
        case measure => simp [intOf]; omega
      · have t3 : 0 ≤ r := by omega
        have HD := Lib.hid (Hp.up_done HU.out HX.out HY.out (Hp.cmp_ge.1 (by omega)))
        clear hr
        go_wp2_with fail
        (try simp only [Exit.inBlock, Exit.then])
        refine bodyPost_ret (results_none rfl _ _ _) rfl ?_
        exact ⟨rfl, m, HP.out, HD.out, HM1.out, HK1.out⟩
set_option maxHeartbeats 2000000 in
theorem sink_any (b : Nat) (F : Nat → Prop) (l : List Hp.Tm) (lo p : Nat) (w : World) (h : HM R w b F l) (hp : p ≤ 1000000) (hl : l.length ≤ 1000000) (hu : Hid (Hp.Down l lo p)) :
    Calls Try.prog 35 #[.pointer (some ⟨b, 0, none⟩), .int .i64 p] w fun e w' => e = .returned (.tuple #[]) ∧ ∃ l', l'.Perm l ∧ Hp.From l' lo ∧ HM R w' b F l' ∧ Kept F w w' := by
  obtain ⟨n, hn⟩ : ∃ n, n = l.length := ⟨_, rfl⟩
  rw [← hn] at hl
  have HN := Lib.hid hn
  have H := Lib.hid h
  have HC := Lib.hid (least_any b F l p w h (by omega) (by omega))
  clear h hn
  go_enter Try.func35, Try.ntmps35
  go_wp2_with fail
  refine HC.out.mono ?_
  rintro e w1 ⟨m, rfl, hl1, hb1⟩
  have HL := Lib.hid hl1
  have HK := Lib.hid (Kept.of_below (F := F) hb1)
  have HM1 := Lib.hid (H.out.step hb1)
  clear hl1 hb1 HC H
  go_wp2_with fail
  go_loopw [1, 4] (fun k low wr => ∃ (p m : Nat) (l' : List Hp.Tm), k = .int .i64 p ∧ low = .int .i64 m ∧ p ≤ 1000000 ∧ Hid (n = l'.length) ∧ Hid (l'.Perm l) ∧ Hid (Hp.Down l' lo p) ∧ Hid (Hp.Least l' p m) ∧ Hid (HM R wr b F l') ∧ Hid (Kept F w wr)) (fun k _ _ => n - (intOf k).toNat)
  case atStart => exact ⟨p, m, l, rfl, rfl, hp, HN, Lib.hid (List.Perm.refl _), hu, HL, HM1, HK⟩
  case round =>
    clear HL HM1 HK
    obtain ⟨p, m, z, rfl, rfl, hp, HN, HP, HU, HL, H, HK⟩ := hrel
    have hlen := HN.out
    by_cases he : m = p
    · subst he
      have HD := Lib.hid (Hp.down_done HU.out HL.out)
      go_wp2_with fail
      go_end0
      exact ⟨rfl, z, HP.out, HD.out, H.out, HK.out⟩
    · have hne : ((m : Int) != (p : Int)) = true := by rw [bne_iff_ne]; omega
      have hpl := HL.out.place
      have HU1 := Lib.hid (Hp.down_step HU.out HL.out he (by omega))
      have hS := swap_any b F z p m wr H.out (by omega) (by omega) (by omega)
      have HS := Lib.hid hS
      have HLe := Lib.hid (fun W (h : HM R W b F (Hp.swap z p m)) => least_any b F (Hp.swap z p m) m W h (by omega) (by rw [Hp.swap_length]; omega))
      have hpm : p < m := by omega
      have hmn : m < n := by omega
      clear hS hlen he hpl
      go_wp2_with fail
      refine HS.out.mono ?_
      rintro e w2 ⟨rfl, hm2, hk2⟩
      have HM2 := Lib.hid hm2
      have HK2 := Lib.hid (HK.out.trans hk2)
      have HP2 := Lib.hid ((Hp.swap_perm z p m).trans HP.out)
      have HN2 := Lib.hid (HN.out.trans (Hp.swap_length z p m).symm)
      clear hm2 hk2
      go_wp2_with fail
      refine (HLe.out _ HM2.out).mono ?_
      rintro e w3 ⟨k, rfl, hl3, hb3⟩
      have HL3 := Lib.hid hl3
      have HM3 := Lib.hid (HM2.out.step hb3)
      have HK3 := Lib.hid (HK2.out.trans (Kept.of_below (F := F) hb3))
      clear hl3 hb3
      go_wp2_with fail
      go_roundw
      case rel => exact ⟨m, k, Hp.swap z p m, rfl, rfl, by omega, HN2, HP2, HU1, HL3, HM3, HK3⟩
      case measure => simp [intOf]; omega
end Go.Proofs.Ytgknbjiocgcmdaa

