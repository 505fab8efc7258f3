/- Contracts and plain mathematics, put together by program (wip/merge.py) out of: JRefWhere RPut RHalf JAll JMet ZRef ZRefWith ZLaid JFrame. -/
import Derived.Test.YtgloibgmaiadfaaDoorM3
import Derived.Test.YtgloibgmaiadfaaDoorM1
import Derived.Test.YtgloibgmaiadfaaDoorZAll
import Derived.Test.YtgloibgmaiadfaaDoorRAdd
import Derived.Test.YtgloibgmaiadfaaDoorM0
import Derived.Test.YtgloibgmaiadfaaDoorM4
import Derived.Maps.OwnSet
import Derived.RegionTactic
import Derived.Test.YtgloibgmaiadfaaDoorCards
import Derived.Test.YtgloibgmaiadfaaDoorTie
import Derived.ChangeSlices
import Derived.Lib.SmallJoins
import Derived.Lib.LaidTab
import Derived.LaidMore
import Derived.SevenTiedAt
import Derived.Stop.Joined
import Derived.MakeChecks
/- The document's Where, On, by their contracts: the first ring, or else the first row, in which one stands; whether a processor is plugged. -/
namespace Go.Proofs.YtgloibgmaiadfaaDoor
open Go.RowKit
set_option linter.unusedVariables false

theorem has_false {zs : List Int} {g : Int} (h : ¬ Tp.has zs g = true) : Tp.has zs g = false := by cases e : Tp.has zs g; rfl; exact absurd e h
/-- Is a processor plugged? -/
theorem jrefOn_any (d : Ad) (r : Jp.Rn) (p : Int) (w : World) (hon : r.on < 18446744073709551616) :
    Calls Tryd.prog 50 #[jv d r, .int .i64 p] w fun e w' => e = .returned (.bool (Jp.onP r p)) ∧ Below w.heap.size w w' := by
  obtain ⟨V, hV, hX, hB⟩ := B5.start w (.slice d.T d.nt d.ct) (.int .i64 r.size) (.slice d.R d.nr d.cr) (.slice d.S d.ns d.cs) (.int .u64 (r.on : Nat)) 35
  have E := Lib.hid hV
  have d4 := hX.c4
  have B0 := Lib.hid hB
  have HC := Lib.hid (zrefAll_any r.on V hon)
  clear hV hX hB
  unfold jv
  go_enter Tryd.func50, Tryd.ntmps50
  go_wp2_with fail
  rw [← E.out]
  refine HC.out.mono ?_
  rintro e w2 ⟨v, n, rfl, ho, hb2⟩
  obtain ⟨A2, c2, rfl, hr2, _⟩ := Row.of_own' ho
  have HN := Lib.hid (in_any A2 n c2 (Zp.mem r.on) p w2 w2.heap.size (Lib.hid hr2.len) (by have := hr2.cap; have := hr2.most; omega) hr2.row)
  have B2 := Lib.hid (B0.out.trans (hb2.mono B0.out.size))
  clear hr2 hb2 HC ho
  go_wp2_with fail
  refine HN.out.mono ?_
  rintro e w3 ⟨rfl, rfl⟩
  go_wp2_with fail
  go_ret
  exact ⟨rfl, B2.out⟩
end Go.Proofs.YtgloibgmaiadfaaDoor


/- ring.Put, Take, All and Half, by their contracts. -/
namespace Go.Proofs.YtgloibgmaiadfaaDoor
open Go.RowKit
set_option linter.unusedVariables false

set_option maxHeartbeats 1600000 in
theorem put_any (x : Int) (A : Option Addr) (n c : Nat) (zs : List Int) (g s : Int) (w : World) (h : Row w A n c zs) (hn : n ≤ 100000) :
    Calls Tryd.prog 40 #[.agg #[.int .i64 x, .slice A n c], .int .i64 g, .int .i64 s] w (MadeRL w (Rp.put (x, zs) g s)) := by
  have H := Lib.hid h
  clear h
  obtain ⟨W0, hW0, hX0⟩ := Bx.start w (.int .i64 x) (.slice A n c) (.int .i64 0) (.slice none 0 0) 54 54
  have X0 := Lib.hid hX0
  have E0 := Lib.hid hW0
  clear hX0 hW0
  by_cases hx : x = 0
  · subst hx
    have HR := Lib.hid (show Rp.put (0, zs) g s = ((g, zs), []) from rfl)
    go_enter Tryd.func40, Tryd.ntmps40
    go_wp2_with fail
    rw [← E0.out]
    clear E0
    refine (left_at A n c zs 0 _ _ rfl (H.out.below X0.out.below) (by omega) (by omega)).mono ?_
    rintro e w2 ⟨A2, n2, c2, rfl, hr2, hf2, hb2⟩
    have X2 := X0.out.step hb2
    rw [List.drop_zero] at hr2
    have HM := made_rl (r := ((g, zs), [])) (x := g) (m := 0) (u := .int .i64 g) (v := .slice A2 n2 c2) (w := w) rfl hr2 (hf2.mono X0.out.size) (Row.nothing _) (From.none _) X2.below
    rw [← HR.out] at HM
    have HM := Lib.hid HM
    have d2 := X2.r0
    have d3 := X2.r1
    have d4 := X2.f0
    have d5 := X2.f1
    obtain ⟨k0, k1⟩ := told2 (u := .int .i64 g) (v := .slice A2 n2 c2) d2 d3
    clear hr2 hf2 hb2 HR
    go_wp2_with fail
    refine bodyPost_ret (v := .tuple #[.agg #[.int .i64 g, .slice A2 n2 c2], .slice none 0 0]) ?_ rfl ?_
    · simp [results, Tryd.results40, go_sem, k0, k1]
    exact HM.out
  · have HR := Lib.hid (show Rp.put (x, zs) g s = Rp.add (g, zs) x s by unfold Rp.put; rw [if_neg hx])
    have t1 : (x == 0) = false := by rw [beq_eq_false_iff_ne]; exact hx
    go_enter Tryd.func40, Tryd.ntmps40
    go_wp2_with fail
    rw [← E0.out]
    clear E0
    refine (add_any g A n c zs x s _ (H.out.below X0.out.below) hn).mono ?_
    rintro e w2 ⟨A2, n2, c2, B2, m2, d2, rfl, hr2, hf2, hq2, hg2, hb2⟩
    have X2 := X0.out.step hb2
    obtain ⟨y, hy⟩ : ∃ y, y = (Rp.add (g, zs) x s).1.1 := ⟨_, rfl⟩
    rw [← hy]
    have HM := made_rl (r := Rp.add (g, zs) x s) (x := y) (u := .int .i64 y) (v := .slice A2 n2 c2) (w := w) hy hr2 (hf2.mono X0.out.size) hq2 (hg2.mono X0.out.size) X2.below
    rw [← HR.out] at HM
    have HM := Lib.hid HM
    have l2 := X2.r0
    have l3 := X2.r1
    have l4 := X2.f0
    have l5 := X2.f1
    obtain ⟨k0, k1⟩ := told2 (u := .int .i64 y) (v := .slice A2 n2 c2) l2 l3
    clear hr2 hf2 hq2 hg2 hb2 hy
    go_wp2_with fail
    refine bodyPost_ret (v := .tuple #[.agg #[.int .i64 y, .slice A2 n2 c2], .slice B2 m2 d2]) ?_ rfl ?_
    · simp [results, Tryd.results40, go_sem, k0, k1]
    exact HM.out
/-- What a call leaves that has made a ring and a number. -/
def MadeRI (w0 : World) (r : (Int × List Int) × Int) (e : Ending) (w' : World) : Prop :=
  ∃ A n c, e = .returned (.tuple #[.agg #[.int .i64 r.1.1, .slice A n c], .int .i64 r.2]) ∧ Row w' A n c r.1.2 ∧ From w0.heap.size A ∧ Below w0.heap.size w0 w'
theorem made_ri {w W2 : World} {r : (Int × List Int) × Int} {A : Option Addr} {n c : Nat} {x y : Int} {u v : Value} (hx : x = r.1.1) (hy : y = r.2) (ha : Row W2 A n c r.1.2) (fa : From (w.heap.size + 2) A) (hbe : Below w.heap.size w W2) :
    MadeRI w r (.returned (.tuple #[.agg #[.int .i64 x, .slice A n c], .int .i64 y])) ((W2.setCell ⟨w.heap.size + 1, 0, none⟩ u).setCell ⟨w.heap.size + 1, 1, none⟩ v) := by
  subst hx hy
  exact ⟨A, n, c, rfl, (ha.set fa).set fa, fa.mono (by omega), (hbe.setCell (by simp) _).setCell (by simp) _⟩
end Go.Proofs.YtgloibgmaiadfaaDoor


/- ring.All and ring.Half, by their contracts. -/
namespace Go.Proofs.YtgloibgmaiadfaaDoor
open Go.RowKit
set_option linter.unusedVariables false

set_option maxHeartbeats 1600000 in
theorem all_own (x : Int) (A : Option Addr) (n c : Nat) (zs : List Int) (w : World) (h : Row w A n c zs) (hn : n ≤ 100000) :
    Calls Tryd.prog 36 #[.agg #[.int .i64 x, .slice A n c]] w (MadeO w (Rp.all (x, zs))) := by
  have H := Lib.hid h
  clear h
  by_cases hx : x = 0
  · subst hx
    have hb := Lib.hid (below_new w (.cells #[.int .i64 0, .slice A n c] 54))
    have HR := Lib.hid (show Rp.all (0, zs) = zs from rfl)
    go_enter Tryd.func36, Tryd.ntmps36
    go_wp2_with fail
    refine (left_own A n c zs 0 _ (H.out.below hb.out) (by omega) (by omega)).mono ?_
    rintro e w2 ⟨v2, n2, rfl, ho2, hb2⟩
    rw [List.drop_zero] at ho2
    go_wp2_with fail
    go_ret
    exact ⟨v2, n2, rfl, by rw [HR.out]; exact own_base' ho2 hb.out.size, hb.out.trans (hb2.mono hb.out.size)⟩
  · have t1 : (x == 0) = false := by rw [beq_eq_false_iff_ne]; exact hx
    have HR := Lib.hid (show Rp.all (x, zs) = [x] ++ zs by unfold Rp.all; rw [if_neg hx]; rfl)
    have hb := Lib.hid (below_new w (.cells #[.int .i64 x, .slice A n c] 54))
    have hb1 := Lib.hid (below_new (w.alloc (.cells #[.int .i64 x, .slice A n c] 54)) (.cells #[.int .i64 x] 3))
    have hown := Lib.hid (own_lit (w.alloc (.cells #[.int .i64 x, .slice A n c] 54)) [x] w.heap.size (by simp) (by simp))
    go_enter Tryd.func36, Tryd.ntmps36
    go_wp2_with (at_builtin; refine wpList_append_row rfl (.tmp 11) (.tmp 13) rfl w.heap.size (.slice (some ⟨w.heap.size + 1, 0, none⟩) 1 1) 1 [x] rfl ?c1 A n c zs rfl ?c2 (by omega) ?c3 ?_)
    case c1 => simpa using hown.out
    case c2 => exact (H.out.below hb.out).below hb1.out
    case c3 => simp; omega
    intro v2 w2 hown2 hg2
    have hbe : Below w.heap.size w w2 := (hb.out.trans (hb1.out.mono hb.out.size)).grown hg2 (by simp; omega) (fun k hk => by simp [Value.ownBlock] at hk; omega)
    have ho2 : w2.ownsRow w.heap.size 3 1 v2 (1 + n) (([x] ++ zs).map (Value.int .i64)) := by simpa using hown2
    clear hown2
    go_wp2_with fail
    go_ret
    exact ⟨v2, _, rfl, by rw [HR.out]; exact ho2, hbe⟩
theorem all_any (x : Int) (A : Option Addr) (n c : Nat) (zs : List Int) (w : World) (h : Row w A n c zs) (hn : n ≤ 100000) :
    Calls Tryd.prog 36 #[.agg #[.int .i64 x, .slice A n c]] w (MadeR w (Rp.all (x, zs))) := (all_own x A n c zs w h hn).mono fun _ _ => MadeO.madeR
end Go.Proofs.YtgloibgmaiadfaaDoor


/- runs.All, isSize, slices.Contains, by their contracts. -/
namespace Go.Proofs.YtgloibgmaiadfaaDoor
open Go.RowKit
set_option linter.unusedVariables false

theorem place_has (zs : List Int) (v : Int) : decide (0 ≤ Dp.place zs v) = Tp.has zs v := by
  cases h : Tp.has zs v
  · rw [Dp.place_out (Jp.has_no.1 h)]; decide
  · obtain ⟨m, e, _⟩ := Dp.place_mem (Jp.has_iff.1 h)
    rw [e]; simp
theorem contains_any (A : Option Addr) (n c : Nat) (zs : List Int) (v : Int) (w : World) (h : Row w A n c zs) :
    Calls Tryd.prog 44 #[.slice A n c, .int .i64 v] w fun e w' => e = .returned (.bool (Tp.has zs v)) ∧ w' = w := by
  have HC := Lib.hid (index_any A n c zs v w w.heap.size (Lib.hid h.len) (by have := h.cap; have := h.most; omega) h.row)
  have HP := Lib.hid (place_has zs v)
  clear h
  go_enter Tryd.func44, Tryd.ntmps44
  go_wp2_with fail
  refine HC.out.mono ?_
  rintro e w1 ⟨rfl, rfl⟩
  clear HC
  by_cases hz : 0 ≤ Dp.place zs v
  · have hb : Tp.has zs v = true := by rw [← HP.out]; simp [hz]
    have HH := Lib.hid hb
    clear HP hb
    go_wp2_with fail
    go_ret
    exact ⟨ret_bool HH.out.symm, rfl⟩
  · have hb : Tp.has zs v = false := by rw [← HP.out]; simp [hz]
    have hz1 : Dp.place zs v < 0 := by omega
    have HH := Lib.hid hb
    clear hb
    go_wp2_with fail
    go_ret
    exact ⟨ret_bool HP.out, rfl⟩
theorem isSize_any (s : Int) (w : World) : Calls Tryd.prog 25 #[.int .i64 s] w fun e w' => e = .returned (.bool (decide (2 ≤ s ∧ s ≤ 16))) ∧ w' = w := by
  by_cases h1 : s < 2
  · have hd : decide (2 ≤ s ∧ s ≤ 16) = false := by simp; omega
    rw [hd]
    go_enter Tryd.func25, Tryd.ntmps25
    go_wp2_with fail
    go_ret
    exact ⟨rfl, rfl⟩
  have h1' : 2 ≤ s := by omega
  by_cases h2 : 16 < s
  · have hd : decide (2 ≤ s ∧ s ≤ 16) = false := by simp; omega
    rw [hd]
    clear h1
    go_enter Tryd.func25, Tryd.ntmps25
    go_wp2_with fail
    go_ret
    exact ⟨ret_bool (by simp [h2]), rfl⟩
  have h2' : s ≤ 16 := by omega
  have hd : decide (2 ≤ s ∧ s ≤ 16) = true := by simp; omega
  rw [hd]
  clear h1 h2
  go_enter Tryd.func25, Tryd.ntmps25
  go_wp2_with fail
  go_ret
  exact ⟨ret_bool (by simp), rfl⟩
set_option maxHeartbeats 1000000 in
theorem runsAll_any {F : Nat → Prop} (d : Ad) (r : Jp.Rn) (w : World) (h : RM F w d r) (hlow : Low r) :
    Calls Tryd.prog 14 #[jv d r] w (MadeR w (Jp.all r)) := by
  obtain ⟨T, nt, ct, R, nr, cr, S, ns, cs⟩ := d
  have H := Lib.hid h
  have HL := Lib.hid hlow
  obtain ⟨hr1, hr2, hr3⟩ := h.nr
  obtain ⟨hs1, hs2, hs3⟩ := h.ns
  have hr4 := hlow.rings
  have hs4 := hlow.rows
  simp only at hr1 hr2 hr3 hs1 hs2 hs3
  clear h hlow
  obtain ⟨V, hV, hX, hB⟩ := B5.start w (.slice T nt ct) (.int .i64 r.size) (.slice R nr cr) (.slice S ns cs) (.int .u64 (r.on : Nat)) 29
  have E := Lib.hid hV
  have X0 := Lib.hid hX
  have B0 := Lib.hid hB
  clear hV hX hB
  unfold jv
  go_enter Tryd.func14, Tryd.ntmps14
  go_wp2_with fail
  rw [← E.out]
  clear E
  have d2 := X0.out.c2
  go_loopw [3, 11] (fun u i wr => ∃ k : Nat, k ≤ nr ∧ i = .int .i64 k ∧ Hid (wr.ownsRow V.heap.size 3 1 u (ringsTo r k).length ((ringsTo r k).map (Value.int .i64))) ∧ Hid (Below V.heap.size V wr)) (fun _ i _ => nr - (intOf i).toNat)
  case atStart => exact ⟨0, Nat.zero_le _, rfl, Lib.hid (World.ownsRow_nil _ _ _ _), Lib.hid (Below.refl _ _)⟩
  case round =>
    obtain ⟨k, hk, rfl, HO, HB⟩ := hrel
    have hB1 := B0.out.trans (HB.out.mono B0.out.size)
    have HM := Lib.hid (H.out.below hB1)
    have B1 := Lib.hid hB1
    have X1 := X0.out.step HB.out
    have d3 := X1.c3
    clear X1 hB1 d2
    obtain ⟨u0, v0, rfl, _⟩ := Row.of_own HO.out
    by_cases hlt : k < nr
    · obtain ⟨x, hx⟩ : ∃ x, r.rings[k]? = some x := ⟨_, List.getElem?_eq_getElem (by omega)⟩
      obtain ⟨b, off, A, n, c, hR, _, c0, c1, hrow⟩ := HM.out.ringAt hx
      simp only at hR
      subst hR
      have hn : n ≤ 400 := by rw [← hrow.len]; exact HL.out.ring x (List.mem_of_getElem? hx)
      have hb2 := below_new wr (.cells #[.int .i64 x.1, .slice A n c] 54)
      have HC := Lib.hid (all_any x.1 A n c x.2 _ (hrow.below hb2) (by omega))
      have B2 := Lib.hid (B1.out.trans (hb2.mono B1.out.size))
      have HB2 := Lib.hid (HB.out.trans (hb2.mono HB.out.size))
      have O2 := Lib.hid (own_below HO.out hb2)
      have HT := Lib.hid (ringsTo_succ hx)
      have HLE := Lib.hid (ringsTo_le HL.out k)
      have hxl := Rp.all_length x
      have HXL := Lib.hid (show (Rp.all x).length ≤ 401 by rw [hrow.len] at hxl; omega)
      have i0 : (0 : Int) ≤ (k : Int) := by omega
      have i1 : (k : Int) < (nr : Int) := by omega
      clear hx hrow hxl hr1 hs1 HM hb2
      go_wp2_with fail
      refine HC.out.mono ?_
      rintro e w2 ⟨A2, n2, c2, rfl, hr2, _, hb2⟩
      have R2 := Lib.hid (show Row w2 A2 n2 c2 (Rp.all x) from hr2)
      have HN := Lib.hid (show (Rp.all x).length = n2 from hr2.len)
      have O3 := Lib.hid (own_below O2.out hb2)
      have B3 := Lib.hid (B2.out.trans (hb2.mono B2.out.size))
      have HB3 := Lib.hid (HB2.out.trans (hb2.mono HB2.out.size))
      clear hr2 hb2 HC c0 c1 d3 O2 B2 HB2
      go_wp2_with (at_builtin; refine wpList_append_row rfl _ _ rfl V.heap.size _ _ _ rfl O3.out A2 n2 c2 _ rfl R2.out (by have := HLE.out; have := HXL.out; have := HN.out; omega) HB3.out.size ?_; intro v' w3 hown hg)
      have O4 := Lib.hid (show w3.ownsRow V.heap.size 3 1 v' (ringsTo r (k + 1)).length ((ringsTo r (k + 1)).map (Value.int .i64)) by rw [HT.out, List.length_append, HN.out]; exact hown)
      have B4 := Lib.hid (HB3.out.grown hg HB3.out.size (fun j hj => (O3.out.lt j hj).1))
      clear hown hg R2
      go_wp2_with fail
      go_roundw
      case rel => exact ⟨k + 1, by omega, by go_num, O4, B4⟩
      case measure => simp [intOf]; omega
    · obtain rfl : k = nr := by omega
      have HRA := Lib.hid (show ringsTo r k = rowsTo r 0 by rw [rowsTo_zero, hr1])
      obtain ⟨wo, rfl⟩ : ∃ wo : World, wo = wr := ⟨_, rfl⟩
      go_wp2_with fail
      clear d3
      go_loopw [3, 23] (fun u i wr => ∃ j : Nat, j ≤ ns ∧ i = .int .i64 j ∧ Hid (wr.ownsRow V.heap.size 3 1 u (rowsTo r j).length ((rowsTo r j).map (Value.int .i64))) ∧ Hid (Below V.heap.size V wr)) (fun _ i _ => ns - (intOf i).toNat)
      case atStart => exact ⟨0, Nat.zero_le _, rfl, by rw [← HRA.out]; exact HO, HB⟩
      case round =>
        clear HO HB B1 HM
        obtain ⟨j, hj, rfl, HO, HB⟩ := hrel
        have hB1 := B0.out.trans (HB.out.mono B0.out.size)
        have HM := Lib.hid (H.out.below hB1)
        have B1 := Lib.hid hB1
        clear hB1
        obtain ⟨u1, v1, rfl, _⟩ := Row.of_own HO.out
        by_cases hlj : j < ns
        · obtain ⟨x, hx⟩ : ∃ x, r.rows[j]? = some x := ⟨_, List.getElem?_eq_getElem (by omega)⟩
          obtain ⟨b, off, A, n, c, hR, _, c0, hrow⟩ := HM.out.rowAt hx
          simp only at hR
          subst hR
          have hn : n ≤ 400 := by rw [← hrow.len]; exact HL.out.row x (List.mem_of_getElem? hx)
          have HT := Lib.hid (rowsTo_succ hx)
          have HLE := Lib.hid (rowsTo_le HL.out j)
          have R2 := Lib.hid hrow
          have HN := Lib.hid hrow.len
          have i0 : (0 : Int) ≤ (j : Int) := by omega
          have i1 : (j : Int) < (ns : Int) := by omega
          clear hx hrow hr1 hs1 HM
          go_wp2_with (at_builtin; refine wpList_append_row rfl _ _ rfl V.heap.size _ _ _ rfl HO.out A n c _ rfl R2.out (by have := HLE.out; omega) HB.out.size ?_; intro v' w3 hown hg)
          have O3 := Lib.hid (show w3.ownsRow V.heap.size 3 1 v' (rowsTo r (j + 1)).length ((rowsTo r (j + 1)).map (Value.int .i64)) by rw [HT.out, List.length_append, HN.out]; exact hown)
          have B3 := Lib.hid (HB.out.grown hg HB.out.size (fun j hj => (HO.out.lt j hj).1))
          clear hown hg R2 c0
          go_wp2_with fail
          go_roundw
          case rel => exact ⟨j + 1, by omega, by go_num, O3, B3⟩
          case measure => simp [intOf]; omega
        · obtain rfl : j = ns := by omega
          have hO := HO.out
          rw [← hs1, rowsTo_all] at hO
          obtain ⟨A3, c3, e3, hr3, hf3⟩ := Row.of_own' hO
          injection e3 with e31 e32 e33
          subst e31 e33
          have HM2 := Lib.hid (show MadeR w (Jp.all r) (.returned (.slice u1 (rowsTo r j).length v1)) wr from ⟨u1, _, v1, by rw [← hs1, rowsTo_all], hr3, hf3.mono B0.out.size, B1.out⟩)
          go_wp2_with fail
          go_ret
          exact HM2.out
end Go.Proofs.YtgloibgmaiadfaaDoor


/- runs.eachOnce, by its contract: a closure that keeps whom it met in a map. -/
namespace Go.Proofs.YtgloibgmaiadfaaDoor
open Go.RowKit
set_option linter.unusedVariables false

theorem jkeyed : Go.Maps.Keyed Tryd.prog 3 := Go.Maps.int_keyed Tryd.underlying3
theorem jzero (w : World) : (zeroValue 87).run Tryd.prog w = .ok (.agg #[]) w := by kernel_rfl
theorem jkey_of {g : Int} (h : In64 g) : keyOf Tryd.prog 3 (.int .i64 g) = some (.int .i64 g) := by
  refine Go.Maps.keyOf_int_mk Tryd.underlying3 ?_
  unfold In64 at h
  simpa [Lit.wf, IntKind.min, IntKind.max, IntKind.signed, IntKind.bits] using h
theorem jtight {H : Type} {P : Program} {k : TypeId} {R : Value → Option (DataW H × List MemPlace)} {w : World} {b n : Nat} {D : DataW H} (h : w.ownsMap P k R b n D) {n' : Nat} (hn : Maps.size D ≤ n') : w.ownsMap P k R b n' D := by
  obtain ⟨es, clock, hb, F, hs, rfl⟩ := h
  refine ⟨es, clock, hb, F, ?_, rfl⟩
  simpa [Maps.size, length_sorted] using hn
/-- Block m is a map whose keys are these numbers. -/
def MetM (W : World) (m : Nat) (l : List Int) : Prop :=
  ∃ D : DataW Unit, W.ownsMap Tryd.prog 3 unitElem m l.length D ∧ (∀ g : Int, Maps.has D (.int .i64 g) = l.contains g) ∧ Maps.size D = l.length
theorem MetM.lt {W : World} {m : Nat} {l : List Int} (h : MetM W m l) : m < W.heap.size := by obtain ⟨D, hD, _⟩ := h; exact hD.lt
theorem MetM.keep {W W' : World} {m : Nat} {l : List Int} (h : MetM W m l) (hk : W'.heap[m]? = W.heap[m]?) : MetM W' m l := by
  obtain ⟨D, ⟨es, clock, hb, r⟩, h2⟩ := h
  exact ⟨D, ⟨es, clock, hk.trans hb, r⟩, h2⟩
theorem MetM.made (w : World) : MetM (w.alloc (.map #[] 0)) w.heap.size [] :=
  ⟨.map [], (World.ownsMap_made w Tryd.prog 3 unitElem).mono (by simp), fun g => rfl, rfl⟩
theorem MetM.put {W : World} {m n : Nat} {l : List Int} {D : DataW Unit} {g : Int} (hk : In64 g) (h0 : ∀ g : Int, Maps.has D (.int .i64 g) = l.contains g) (hs : Maps.size D = l.length) (ht : Go.Maps.Tidy D) (hg : g ∉ l)
    (h : W.ownsMap Tryd.prog 3 unitElem m n (D.put (.int .i64 g) (.agg []))) : MetM W m (l ++ [g]) := by
  have hkl := jkeyed.key (jkey_of hk)
  have h1 : Maps.has D (.int .i64 g) = false := by rw [h0, ← Bool.not_eq_true, List.contains_iff_mem]; exact hg
  have hsz : Maps.size (D.put (.int .i64 g) (.agg [])) = l.length + 1 := by rw [Go.Maps.size_put ht, h1]; simp [hs]
  refine ⟨_, jtight h (by rw [hsz]; simp), fun z => ?_, by rw [hsz]; simp⟩
  by_cases e : z = g
  · subst e
    rw [Go.Maps.has_put_same ht.isMap hkl]
    simp
  · rw [Go.Maps.has_put_other (fun e' => e (by injection e')), h0, Bool.eq_iff_iff, List.contains_iff_mem, List.contains_iff_mem, List.mem_append, List.mem_singleton]
    exact ⟨.inl, fun h => h.resolve_right e⟩
/-- Nothing but block m has turned. -/
structure Sv (m : Nat) (w w' : World) : Prop where
  os : w'.os = w.os
  tape : w'.tape = w.tape
  output : w'.output = w.output
  size : w.heap.size ≤ w'.heap.size
  block : ∀ k, k < w.heap.size → k ≠ m → w'.heap[k]? = w.heap[k]?
theorem Sv.refl (m : Nat) (w : World) : Sv m w w := ⟨rfl, rfl, rfl, Nat.le_refl _, fun _ _ _ => rfl⟩
theorem Sv.trans {m : Nat} {a b c : World} (h : Sv m a b) (k : Sv m b c) : Sv m a c :=
  ⟨k.os.trans h.os, k.tape.trans h.tape, k.output.trans h.output, Nat.le_trans h.size k.size, fun i hi hn => (k.block i (Nat.lt_of_lt_of_le hi h.size) hn).trans (h.block i hi hn)⟩
theorem Sv.of_grown {m : Nat} {a b : World} (h : a.grownBy b (some m)) : Sv m a b := ⟨h.os, h.tape, h.output, h.size, fun i hi hn => h.block i hi (fun e => hn (by injection e))⟩
theorem Sv.of_below {m : Nat} {a b : World} (h : Below a.heap.size a b) : Sv m a b := ⟨h.os, h.tape, h.output, h.size, fun i hi _ => h.block i hi⟩
theorem Sv.below {m : Nat} {w0 w w' : World} {B : Nat} (h : Sv m w w') (hb : Below B w0 w) (hF : B ≤ m) (hB : B ≤ w.heap.size) : Below B w0 w' :=
  ⟨h.os.trans hb.os, h.tape.trans hb.tape, h.output.trans hb.output, Nat.le_trans hb.size h.size, fun k hk => (h.block k (by omega) (by omega)).trans (hb.block k hk)⟩
theorem Sv.cell {m : Nat} {w w' : World} {a : Addr} {v : Value} (h : Sv m w w') (hc : w.cell? a = some v) (hn : a.block ≠ m) : w'.cell? a = some v :=
  (World.cell?_of_block (w := w) (h.block a.block (World.block_lt_of_cell? _ _ hc) hn)).trans hc
theorem jonce_snoc {l : List Int} {g : Int} : Rp.Once (l ++ [g]) ↔ Rp.Once l ∧ g ∉ l ∧ 1 ≤ g := by
  constructor
  · intro h
    exact ⟨h.left, fun hm => (List.nodup_append.1 h.2).2.2 g hm g (by simp) rfl, h.1 g (by simp)⟩
  · intro h
    exact h.1.snoc h.2.2 h.2.1
set_option maxRecDepth 100000 in
set_option maxHeartbeats 1000000 in
theorem wrong_any (g : Int) (mb m : Nat) (l : List Int) (w : World) (hc : w.cell? ⟨mb, 0, none⟩ = some (.map (some m))) (hM : MetM w m l) (hne : mb ≠ m) (hg : In64 g) (hl : l.length ≤ 1000000) :
    Calls Tryd.prog 61 #[.int .i64 g, .pointer (some ⟨mb, 0, none⟩)] w fun e w' => e = .returned (.bool (!decide (g ∉ l ∧ 1 ≤ g))) ∧ Sv m w w' ∧ (g ∉ l → MetM w' m (l ++ [g])) := by
  obtain ⟨D, hD, hh, hs⟩ := hM
  have HC := Lib.hid (hh g)
  have HH := Lib.hid hh
  have HS := Lib.hid hs
  have HT := Lib.hid (hD.tidy jkeyed)
  have HD := Lib.hid hD
  have hkey := jkey_of hg
  have hkey2 := jkey_of hg
  have hb1 := below_new w (.cells #[] 87)
  have hD1 : (w.alloc (.cells #[] 87)).ownsMap Tryd.prog 3 unitElem m l.length D := by
    have hlt := hD.lt
    obtain ⟨es, clock, hb, r⟩ := hD
    exact ⟨es, clock, (hb1.block m hlt).trans hb, r⟩
  have c1 := keepcell hb1 hc
  have HB1 := Lib.hid hb1
  have HLN := Lib.hid hl
  clear hh hs hb1 hl
  go_enter Tryd.func61, Tryd.ntmps61
  go_wp2_with (first | (at_lookup; refine wpList_lookup_own_unit _ rfl _ _ 86 rfl 3 87 jkeyed Tryd.underlying86 (jzero _) m l.length D rfl hD _ _ rfl hkey ?_) | (at_mapUpdate; refine wpList_mapUpdate_own _ rfl _ _ _ 86 rfl 3 87 jkeyed Tryd.underlying86 (unitElem (H := Unit)) m l.length _ rfl hD1 (by have := HLN.out; unfold maxLen; omega) _ _ _ rfl rfl hkey2 _ [] unitElem_mk ?_; intro w2 hown hg2) | go_in)
  · rename_i hhas
    have hin : g ∈ l := by have := HC.out; rw [hhas] at this; exact List.contains_iff_mem.1 this.symm
    have HSV := Lib.hid ((Sv.of_below HB1.out).trans (Sv.of_grown hg2))
    clear hown hg2
    go_ret
    exact ⟨ret_bool (by simp [hin]), HSV.out, fun hn => absurd hin hn⟩
  · rename_i hhas
    have hni : g ∉ l := fun hm => hhas (by rw [HC.out]; exact List.contains_iff_mem.2 hm)
    have HSV := Lib.hid ((Sv.of_below HB1.out).trans (Sv.of_grown hg2))
    have HMM := Lib.hid (MetM.put hg HH.out HS.out HT.out hni hown)
    clear hown hg2
    go_ret
    refine ⟨ret_bool ?_, HSV.out, fun _ => HMM.out⟩
    by_cases h1 : g < 1
    · have : ¬ 1 ≤ g := by omega
      simp [h1, this]
    · have : 1 ≤ g := by omega
      simp [h1, this, hni]
theorem enters3 (args : Array Value) (w : World) : (callFunc 61 args).run Tryd.prog w = .ok (.enter 61 args) w := by kernel_rfl
theorem jonce_take {zs : List Int} {k : Nat} {z : Int} (hz : zs[k]? = some z) : Rp.Once (zs.take (k + 1)) ↔ Rp.Once (zs.take k) ∧ z ∉ zs.take k ∧ 1 ≤ z := by
  rw [List.take_add_one, hz]
  exact jonce_snoc
theorem jonce_cut {zs : List Int} (k : Nat) (h : Rp.Once zs) : Rp.Once (zs.take k) := by
  rw [← List.take_append_drop k zs] at h
  exact h.left
set_option maxRecDepth 100000 in
set_option maxHeartbeats 1000000 in
theorem indexM_any (A : Option Addr) (n c : Nat) (zs : List Int) (mb m : Nat) (w : World) (h : Row w A n c zs) (hn : n ≤ 1000000) (hi : ∀ z ∈ zs, In64 z) (hc : w.cell? ⟨mb, 0, none⟩ = some (.map (some m))) (hM : MetM w m []) (hne : mb ≠ m) (hA : ∀ ad, A = some ad → zs ≠ [] → ad.block ≠ m) :
    Calls Tryd.prog 77 #[.slice A n c, .func (.func 61) #[] #[.pointer (some ⟨mb, 0, none⟩)]] w fun e w' =>
      (∃ k : Int, e = .returned (.int .i64 k) ∧ (k < 0 ↔ Rp.Once zs)) ∧ Sv m w w' := by
  have H := Lib.hid h
  have hlen := h.len
  have HI := Lib.hid hi
  have HC := Lib.hid hc
  have HM := Lib.hid hM
  have HA0 := Lib.hid hA
  have HNN := Lib.hid hn
  have hent := enters3
  have hmx := h.most
  have hcp := h.cap
  clear h hi hc hM hA hn
  go_enter Tryd.func77, Tryd.ntmps77
  go_wp2_with fail
  go_loopw [8] (fun i wr => ∃ k : Nat, k ≤ n ∧ i = .int .i64 k ∧ Hid (Sv m w wr) ∧ Hid (MetM wr m (zs.take k)) ∧ Hid (Rp.Once (zs.take k))) (fun i _ => n - (intOf i).toNat)
  case atStart => exact ⟨0, Nat.zero_le _, rfl, Lib.hid (Sv.refl _ _), HM, Lib.hid ⟨fun x hx => by simp at hx, by simp⟩⟩
  case round =>
    obtain ⟨k, hk, rfl, HW, HMK, HOK⟩ := hrel
    by_cases hlt : k < n
    · obtain ⟨z, hz⟩ : ∃ z, zs[k]? = some z := ⟨_, List.getElem?_eq_getElem (by omega)⟩
      obtain ⟨b, off, rfl, _, hcs⟩ := H.out.cells (by omega)
      have c0 := HW.out.cell (hcs k z hz) (by exact HA0.out ⟨b, off, none⟩ rfl (fun e => by rw [e] at hz; simp at hz))
      have HZ := Lib.hid (jonce_take hz)
      have HZT := Lib.hid (show zs.take (k + 1) = zs.take k ++ [z] by rw [List.take_add_one, hz]; rfl)
      have hC := Lib.hid (wrong_any z mb m (zs.take k) wr (HW.out.cell HC.out hne) HMK.out hne (HI.out z (List.mem_of_getElem? hz)) (by rw [List.length_take]; have := HNN.out; omega))
      have i0 : (0 : Int) ≤ (k : Int) := by omega
      have i1 : (k : Int) < (n : Int) := by omega
      clear hcs hz
      go_wp2_with fail
      refine hC.out.mono ?_
      rintro e w2 ⟨rfl, hsv, hmm⟩
      have HW2 := Lib.hid (HW.out.trans hsv)
      have HMM := Lib.hid hmm
      clear hsv hmm c0 hC
      by_cases hq : z ∉ zs.take k ∧ 1 ≤ z
      · have hd : (!decide (z ∉ zs.take k ∧ 1 ≤ z)) = false := by simp [hq]
        rw [hd]
        have HM2 := Lib.hid (show MetM w2 m (zs.take (k + 1)) by rw [HZT.out]; exact HMM.out hq.1)
        have HO2 := Lib.hid (HZ.out.2 ⟨HOK.out, hq⟩)
        clear hq hd
        go_wp2_with fail
        go_roundw
        case rel => exact ⟨k + 1, by omega, by go_num, HW2, HM2, HO2⟩
        case measure => simp [intOf]; omega
      · have hd : (!decide (z ∉ zs.take k ∧ 1 ≤ z)) = true := by simp only [hq, decide_false, Bool.not_false]
        rw [hd]
        have HN := Lib.hid (show ¬ Rp.Once zs from fun h => hq (HZ.out.1 (jonce_cut (k + 1) h)).2)
        clear hq hd
        go_wp2_with fail
        go_ret
        exact ⟨⟨k, rfl, ⟨fun h => by omega, fun h => absurd h HN.out⟩⟩, HW2.out⟩
    · obtain rfl : k = n := by omega
      have HO := Lib.hid (show Rp.Once zs by have := HOK.out; rw [List.take_of_length_le (by omega)] at this; exact this)
      go_wp2_with fail
      go_ret
      exact ⟨⟨-1, rfl, ⟨fun _ => HO.out, fun _ => by decide⟩⟩, HW.out⟩
theorem containsM_any (A : Option Addr) (n c : Nat) (zs : List Int) (mb m : Nat) (w : World) (h : Row w A n c zs) (hn : n ≤ 1000000) (hi : ∀ z ∈ zs, In64 z) (hc : w.cell? ⟨mb, 0, none⟩ = some (.map (some m))) (hM : MetM w m []) (hne : mb ≠ m) (hA : ∀ ad, A = some ad → zs ≠ [] → ad.block ≠ m) :
    Calls Tryd.prog 62 #[.slice A n c, .func (.func 61) #[] #[.pointer (some ⟨mb, 0, none⟩)]] w fun e w' =>
      e = .returned (.bool (!decide (Rp.Once zs))) ∧ Sv m w w' := by
  have HC := Lib.hid (indexM_any A n c zs mb m w h hn hi hc hM hne hA)
  clear h hn hi hc hM hA
  go_enter Tryd.func62, Tryd.ntmps62
  go_wp2_with fail
  refine HC.out.mono ?_
  rintro e w1 ⟨⟨k, rfl, hk⟩, hsv⟩
  have HS := Lib.hid hsv
  have HK := Lib.hid hk
  clear HC hsv hk
  by_cases h0 : k < 0
  · go_wp2_with fail
    go_ret
    exact ⟨ret_bool (by simp [HK.out.1 h0]; omega), HS.out⟩
  · have h1 : 0 ≤ k := by omega
    have hno : ¬ Rp.Once zs := fun h => h0 (HK.out.2 h)
    have HNO := Lib.hid hno
    clear hno
    go_wp2_with fail
    go_ret
    exact ⟨ret_bool (by simp [HNO.out]), HS.out⟩
set_option maxRecDepth 100000 in
theorem eachOnce_any (A : Option Addr) (n c : Nat) (zs : List Int) (w : World) (h : Row w A n c zs) (hn : n ≤ 1000000) (hi : ∀ z ∈ zs, In64 z) :
    Calls Tryd.prog 35 #[.slice A n c] w fun e w' => e = .returned (.bool (decide (Rp.Once zs))) ∧ Below w.heap.size w w' := by
  obtain ⟨V, hV⟩ : ∃ V, V = (w.alloc (.map #[] 0)).alloc (.cells #[.map (some w.heap.size)] 86) := ⟨_, rfl⟩
  have hb1 := below_new w (.map #[] 0)
  have hs1 : (w.alloc (.map #[] 0)).heap.size = w.heap.size + 1 := by simp
  have hb2 := below_new (w.alloc (.map #[] 0)) (.cells #[.map (some w.heap.size)] 86)
  have hbV : Below w.heap.size w V := by rw [hV]; exact hb1.trans (hb2.mono hb1.size)
  have hc : V.cell? ⟨w.heap.size + 1, 0, none⟩ = some (.map (some w.heap.size)) := by rw [hV, ← hs1, World.cell?_alloc_at _ _ _ _ rfl]; rfl
  have hM : MetM V w.heap.size [] := by rw [hV]; exact (MetM.made w).keep (hb2.block _ (by simp))
  have HC := Lib.hid (containsM_any A n c zs (w.heap.size + 1) w.heap.size V (h.below hbV) hn hi hc hM (by omega) (fun ad hA hne => by have := row_block h hne hA; omega))
  have HB := Lib.hid hbV
  have E := Lib.hid hV
  have HSZ := Lib.hid (show w.heap.size ≤ V.heap.size from hbV.size)
  clear h hn hi hc hM hbV hb2 hs1 hb1 hV
  have hmm := @run_makeMap Tryd.prog
  go_enter Tryd.func35, Tryd.ntmps35
  go_wp2_with (rw [← E.out])
  refine HC.out.mono ?_
  rintro e w1 ⟨rfl, hsv⟩
  have HS := Lib.hid (hsv.below HB.out (Nat.le_refl _) HSZ.out)
  clear HC hsv
  go_wp2_with fail
  go_ret
  exact ⟨ret_bool (by simp), HS.out⟩
end Go.Proofs.YtgloibgmaiadfaaDoor


/- The document's Next, Without and With, by their contracts. -/
namespace Go.Proofs.YtgloibgmaiadfaaDoor
open Go.RowKit
set_option linter.unusedVariables false

/-- A plain address, or none. -/
def Flat (A : Option Addr) : Prop := ∀ ad, A = some ad → ad.spot = none
/-- What a call leaves that tells a row. -/
def TellF (w0 : World) (zs : List Int) (e : Ending) (w' : World) : Prop :=
  ∃ A n c, e = .returned (.slice A n c) ∧ Row w' A n c zs ∧ Flat A ∧ Below w0.heap.size w0 w'
theorem Row.flat_own {w : World} {base n : Nat} {e : TypeId} {v : Value} {zs : List Int} (h : w.ownsRow base e 1 v n (zs.map (Value.int .i64))) : ∃ A c, v = .slice A n c ∧ Row w A n c zs ∧ Flat A := by
  obtain ⟨A, c, rfl, hr⟩ := Row.of_own h
  refine ⟨A, c, rfl, hr, fun ad e => ?_⟩
  subst e
  rcases h.2 with ⟨h0, _⟩ | ⟨g, cap, cur, e1, _⟩
  · cases h0
  · injection e1 with e1
    injection e1 with e1
    rw [e1]
theorem MadeO.tellF {w0 w' : World} {zs : List Int} {e : Ending} (h : MadeO w0 zs e w') : TellF w0 zs e w' := by
  obtain ⟨v, n, rfl, ho, hb⟩ := h
  obtain ⟨A, c, rfl, hr, hf⟩ := Row.flat_own ho
  exact ⟨A, n, c, rfl, hr, hf, hb⟩
theorem find_here {zs : List Int} {k : Nat} {x n : Int} (hx : zs[k]? = some x) (h0 : ∀ z ∈ zs.take k, z < n) (h : n ≤ x) : zs.find? (fun z => decide (n ≤ z)) = some x := by
  have hk := (List.getElem?_eq_some_iff.1 hx).1
  have e : zs = zs.take k ++ x :: zs.drop (k + 1) := by
    rw [← (List.getElem?_eq_some_iff.1 hx).2, List.getElem_cons_drop, List.take_append_drop]
  rw [e, List.find?_append, List.find?_eq_none.2 (fun z hz => by have := h0 z hz; simp; omega)]
  simp [h]
theorem find_none {zs : List Int} {n : Int} (h0 : ∀ z ∈ zs, z < n) : zs.find? (fun z => decide (n ≤ z)) = none :=
  List.find?_eq_none.2 (fun z hz => by have := h0 z hz; simp; omega)
theorem nextL_in {zs : List Int} {a n : Int} (ha : zs[0]? = some a) (h1 : 0 ≤ n) (h2 : n ≤ 63) : Zp.nextL zs n = (zs.find? fun z => decide (n ≤ z)).getD a := by
  cases zs with
  | nil => cases ha
  | cons b t =>
    injection ha with ha
    subst ha
    show (if n < 0 ∨ 63 < n then b else _) = _
    rw [if_neg (by omega)]
theorem nextL_out {zs : List Int} {a n : Int} (ha : zs[0]? = some a) (h : n < 0 ∨ 63 < n) : Zp.nextL zs n = a := by
  cases zs with
  | nil => cases ha
  | cons b t =>
    injection ha with ha
    subst ha
    show (if n < 0 ∨ 63 < n then b else _) = _
    rw [if_pos h]
theorem take_lt {zs : List Int} {k : Nat} {x n : Int} (hx : zs[k]? = some x) (h0 : ∀ z ∈ zs.take k, z < n) (h : x < n) : ∀ z ∈ zs.take (k + 1), z < n := by
  intro z hz
  rw [List.take_add_one, hx] at hz
  rcases List.mem_append.1 hz with hz | hz
  · exact h0 z hz
  · simp at hz; subst hz; exact h
theorem outL_hit {zs : List Int} {k : Nat} {n : Int} (hx : zs[k]? = some n) : Zp.outL (zs.take (k + 1)) n = Zp.outL (zs.take k) n := by
  rw [List.take_add_one, hx]; unfold Zp.outL; rw [List.filter_append]; simp
theorem outL_miss {zs : List Int} {k : Nat} {x n : Int} (hx : zs[k]? = some x) (h : x ≠ n) : Zp.outL (zs.take (k + 1)) n = Zp.outL (zs.take k) n ++ [x] := by
  rw [List.take_add_one, hx]; unfold Zp.outL; rw [List.filter_append]; simp [h]
theorem outL_le (zs : List Int) (k : Nat) (n : Int) : (Zp.outL (zs.take k) n).length ≤ k := by
  unfold Zp.outL
  have h1 := List.length_filter_le (fun x => x != n) (zs.take k)
  have h2 := List.length_take_le k zs
  omega
end Go.Proofs.YtgloibgmaiadfaaDoor


/- The document's With, by its contract. -/
namespace Go.Proofs.YtgloibgmaiadfaaDoor
open Go.RowKit
set_option linter.unusedVariables false

theorem takeWhile_step {zs : List Int} {k : Nat} {x n : Int} (hx : zs[k]? = some x) (h0 : zs.takeWhile (· < n) = zs.take k ++ (zs.drop k).takeWhile (· < n)) (h : x < n) :
    zs.takeWhile (· < n) = zs.take (k + 1) ++ (zs.drop (k + 1)).takeWhile (· < n) := by
  have hk := (List.getElem?_eq_some_iff.1 hx).1
  rw [h0, List.take_add_one, hx, List.drop_eq_getElem_cons hk, (List.getElem?_eq_some_iff.1 hx).2, List.takeWhile_cons_of_pos (by simpa using h)]
  simp
theorem takeWhile_stop {zs : List Int} {k : Nat} {x n : Int} (hx : zs[k]? = some x) (h0 : zs.takeWhile (· < n) = zs.take k ++ (zs.drop k).takeWhile (· < n)) (h : ¬ x < n) :
    zs.takeWhile (· < n) = zs.take k := by
  have hk := (List.getElem?_eq_some_iff.1 hx).1
  rw [h0, List.drop_eq_getElem_cons hk, (List.getElem?_eq_some_iff.1 hx).2, List.takeWhile_cons_of_neg (by simpa using h), List.append_nil]
theorem withL_at {zs : List Int} {k : Nat} {n : Int} (hk : k ≤ zs.length) (ht : zs.takeWhile (· < n) = zs.take k) (h0 : 0 ≤ n) (h1 : n ≤ 63) (h : n ∉ zs) : Zp.withL zs n = zs.take k ++ [n] ++ zs.drop k := by
  unfold Zp.withL
  rw [if_neg (by rintro (e | e | e); omega; omega; exact h e), ht, List.length_take, Nat.min_eq_left hk]
theorem has_of {zs : List Int} {n : Int} : Tp.has zs n = decide (n ∈ zs) := by
  unfold Tp.has; rw [Bool.eq_iff_iff, List.contains_iff_mem, decide_eq_true_eq]
theorem Row.flat {w : World} {A : Option Addr} {m c : Nat} {zs : List Int} (h : Row w A m c zs) (hf : Flat A) : (A = none ∧ m = 0 ∧ c = 0) ∨ ∃ b off, A = some ⟨b, off, none⟩ := by
  cases A with
  | none => have h0 := h.nil rfl; have h1 := h.cap; exact .inl ⟨rfl, by omega, h0⟩
  | some ad =>
    obtain ⟨b, off, sp⟩ := ad
    have := hf _ rfl
    simp only at this
    subst this
    exact .inr ⟨b, off, rfl⟩
theorem row_below_refl {w : World} {A : Option Addr} {m c : Nat} {zs : List Int} (h : Row w A m c zs) (hf : Flat A) : TellF w zs (.returned (.slice A m c)) w := ⟨A, m, c, rfl, h, hf, Below.refl _ _⟩
end Go.Proofs.YtgloibgmaiadfaaDoor


/- The library's table of the listed variable; a slice of numbers that came in; a start that meets the condition. -/
namespace Go.Proofs.YtgloibgmaiadfaaDoor
open Go.ChangeShapes Go.WideShapes Go.ChangeAt Go.RowKit
set_option linter.unusedVariables false

/-- The one listed variable. -/
def laidList : List (String × DataW Unit) := [("math/bits.deBruijn64tab", Rows.laid_math_bits_deBruijn64tab)]
theorem gTab : Tryd.prog.globalNamed "math/bits.deBruijn64tab" = some 0 := by kernel_rfl
theorem tTab : (Tryd.prog.globals[0]?).map (·.type) = some 103 := by kernel_rfl
theorem tab_of_laid {W : World} (h : laidMetH Tryd.prog laidList W) : Tab W := by
  rw [MakeChecks.laidMetH_plain _ _ _ (by kernel_rfl)] at h
  have h' : laidMet Tryd.prog [("math/bits.deBruijn64tab", Lib.tabData .u8 (Lib.deBruijn64tab.map fun k : Nat => (k : Int)))] W := h
  have ht := Lib.tabIs_of_head gTab tTab Tryd.underlying103 Tryd.underlying5 (by kernel_rfl) (by kernel_rfl) h'
  intro j hj
  have := ht.cell gTab j (by simpa [Lib.deBruijn64tab] using hj)
  rw [this]
  congr 2
  simp only [List.getD_eq_getElem?_getD, List.getElem?_map]
  cases Lib.deBruijn64tab[j]? <;> rfl
theorem door_met (os : Os) (args : Array Value) : laidMetH Tryd.prog laidList ((World.doorLaid Tryd.prog 14 os).forCall (fun _ _ => 0) ⟨#[], args, []⟩).memory :=
  laidMetH_of_parts3 (fuel := 8) (laidMet_of_run' 8 (by kernel_rfl) (by kernel_rfl)) (by kernel_rfl) (by kernel_rfl)
theorem of_wf64 {a : Int} (h : (Lit.int .u64 a).wf = true) : ∃ x : Nat, a = x ∧ x < 18446744073709551616 := by
  have : 0 ≤ a ∧ a ≤ 18446744073709551615 := by simpa [Lit.wf, IntKind.min, IntKind.max, IntKind.signed, IntKind.bits] using h
  exact ⟨a.toNat, by omega, by omega⟩
/-- A slice of numbers that came in. -/
theorem open_list {H : Type} {enc : TypeId × Value → H} {W : World} {base : Nat} {spare : Nat → Bool} {held : Bool} {v : Value} {x : DataW H × List MemPlace} {fuel : Nat}
    (h : DataW.trod enc Tryd.prog W base spare held fuel 41 [v] = some x) : ∃ A n c zs, v = .slice A n c ∧ Row W A n c zs := by
  rcases open_ints Tryd.underlying41 Tryd.underlying3 (by kernel_rfl) h with ⟨hcs, _⟩ | ⟨a, len, cap, zs, hcs, _, hl, hm, hz, _, hcell, hw⟩
  · simp at hcs
    subst hcs
    exact ⟨none, 0, 0, [], rfl, Row.nothing W⟩
  · simp only [List.cons.injEq, and_true] at hcs
    subst hcs
    have hzl : len ≤ zs.length := by rw [hz]; split <;> omega
    refine ⟨some a, len, cap, zs.take len, rfl, ⟨by rw [List.length_take]; omega, hl, by unfold maxLen at hm; omega, (fun e => by cases e), fun i z hi => ?_⟩⟩
    have hil : i < len := by have := (List.getElem?_eq_some_iff.1 hi).1; rw [List.length_take] at this; omega
    rw [List.getElem?_take, if_pos hil] at hi
    have hc := hcell i (by omega)
    rw [show zs.getD i 0 = z by rw [List.getD, hi]; rfl] at hc
    obtain ⟨ab, ao, sp⟩ := a
    have hs : sp = none := by
      have := World.cell?_spot (hcell 0 (by omega))
      simpa [Addr.add] using this
    subst hs
    rw [add_lit'] at hc
    exact ⟨ab, ao, rfl, World.block_lt_of_cell? _ _ hc, hc⟩
end Go.Proofs.YtgloibgmaiadfaaDoor


/- Runs that came in, opened: a tree, a number, rings, rows, a set. -/
namespace Go.Proofs.YtgloibgmaiadfaaDoor
open Go.ChangeShapes Go.WideShapes Go.ChangeAt Go.RowKit
set_option linter.unusedVariables false

theorem one_of_cells {W : World} {base : Nat} {a : Addr} {cs : List Value} (h : W.cells? base a 1 = some cs) : ∃ c, cs = [c] ∧ W.cell? a = some c := by
  unfold World.cells? at h
  split at h
  · have e0 : a.add 0 = a := by simp [Addr.add]
    simp only [List.range_succ, List.range_zero, List.nil_append, List.mapM_cons, List.mapM_nil, e0] at h
    cases hc : W.cell? a with
    | none => simp [hc] at h
    | some c => simp [hc] at h; exact ⟨c, h.symm, rfl⟩
  · cases h
theorem two_of_cells {W : World} {base : Nat} {a : Addr} {cs : List Value} (h : W.cells? base a 2 = some cs) : ∃ c d, cs = [c, d] ∧ W.cell? a = some c ∧ W.cell? (a.add 1) = some d := by
  unfold World.cells? at h
  split at h
  · have e0 : a.add 0 = a := by simp [Addr.add]
    simp only [List.range_succ, List.range_zero, List.nil_append, List.cons_append, List.mapM_cons, List.mapM_nil, e0] at h
    cases hc : W.cell? a with
    | none => simp [hc] at h
    | some c =>
      cases hd : W.cell? (a.add 1) with
      | none => simp [hc, hd] at h
      | some d => simp [hc, hd] at h; exact ⟨c, d, h.symm, rfl, rfl⟩
  · cases h
theorem row_block' {w : World} {A : Option Addr} {n c : Nat} {zs : List Int} (h : Row w A n c zs) (hne : zs ≠ []) {ad : Addr} (hA : A = some ad) : ad.block < w.heap.size := by
  have h4 : 0 < n := by rw [← h.len]; exact List.length_pos_iff.2 hne
  obtain ⟨b, off, e3, hb, _⟩ := h.cells h4
  rw [hA] at e3
  injection e3 with e3
  subst e3
  exact hb
instance : Inhabited El := ⟨⟨0, [], none, 0, 0⟩⟩
/-- A struct's cells, each read by itself. -/
theorem trod_two {H : Type} {enc : TypeId × Value → H} {P : Program} {W : World} {base : Nat} {spare : Nat → Bool} {held : Bool} {t : TypeId} {f0 f1 : Field} {c0 c1 : Value} {x : DataW H × List MemPlace} {fuel : Nat} (hs : P.underlying t = some (.struct #[f0, f1])) (hone : Go.Deep.oneCellFields P #[f0, f1] = true)
    (h : DataW.trod enc P W base spare held fuel t [c0, c1] = some x) : ∃ y0 y1 n, DataW.trod enc P W base spare held n f0.type [c0] = some y0 ∧ DataW.trod enc P W base spare held n f1.type [c1] = some y1 := by
  obtain ⟨xs, n, _, rfl, _, hlen, hf⟩ := DataW.trod_struct hs h
  obtain ⟨o0, k0⟩ := Go.Deep.hone_of hone 0 f0 rfl
  obtain ⟨o1, k1⟩ := Go.Deep.hone_of hone 1 f1 rfl
  match xs, hlen with
  | [y0, y1], _ => exact ⟨y0, y1, n, by simpa [o0, k0] using hf 0 f0 rfl, by simpa [o1, k1] using hf 1 f1 rfl⟩
theorem trod_five {H : Type} {enc : TypeId × Value → H} {P : Program} {W : World} {base : Nat} {spare : Nat → Bool} {held : Bool} {t : TypeId} {f0 f1 f2 f3 f4 : Field} {c0 c1 c2 c3 c4 : Value} {x : DataW H × List MemPlace} {fuel : Nat} (hs : P.underlying t = some (.struct #[f0, f1, f2, f3, f4])) (hone : Go.Deep.oneCellFields P #[f0, f1, f2, f3, f4] = true)
    (h : DataW.trod enc P W base spare held fuel t [c0, c1, c2, c3, c4] = some x) : ∃ y0 y1 y2 y3 y4 n, DataW.trod enc P W base spare held n f0.type [c0] = some y0 ∧ DataW.trod enc P W base spare held n f1.type [c1] = some y1 ∧ DataW.trod enc P W base spare held n f2.type [c2] = some y2 ∧ DataW.trod enc P W base spare held n f3.type [c3] = some y3 ∧ DataW.trod enc P W base spare held n f4.type [c4] = some y4 := by
  obtain ⟨xs, n, _, rfl, _, hlen, hf⟩ := DataW.trod_struct hs h
  obtain ⟨o0, k0⟩ := Go.Deep.hone_of hone 0 f0 rfl
  obtain ⟨o1, k1⟩ := Go.Deep.hone_of hone 1 f1 rfl
  obtain ⟨o2, k2⟩ := Go.Deep.hone_of hone 2 f2 rfl
  obtain ⟨o3, k3⟩ := Go.Deep.hone_of hone 3 f3 rfl
  obtain ⟨o4, k4⟩ := Go.Deep.hone_of hone 4 f4 rfl
  match xs, hlen with
  | [y0, y1, y2, y3, y4], _ => exact ⟨y0, y1, y2, y3, y4, n, by simpa [o0, k0] using hf 0 f0 rfl, by simpa [o1, k1] using hf 1 f1 rfl, by simpa [o2, k2] using hf 2 f2 rfl, by simpa [o3, k3] using hf 3 f3 rfl, by simpa [o4, k4] using hf 4 f4 rfl⟩
theorem array5 {α : Type} {cs : Array α} (h : cs.size = 5) : ∃ c0 c1 c2 c3 c4, cs = #[c0, c1, c2, c3, c4] := by
  obtain ⟨l⟩ := cs
  match l, h with
  | [c0, c1, c2, c3, c4], _ => exact ⟨c0, c1, c2, c3, c4, rfl⟩
/-- A ring's two cells. -/
theorem open_ring2 {H : Type} {enc : TypeId × Value → H} {W : World} {base : Nat} {spare : Nat → Bool} {held : Bool} {c d : Value} {x : DataW H × List MemPlace} {fuel : Nat}
    (h : DataW.trod enc Tryd.prog W base spare held fuel 65 [c, d] = some x) : ∃ z A n k zs, c = .int .i64 z ∧ d = .slice A n k ∧ Row W A n k zs ∧ ∀ x ∈ Rp.all (z, zs), In64 x := by
  obtain ⟨y0, y1, m, h0, h1⟩ := trod_two Tryd.underlying65 (by kernel_rfl) h
  obtain ⟨z, e0, _, wz⟩ := DataW.trod_int Tryd.underlying3 h0
  obtain ⟨A, n, k, zs, e1, hr, wr⟩ := open_row h1
  injection e0 with e0 _
  refine ⟨z, A, n, k, zs, e0, e1, hr, fun x hx => ?_⟩
  unfold Rp.all at hx
  split at hx
  · exact wr x hx
  · rcases List.mem_cons.1 hx with rfl | hx
    · exact in64_of_wf wz
    · exact wr x hx
theorem open_rings {H : Type} {enc : TypeId × Value → H} {W : World} {base : Nat} {spare : Nat → Bool} {held : Bool} {v : Value} {x : DataW H × List MemPlace} {fuel : Nat}
    (h : DataW.trod enc Tryd.prog W base spare held fuel 33 [v] = some x) : ∃ A n c es, v = .slice A n c ∧ XR csG 2 W A n c es ∧ LieE (fun b => b < W.heap.size) A es ∧ ∀ e ∈ es, ∀ x ∈ Rp.all (elG e), In64 x := by
  have hc1 : Tryd.prog.cellsOf 65 = 2 := by kernel_rfl
  rcases DataW.trod_slice Tryd.underlying33 h with ⟨hcs, _⟩ | ⟨a, len, cap, elems, rest, m, _, hcs, _, _, hl, hm, hel, hE, _⟩
  · injection hcs with hcs _
    exact ⟨none, 0, 0, [], hcs, XR.nothing W, ⟨fun h => absurd rfl h, fun e he => by simp at he⟩, fun e he => by simp at he⟩
  · injection hcs with hcs _
    have each : ∀ i, i < len → ∃ e : El, W.cell? (a.add (i * 2)) = some (.int .i64 e.x) ∧ W.cell? ((a.add (i * 2)).add 1) = some (.slice e.A e.n e.c) ∧ Row W e.A e.n e.c e.l ∧ ∀ x ∈ Rp.all (elG e), In64 x := by
      intro i hi
      have he := hE i hi
      rw [hc1] at he
      obtain ⟨y, hy⟩ : ∃ y, elems[i]? = some y := ⟨_, List.getElem?_eq_getElem (by omega)⟩
      rw [hy] at he
      obtain ⟨cs, h1, h2⟩ := Option.bind_eq_some_iff.1 he
      obtain ⟨c, d, rfl, h3, h4⟩ := two_of_cells h1
      obtain ⟨z, A, n, k, zs, rfl, rfl, hr, wx⟩ := open_ring2 h2
      exact ⟨⟨z, zs, A, n, k⟩, h3, h4, hr, wx⟩
    obtain ⟨f, hf⟩ := Go.Deep.choose_lt each
    refine ⟨some a, len, cap, (List.range len).map f, hcs, ⟨by simp, hl, by unfold maxLen at hm; omega, (fun e => by cases e), fun i e hi => ?_, fun e he => ?_⟩, ⟨fun hne ad hA => ?_, fun e he hne ad hA => ?_⟩, fun e he => ?_⟩
    · have hil : i < len := by have := (List.getElem?_eq_some_iff.1 hi).1; simpa using this
      have e1 : f i = e := by
        rw [List.getElem?_map, List.getElem?_range hil] at hi
        injection hi
      obtain ⟨h0, h1, _⟩ := hf i hil
      rw [e1] at h0 h1
      obtain ⟨ab, ao, sp⟩ := a
      have hs : sp = none := by
        have := World.cell?_spot (hf 0 (by omega)).1
        simpa [Addr.add] using this
      subst hs
      rw [add_lit', add_lit'] at h1
      rw [add_lit'] at h0
      refine ⟨ab, ao, rfl, World.block_lt_of_cell? (a := ⟨ab, ao + i * 2, none⟩) _ h0, fun j u hj => ?_⟩
      match j, hj with
      | 0, hj => simp [csG] at hj; subst hj; exact h0
      | 1, hj => simp [csG] at hj; subst hj; exact h1
    · obtain ⟨i, hir, rfl⟩ := List.mem_map.1 he
      exact (hf i (List.mem_range.1 hir)).2.2.1
    · injection hA with hA
      subst hA
      have hl0 : 0 < len := by
        rcases Nat.eq_zero_or_pos len with h0 | h0
        · subst h0; simp at hne
        · exact h0
      have := World.block_lt_of_cell? _ _ (hf 0 hl0).1
      simpa [Addr.add] using this
    · obtain ⟨i, hir, rfl⟩ := List.mem_map.1 he
      exact row_block' (hf i (List.mem_range.1 hir)).2.2.1 hne hA
    · obtain ⟨i, hir, rfl⟩ := List.mem_map.1 he
      exact (hf i (List.mem_range.1 hir)).2.2.2
theorem open_lists {H : Type} {enc : TypeId × Value → H} {W : World} {base : Nat} {spare : Nat → Bool} {held : Bool} {v : Value} {x : DataW H × List MemPlace} {fuel : Nat}
    (h : DataW.trod enc Tryd.prog W base spare held fuel 25 [v] = some x) : ∃ A n c es, v = .slice A n c ∧ XR csL 1 W A n c es ∧ LieE (fun b => b < W.heap.size) A es ∧ ∀ e ∈ es, ∀ x ∈ elL e, In64 x := by
  have hc1 : Tryd.prog.cellsOf 41 = 1 := by kernel_rfl
  rcases DataW.trod_slice Tryd.underlying25 h with ⟨hcs, _⟩ | ⟨a, len, cap, elems, rest, m, _, hcs, _, _, hl, hm, hel, hE, _⟩
  · injection hcs with hcs _
    exact ⟨none, 0, 0, [], hcs, XR.nothing W, ⟨fun h => absurd rfl h, fun e he => by simp at he⟩, fun e he => by simp at he⟩
  · injection hcs with hcs _
    have each : ∀ i, i < len → ∃ e : El, W.cell? (a.add i) = some (.slice e.A e.n e.c) ∧ Row W e.A e.n e.c e.l ∧ ∀ x ∈ elL e, In64 x := by
      intro i hi
      have he := hE i hi
      rw [hc1, Nat.mul_one] at he
      obtain ⟨y, hy⟩ : ∃ y, elems[i]? = some y := ⟨_, List.getElem?_eq_getElem (by omega)⟩
      rw [hy] at he
      obtain ⟨cs, h1, h2⟩ := Option.bind_eq_some_iff.1 he
      obtain ⟨c, rfl, h3⟩ := one_of_cells h1
      obtain ⟨A, n, k, zs, rfl, hr, wx⟩ := open_row h2
      exact ⟨⟨0, zs, A, n, k⟩, h3, hr, wx⟩
    obtain ⟨f, hf⟩ := Go.Deep.choose_lt each
    refine ⟨some a, len, cap, (List.range len).map f, hcs, ⟨by simp, hl, by unfold maxLen at hm; omega, (fun e => by cases e), fun i e hi => ?_, fun e he => ?_⟩, ⟨fun hne ad hA => ?_, fun e he hne ad hA => ?_⟩, fun e he => ?_⟩
    · have hil : i < len := by have := (List.getElem?_eq_some_iff.1 hi).1; simpa using this
      have e1 : f i = e := by
        rw [List.getElem?_map, List.getElem?_range hil] at hi
        injection hi
      obtain ⟨h0, _⟩ := hf i hil
      rw [e1] at h0
      obtain ⟨ab, ao, sp⟩ := a
      have hs : sp = none := by
        have := World.cell?_spot (hf 0 (by omega)).1
        simpa [Addr.add] using this
      subst hs
      rw [add_lit'] at h0
      refine ⟨ab, ao, rfl, World.block_lt_of_cell? (a := ⟨ab, ao + i, none⟩) _ h0, fun j u hj => ?_⟩
      match j, hj with
      | 0, hj => simp [csL] at hj; subst hj; rw [Nat.mul_one]; exact h0
    · obtain ⟨i, hir, rfl⟩ := List.mem_map.1 he
      exact (hf i (List.mem_range.1 hir)).2.1
    · injection hA with hA
      subst hA
      have hl0 : 0 < len := by
        rcases Nat.eq_zero_or_pos len with h0 | h0
        · subst h0; simp at hne
        · exact h0
      have := World.block_lt_of_cell? _ _ (hf 0 hl0).1
      simpa [Addr.add] using this
    · obtain ⟨i, hir, rfl⟩ := List.mem_map.1 he
      exact row_block' (hf i (List.mem_range.1 hir)).2.1 hne hA
    · obtain ⟨i, hir, rfl⟩ := List.mem_map.1 he
      exact (hf i (List.mem_range.1 hir)).2.2
set_option maxRecDepth 100000 in
/-- Runs that came in. -/
theorem open_runs {H : Type} {enc : TypeId × Value → H} {W : World} {base b0 : Nat} {spare : Nat → Bool} {held : Bool} {v : Value} {d : DataW H} {p : List MemPlace}
    (hv : Value.okWide Tryd.prog W .any b0 35 v) (h : DataW.Trod enc Tryd.prog W base spare held 35 v d p) :
    ∃ (a : Ad) (r : Jp.Rn), v = jv a r ∧ RMI (fun b => b < W.heap.size) W a r := by
  obtain ⟨cs, rfl, hsz⟩ := okWide_struct Tryd.underlying35 hv
  obtain ⟨c0, c1, c2, c3, c4, rfl⟩ := array5 (hsz.trans (by kernel_rfl : Tryd.prog.cellsOf 35 = 5))
  obtain ⟨fuel, hf⟩ := h
  simp only [Value.cells] at hf
  obtain ⟨y0, y1, y2, y3, y4, m, h0, h1, h2, h3, h4⟩ := trod_five Tryd.underlying35 (by kernel_rfl) hf
  obtain ⟨T, nt, ct, e0⟩ := Go.Joins.slice_form Tryd.underlying22 h0
  injection e0 with e0 _
  subst e0
  obtain ⟨ht1, ht2, vs, ht3, ht4, ht5⟩ := open_vs h0
  obtain ⟨z, e1, _, w1⟩ := DataW.trod_int Tryd.underlying3 h1
  injection e1 with e1 _
  subst e1
  obtain ⟨R, nr, cr, gs, rfl, hgs, hgl, wg⟩ := open_rings h2
  obtain ⟨S, ns, cs, ls, rfl, hls, hll, wl⟩ := open_lists h3
  obtain ⟨o, e4, _, w4⟩ := DataW.trod_int Tryd.underlying26 h4
  injection e4 with e4 _
  subst e4
  obtain ⟨on, rfl, hon⟩ := of_wf64 w4
  refine ⟨⟨T, nt, ct, R, nr, cr, S, ns, cs⟩, ⟨vs, z, gs.map elG, ls.map elL, on⟩, rfl, ⟨ht3, ht1, ht4, ht5, fun hne ad hA => ?_, ⟨gs, hgs, rfl, hgl⟩, ⟨ls, hls, rfl, hll⟩, hon, in64_of_wf w1⟩, fun z hz => ?_⟩
  · obtain ⟨x0, hx0⟩ : ∃ x, vs[0]? = some x := ⟨_, List.getElem?_eq_getElem (List.length_pos_iff.2 hne)⟩
    obtain ⟨b, off, e5, hb, _⟩ := ht5 0 x0 hx0
    simp only at hA
    rw [hA] at e5
    injection e5 with e5
    subst e5
    exact hb
  · rcases Jp.mem_all.1 hz with ⟨y, hy, hz⟩ | ⟨l, hl, hz⟩
    · obtain ⟨e, he, rfl⟩ := List.mem_map.1 hy
      exact wg e he z hz
    · obtain ⟨e, he, rfl⟩ := List.mem_map.1 hl
      exact wl e he z hz
end Go.Proofs.YtgloibgmaiadfaaDoor

