/- place.Wake, by its contract. -/
import Derived.Test.YtmmgackmiemkhaaDoorM6
import Derived.Test.YtmmgackmiemkhaaDoorJMayL
import Derived.Test.YtmmgackmiemkhaaDoorM7
import Derived.Test.YtmmgackmiemkhaaDoorM0
import Derived.Deep.LoopGhost
namespace Go.Proofs.YtmmgackmiemkhaaDoor
open Go.RowKit
set_option linter.unusedVariables false

/-- An append of a made list of numbers, whatever room it has. -/
theorem run_append_made (w : World) (ty : TypeId) (base : Nat) (v : Value) (n : Nat) (xs : List Int) (hown : w.ownsRow base 3 1 v n (xs.map (Value.int .i64)))
    (A : Option Addr) (c : Nat) (zs : List Int) (h : IRow w w.heap.size A zs) (h1 : zs.length ≤ c) (h2 : c ≤ 9223372036854775807) (hb : n + zs.length ≤ 1000000) (hbase : base ≤ w.heap.size) :
    ∃ v' w', (Builtin.append_ #[47, 47] ty #[v, .slice A zs.length c]).run Tryd.prog w = .ok v' w' ∧ w'.ownsRow base 3 1 v' (n + zs.length) ((xs ++ zs).map (Value.int .i64)) ∧ w.grownBy w' v.ownBlock := by
  cases A with
  | some ad => exact run_append_row w ty base v n xs hown (some ad) zs.length c zs ⟨rfl, h1, h2, fun e => (by cases e), h⟩ hb hbase
  | none =>
    obtain ⟨i0, hi, hz0, hz1, hz2⟩ := info_parts info_int
    obtain rfl : zs = [] := by
      cases zs with
      | nil => rfl
      | cons y ys => obtain ⟨_, _, e, _⟩ := h 0 y rfl; cases e
    refine ⟨v, w, ?_, by rw [List.append_nil]; exact hown, World.grownBy.refl w _⟩
    rcases hown.2 with ⟨rfl, rfl⟩ | ⟨g, cap, cur, rfl, _, _, hnc, _⟩
    · simp [Builtin.append_, run_underlying Tryd.underlying47, sizeOf, typeInfo, hi, Builtin.lenOf, Builtin.firstCells]
    · simp [Builtin.append_, run_underlying Tryd.underlying47, sizeOf, typeInfo, hi, Builtin.lenOf, Builtin.firstCells, hnc, storeCells]
theorem wpList_append_made {w : World} {ops : Array Oper} {rest : List Oper} {o : Oper} {a : Act} {Q : Exit → Act → World → Prop} (hgd : o.guard = none) (s x : Operand)
    (ho : o.op = .call { callee := .builtin .append, args := #[s, x], argTypes := #[47, 47] })
    (base : Nat) (v : Value) (n : Nat) (xs : List Int) (hs : a.eval s = v) (hown : w.ownsRow base 3 1 v n (xs.map (Value.int .i64)))
    (A : Option Addr) (c : Nat) (zs : List Int) (hx : a.eval x = .slice A zs.length c) (h : IRow w w.heap.size A zs) (h1 : zs.length ≤ c) (h2 : c ≤ 9223372036854775807) (hb : n + zs.length ≤ 1000000) (hbase : base ≤ w.heap.size)
    (hK : ∀ v' w', w'.ownsRow base 3 1 v' (n + zs.length) ((xs ++ zs).map (Value.int .i64)) → w.grownBy w' v.ownBlock → wpList Tryd.prog ops Q rest (a.put o.dst v') w') : wpList Tryd.prog ops Q (o :: rest) a w := by
  obtain ⟨v', w', hr, h3, h4⟩ := run_append_made w o.type base v n xs hown A c zs h h1 h2 hb hbase
  refine wpList_plain hgd fun K hK' => ?_
  unfold Oper.wp
  simp [execOp, ho, resolve, invoke, builtin, hs, hx, hr, Result.andThen]
  exact hK' _ _ (hK v' w' h3 h4)
/-- A list of two sets that is written out. -/
theorem two_at (w : World) (a b : Nat) (T : TypeId) (k : Nat) (hk : k < 2) : (w.alloc (.cells #[.int .u64 (a : Nat), .int .u64 (b : Nat)] T)).cell? ⟨w.heap.size, k, none⟩ = some (.int .u64 (Jp.two a b k : Nat)) := by
  match k, hk with
  | 0, _ => rw [World.cell?_alloc_at _ _ _ _ rfl]; rfl
  | 1, _ => rw [World.cell?_alloc_at _ _ _ _ rfl]; rfl
set_option maxRecDepth 100000 in
set_option maxHeartbeats 2000000 in
theorem placeWake_any {F : Nat → Prop} (d : Ad) (r : Jp.Rn) (idle : Nat) (p : Int) (w : World) (h : RM F w d r) (hlow : Low r) (hi : idle < 18446744073709551616) (hp : In64 p) (hT : Tab w) :
    Calls Tryd.prog 9 #[jv d r, .int .u64 (idle : Nat), .int .i64 p] w fun e w' => e = .returned (.int .i64 (Jp.wake r idle p)) ∧ Below w.heap.size w w' := by
  obtain ⟨A0, nt, ct, R, nr, cr, S, ns, cs⟩ := d
  have H := Lib.hid h
  have HL := Lib.hid hlow
  have HI := Lib.hid hi
  have HTL := Lib.hid h.tlen
  simp only at HTL
  obtain ⟨V, hV, hX, hB⟩ := B5.start w (.slice A0 nt ct) (.int .i64 r.size) (.slice R nr cr) (.slice S ns cs) (.int .u64 (r.on : Nat)) 33
  have E := Lib.hid hV
  have X0 := Lib.hid hX
  have B0 := Lib.hid hB
  obtain ⟨Tb, hTb⟩ : ∃ Tb : Bool, (Tb = true ↔ Jp.May r) := by
    by_cases h : Jp.May r
    · exact ⟨true, by simp [h]⟩
    · exact ⟨false, by simp [h]⟩
  have HTB := Lib.hid hTb
  have hMY := runsMay_any ⟨A0, nt, ct, R, nr, cr, S, ns, cs⟩ r Tb V HTB (H.out.below B0.out) HL.out (hT.step B0.out)
  unfold jv at hMY
  simp only at hMY
  have MY := Lib.hid hMY
  have q0 := hX.c0
  have q1 := hX.c1
  have q2 := hX.c2
  have q3 := hX.c3
  have q4 := hX.c4
  clear hV hX hB hMY hTb h hlow hT hp hi
  unfold jv
  go_enter Tryd.func9, Tryd.ntmps9
  go_wp2_with (rw [← E.out])
  clear E
  apply wp_scope_straight
  go_wp2_with fail
  refine MY.out.mono ?_
  rintro e w1 ⟨rfl, hb1⟩
  have X1 := Lib.hid (X0.out.step hb1)
  have B1 := Lib.hid (held_trans B0.out hb1)
  clear q0 q1 q2 q3 q4 MY X0 B0 hb1
  cases Tb
  · have HW := Lib.hid (show Jp.wake r idle p = -1 from Jp.wake_no (fun h => by have := HTB.out.2 h.1; cases this))
    go_wp2_with fail
    first | go_ret | (rw [Exit.noGoto_ret]; go_ret)
    exact ⟨by rw [HW.out]; rfl, B1.out⟩
  have HMAY := Lib.hid (HTB.out.1 rfl)
  have HN64 := Lib.hid (show (Dp.near r.tree p).length ≤ 192 by have := Jp.near_few (p := p) HMAY.out; have := HL.out.rings; omega)
  clear HTB
  go_wp2_with fail
  apply wp_label
  have t0 := X1.out.c0
  have hbl := below_new w1 (.cells #[.int .i64 p] 3)
  have hol := own_lit w1 [p] w1.heap.size (Nat.le_refl _) (by simp)
  rw [show (.cells ([p].map (Value.int .i64)).toArray 3 : Obj) = .cells #[.int .i64 p] 3 from rfl] at hol
  obtain ⟨x2, hx2⟩ : ∃ y, y = w1.alloc (.cells #[.int .i64 p] 3) := ⟨_, rfl⟩
  have t2 := keepcell hbl t0
  rw [← hx2] at hol hbl t2
  have OL := Lib.hid hol
  have HBL := Lib.hid hbl
  have EL := Lib.hid hx2
  have t3 : (w1.alloc (.cells #[.int .i64 p] 3)).cell? ⟨w.heap.size, 0, none⟩ = some (.slice A0 nt ct) := by rw [← hx2]; exact t2
  clear hx2 hol hbl t0 t2
  go_wp2_with fail
  rw [← EL.out]
  clear EL t3
  refine (near_cap A0 nt ct r.tree p x2 HTL H.out.tmax (Lib.hid H.out.fit) (H.out.below (held_trans B1.out HBL.out)).tree).mono ?_
  rintro e x3 ⟨An, cn, rfl, hin, hbn, hc1, hc2⟩
  have HB3 := Lib.hid (HBL.out.trans (hbn.mono HBL.out.size))
  have O3 := Lib.hid (own_below OL.out hbn)
  have IN := Lib.hid hin
  have HL3 := Lib.hid (show w1.heap.size ≤ x3.heap.size from HB3.out.size)
  obtain ⟨m, hm⟩ : ∃ m, m = (Dp.near r.tree p).length := ⟨_, rfl⟩
  have HM := Lib.hid hm
  have HC1 := Lib.hid hc1
  have HC2 := Lib.hid hc2
  rw [← hm]
  clear hin hbn hc1 hc2 OL HBL hm
  go_wp2_with (at_builtin; refine wpList_append_made rfl (.tmp 15) (.tmp 19) rfl w1.heap.size (.slice (some ⟨w1.heap.size, 0, none⟩) 1 1) 1 [p] rfl ?c1 An cn (Dp.near r.tree p) (by rw [← HM.out]; rfl) IN.out HC1.out HC2.out (by have := HN64.out; omega) HL3.out ?_)
  case c1 => exact O3.out
  intro v4 x4 ho4 hg4
  have hb4 := HB3.out.grown hg4 HB3.out.size (fun k hk => by simp [Value.ownBlock] at hk; omega)
  obtain ⟨A4, c4, rfl, hr4⟩ := Row.of_own (show x4.ownsRow w1.heap.size 3 1 v4 (1 + (Dp.near r.tree p).length) (([p] ++ Dp.near r.tree p).map (Value.int .i64)) from ho4)
  obtain ⟨N, hN⟩ : ∃ N, N = 1 + (Dp.near r.tree p).length := ⟨_, rfl⟩
  rw [← hN] at hr4 ⊢
  have hN2 : N ≤ 1000 := by have := HN64.out; omega
  have RW := Lib.hid hr4
  have X5 := Lib.hid (X1.out.step hb4)
  have B5' := Lib.hid (held_trans B1.out hb4)
  clear hb4 ho4 hg4 hr4 hN X1 B1 O3 IN HL3 HM HC1 HC2 HB3
  go_wp2_with fail
  go_loopg [22] N (fun g i wr => ∃ j : Nat, j + g = N ∧ i = .int .i64 j ∧ Hid (∀ (i : Nat) y, i < j → ([p] ++ Dp.near r.tree p)[i]? = some y → Jp.both r idle y = false) ∧ Hid (Below x4.heap.size x4 wr))
  case atStart => exact ⟨0, by omega, rfl, Lib.hid (fun i y h => by omega), Lib.hid (Below.refl _ _)⟩
  case round =>
    obtain ⟨j, hj, rfl, HN, HW⟩ := hrel
    cases gk with
    | zero =>
      have i1 : ¬ (j : Int) < (N : Int) := by omega
      have HWK := Lib.hid (show Jp.wake r idle p = -1 by
        rw [Jp.wake_row HMAY.out, show p :: Dp.near r.tree p = [p] ++ Dp.near r.tree p from rfl, Jp.find_no (fun i y hy => HN.out i y (by have h1 := (List.getElem?_eq_some_iff.1 hy).1; have h2 := RW.out.len; omega) hy)]
        rfl)
      have BE := Lib.hid (held_trans B5'.out HW.out)
      clear hj
      go_wp2_with fail
      first | go_ret | (rw [Exit.noGoto_ret]; go_ret)
      exact ⟨by rw [HWK.out]; rfl, BE.out⟩
    | succ g =>
      have hlt : j < N := by omega
      obtain ⟨q, hq⟩ : ∃ q, ([p] ++ Dp.near r.tree p)[j]? = some q := ⟨_, List.getElem?_eq_getElem (by have := RW.out.len; omega)⟩
      obtain ⟨b, off, eA, _, hqc⟩ := (RW.out.below HW.out).row j q hq
      subst eA
      have HQ := Lib.hid hq
      have HJ := Lib.hid hj
      have i0 : (0 : Int) ≤ (j : Int) := by omega
      have i1 : (j : Int) < (N : Int) := by omega
      have NX := Lib.hid (show Jp.both r idle q = false → ∀ (i : Nat) y, i < j + 1 → ([p] ++ Dp.near r.tree p)[i]? = some y → Jp.both r idle y = false from fun hb i y hi hy => by
        by_cases e : i = j
        · subst e; rw [HQ.out] at hy; injection hy with hy; rw [← hy]; exact hb
        · exact HN.out i y (by omega) hy)
      have q4 := (X5.out.step HW.out).c4
      clear hq hj
      go_wp2_with fail
      obtain ⟨M, hM⟩ : ∃ M, M = wr.heap.size := ⟨_, rfl⟩
      have h2 := fun k (hk : k < 2) => two_at wr idle r.on 31 k hk
      have hb6 := below_new wr (.cells #[.int .u64 (idle : Nat), .int .u64 (r.on : Nat)] 31)
      rw [← hM] at h2 ⊢
      obtain ⟨x6, hx6⟩ : ∃ y, y = wr.alloc (.cells #[.int .u64 (idle : Nat), .int .u64 (r.on : Nat)] 31) := ⟨_, rfl⟩
      rw [← hx6] at h2 hb6 ⊢
      have TW := Lib.hid h2
      have HB6 := Lib.hid (HW.out.trans (hb6.mono HW.out.size))
      clear hx6 hM h2 hb6 q4 hqc
      go_loopg [31] 2 (fun g2 i wx => ∃ k : Nat, k + g2 = 2 ∧ i = .int .i64 k ∧ Hid (∀ c, c < k → Zp.has (Jp.two idle r.on c) q = true) ∧ Hid (Below x6.heap.size x6 wx))
      case atStart => exact ⟨0, rfl, rfl, Lib.hid (fun c h => by omega), Lib.hid (Below.refl _ _)⟩
      case round =>
        obtain ⟨k, hk, rfl, KN, KW⟩ := hrel
        cases gk with
        | zero =>
          obtain rfl : k = 2 := hk
          have HWK := Lib.hid (show Jp.wake r idle p = q by rw [Jp.wake_row HMAY.out, show p :: Dp.near r.tree p = [p] ++ Dp.near r.tree p from rfl, Jp.find_at HQ.out (Jp.two_both KN.out) HN.out]; rfl)
          have BE := Lib.hid (held_trans B5'.out (HB6.out.trans (KW.out.mono HB6.out.size)))
          go_wp2_with fail
          first | go_ret | (rw [Exit.noGoto_ret]; go_ret)
          exact ⟨by rw [HWK.out]; rfl, BE.out⟩
        | succ g2 =>
          have hk2 : k < 2 := by omega
          have hc := keepcell KW.out (TW.out k hk2)
          obtain ⟨s, hs⟩ : ∃ s, s = Jp.two idle r.on k := ⟨_, rfl⟩
          rw [← hs] at hc
          have hs64 : s < 18446744073709551616 := by
            rw [hs]; unfold Jp.two
            by_cases e : k = 0
            · rw [if_pos e]; exact HI.out
            · rw [if_neg e]; exact H.out.on
          have HA := Lib.hid (fun W => has_any s q W hs64)
          obtain ⟨hb, hhb⟩ : ∃ hb, hb = Zp.has s q := ⟨_, rfl⟩
          rw [← hhb] at HA
          have KX := Lib.hid (show hb = true → ∀ c, c < k + 1 → Zp.has (Jp.two idle r.on c) q = true from fun e c hc => by
            by_cases e2 : c = k
            · rw [e2, ← hs, ← hhb, e]
            · exact KN.out c (by omega))
          have KF := Lib.hid (show hb = false → Jp.both r idle q = false from fun e => Jp.two_not hk2 (by rw [← hs, ← hhb, e]))
          have HK := Lib.hid hk
          have k0 : (0 : Int) ≤ (k : Int) := by omega
          have k1 : (k : Int) < 2 := by omega
          clear hk hs hs64 hhb
          go_wp2_with fail
          refine (HA.out _).mono ?_
          rintro e x7 ⟨rfl, hb7⟩
          have KW7 := Lib.hid (KW.out.trans (hb7.mono KW.out.size))
          clear hb7 hc HA
          cases hb
          · have HN2 := Lib.hid (NX.out (KF.out rfl))
            have HW7 := Lib.hid (HB6.out.trans (KW7.out.mono HB6.out.size))
            have HJ2 := HJ.out
            go_wp2_with fail
            go_roundg g
            case measure => omega
            case rel => exact ⟨j + 1, by omega, by go_num, HN2, HW7⟩
          · have KN2 := Lib.hid (KX.out rfl)
            have HK2 := HK.out
            go_wp2_with fail
            go_roundg g2
            case measure => omega
            case rel => exact ⟨k + 1, by omega, by go_num, KN2, KW7⟩
end Go.Proofs.YtmmgackmiemkhaaDoor

