/- runs.Where and what it calls (slices.IndexFunc at its closures), by their contracts. -/
import Derived.Test.YtcoccegmkcdeiaaDoorM6
import Derived.Test.YtcoccegmkcdeiaaDoorJRefMay
namespace Go.Proofs.YtcoccegmkcdeiaaDoor
open Go.RowKit
set_option linter.unusedVariables false

set_option maxHeartbeats 1000000 in
theorem whereR_any (x : Int) (A : Option Addr) (n c : Nat) (zs : List Int) (g : Int) (gb : Nat) (w : World) (h : Row w A n c zs) (hn : n ≤ 400) (hg : w.cell? ⟨gb, 0, none⟩ = some (.int .i64 g)) :
    Calls Tryd.prog 44 #[.agg #[.int .i64 x, .slice A n c], .pointer (some ⟨gb, 0, none⟩)] w fun e w' => e = .returned (.bool (Tp.has (Rp.all (x, zs)) g)) ∧ Below w.heap.size w w' := by
  obtain ⟨V, hV⟩ : ∃ V, V = w.alloc (.cells #[.int .i64 x, .slice A n c] 45) := ⟨_, rfl⟩
  have hb : Below w.heap.size w V := by rw [hV]; exact below_new _ _
  have c0 : V.cell? ⟨w.heap.size, 0, none⟩ = some (.int .i64 x) := by rw [hV, World.cell?_alloc_at _ _ _ _ rfl]; rfl
  have c1 : V.cell? ⟨w.heap.size, 1, none⟩ = some (.slice A n c) := by rw [hV, World.cell?_alloc_at _ _ _ _ rfl]; rfl
  have cg := keepcell hb hg
  have E := Lib.hid hV
  have HR := Lib.hid (h.below hb)
  have HB := Lib.hid hb
  clear h hg hb hV
  go_enter Tryd.func44, Tryd.ntmps44
  go_wp2_with fail
  rw [← E.out]
  clear E
  refine wp_region_held_drew (S := fun w' => (w'.cell? ⟨w.heap.size, 0, none⟩ = some (.int .i64 x) ∧ w'.cell? ⟨w.heap.size, 1, none⟩ = some (.slice A n c)) ∧ w'.cell? ⟨gb, 0, none⟩ = some (.int .i64 g)) (by kernel_rfl) ⟨⟨c0, c1⟩, cg⟩ (fun hHeld => ?_)
  refine wpAnyH_takesJ (i := 0) (v := (.agg #[.int .i64 x, .slice A n c])) (some 4) rfl rfl (by kernel_rfl) (by kernel_rfl) (by kernel_rfl) (fun _ _ _ h => h) (Or.inl ⟨by rfl, (by intro W9 hSw; (try dsimp only at hSw); go_simp; first | done | with_reducible rfl)⟩) (by assumption) ?_
  simp only [Act.put, List.setIfInBounds_toArray]; try simp only [List.set_cons_zero, List.set_cons_succ]
  refine wpAnyH_takesJ (i := 2) (v := (.int .i64 g)) (some 6) rfl rfl (by kernel_rfl) (by kernel_rfl) (by kernel_rfl) (fun _ _ _ h => h) (Or.inl ⟨by rfl, (by intro W9 hSw; (try dsimp only at hSw); go_simp; first | done | with_reducible rfl)⟩) (by assumption) ?_
  simp only [Act.put, List.setIfInBounds_toArray]; try simp only [List.set_cons_zero, List.set_cons_succ]
  refine wpAnyH_ready (rs := [1]) (by kernel_rfl) (by simp) ?_
  refine AllReadyH.cons rfl (fun K hK => ?_) AllReadyH.nil
  go_simp
  go_at_call 14
  refine (all_any x A n c zs _ (by exact HR.out.drew) (by omega)).mono ?_
  rintro e w2 ⟨A2, n2, c2, rfl, hr2, _, hb2⟩
  have hb2' := below_of_drew hb2
  have HR2 := Lib.hid hr2
  have HB2 := Lib.hid (HB.out.trans (hb2'.mono HB.out.size))
  refine hK.out _ _ (by exact ⟨⟨keepcell hb2' c0, keepcell hb2' c1⟩, keepcell hb2' cg⟩) (fun hHeld => ?_)
  clear hK K hb2 hb2' hr2 c0 c1 cg
  try dsimp only
  refine wpAnyH_ready (rs := [3]) (by kernel_rfl) (by simp) ?_
  refine AllReadyH.cons rfl (fun K hK => ?_) AllReadyH.nil
  go_simp
  go_at_call 38
  refine (contains_any A2 n2 c2 (Rp.all (x, zs)) g _ HR2.out).mono ?_
  rintro e w3 ⟨rfl, rfl⟩
  obtain ⟨hb9, hb8⟩ : ∃ hb9, hb9 = Tp.has (Rp.all (x, zs)) g := ⟨_, rfl⟩
  rw [← hb8]
  refine hK.out _ _ (by assumption) (fun hHeld => ?_)
  clear hK K
  try dsimp only
  refine wpAnyH_takesJ (i := 4) (v := (.bool hb9)) (some 3) rfl rfl (by kernel_rfl) (by kernel_rfl) (by kernel_rfl) (fun _ _ _ h => h) (Or.inl ⟨by rfl, (by intro W9 hSw; (try dsimp only at hSw); go_simp; first | done | with_reducible rfl)⟩) (by assumption) ?_
  simp only [Act.put, List.setIfInBounds_toArray]; try simp only [List.set_cons_zero, List.set_cons_succ]
  refine wpAnyH_done (by kernel_rfl) ?_ _
  go_wp2_with fail
  go_ret
  exact ⟨ret_bool hb8, HB2.out⟩
theorem whereL_any (A : Option Addr) (n c : Nat) (zs : List Int) (g : Int) (gb : Nat) (w : World) (h : Row w A n c zs) (hg : w.cell? ⟨gb, 0, none⟩ = some (.int .i64 g)) :
    Calls Tryd.prog 46 #[.slice A n c, .pointer (some ⟨gb, 0, none⟩)] w fun e w' => e = .returned (.bool (Tp.has zs g)) ∧ w' = w := by
  have HC := Lib.hid (contains_any A n c zs g w h)
  clear h
  go_enter Tryd.func46, Tryd.ntmps46
  go_wp2_with fail
  refine HC.out.mono ?_
  rintro e w3 ⟨rfl, rfl⟩
  go_wp2_with fail
  go_ret
  exact ⟨rfl, rfl⟩
theorem enters1 (args : Array Value) (w : World) : (callFunc 44 args).run Tryd.prog w = .ok (.enter 44 args) w := by kernel_rfl
theorem enters2 (args : Array Value) (w : World) : (callFunc 46 args).run Tryd.prog w = .ok (.enter 46 args) w := by kernel_rfl
/-- The first place where it stands, or -1. -/
def spot {α : Type} (l : List α) (q : α → Bool) : Int := match l.findIdx? q with | some k => (k : Int) | none => -1
theorem spot_hit {α : Type} {l : List α} {q : α → Bool} {k : Nat} {x : α} (hx : l[k]? = some x) (h : q x = true) (h0 : ∀ j, j < k → ∀ y, l[j]? = some y → q y = false) : spot l q = k := by unfold spot; rw [Jp.findIdx?_hit hx h h0]
theorem spot_no {α : Type} {l : List α} {q : α → Bool} (h0 : ∀ y ∈ l, q y = false) : spot l q = -1 := by unfold spot; rw [Jp.findIdx?_no h0]
theorem whr_spot (r : Jp.Rn) (g : Int) : (0 ≤ spot r.rings (fun x => Tp.has (Rp.all x) g) → Jp.whr r g = (spot r.rings (fun x => Tp.has (Rp.all x) g), -1)) ∧ (spot r.rings (fun x => Tp.has (Rp.all x) g) < 0 → Jp.whr r g = (-1, spot r.rows (fun l => Tp.has l g))) := by
  unfold spot Jp.whr
  cases h : r.rings.findIdx? (fun x => Tp.has (Rp.all x) g) with
  | some k => exact ⟨fun _ => rfl, fun h => by simp at h; omega⟩
  | none =>
    refine ⟨fun h => by simp at h, fun _ => ?_⟩
    simp only
    cases h2 : r.rows.findIdx? (fun l => Tp.has l g) <;> rfl
set_option maxHeartbeats 1000000 in
theorem indexR_any {F : Nat → Prop} (d : Ad) (r : Jp.Rn) (g : Int) (gb : Nat) (w : World) (h : RM F w d r) (hlow : Low r) (hg : w.cell? ⟨gb, 0, none⟩ = some (.int .i64 g)) :
    Calls Tryd.prog 43 #[.slice d.R d.nr d.cr, .func (.func 44) #[] #[.pointer (some ⟨gb, 0, none⟩)]] w fun e w' =>
      e = .returned (.int .i64 (spot r.rings (fun x => Tp.has (Rp.all x) g))) ∧ Below w.heap.size w w' := by
  obtain ⟨T, nt, ct, R, nr, cr, S, ns, cs⟩ := d
  have H := Lib.hid h
  have HL := Lib.hid hlow
  obtain ⟨hr1, hr2, hr3⟩ := h.nr
  have hr4 := hlow.rings
  simp only at hr1 hr2 hr3
  have HG := Lib.hid hg
  have hent := enters1
  clear h hlow hg
  go_enter Tryd.func43, Tryd.ntmps43
  go_wp2_with fail
  go_loopw [8] (fun i wr => ∃ k : Nat, k ≤ nr ∧ i = .int .i64 k ∧ Hid (Below w.heap.size w wr) ∧ Hid (∀ j, j < k → ∀ y, r.rings[j]? = some y → Tp.has (Rp.all y) g = false)) (fun i _ => nr - (intOf i).toNat)
  case atStart => exact ⟨0, Nat.zero_le _, rfl, Lib.hid (Below.refl _ _), Lib.hid (fun j hj => by omega)⟩
  case round =>
    obtain ⟨k, hk, rfl, HW, HA⟩ := hrel
    by_cases hlt : k < nr
    · obtain ⟨x, hx⟩ : ∃ x, r.rings[k]? = some x := ⟨_, List.getElem?_eq_getElem (by omega)⟩
      obtain ⟨b, off, A, n, c, hR, _, c0, c1, hrow⟩ := (H.out.below HW.out).ringAt hx
      simp only at hR
      subst hR
      have hn : n ≤ 400 := by rw [← hrow.len]; exact HL.out.ring x (List.mem_of_getElem? hx)
      have HX := Lib.hid hx
      have hC := Lib.hid (whereR_any x.1 A n c x.2 g gb wr hrow hn (keepcell HW.out HG.out))
      have i0 : (0 : Int) ≤ (k : Int) := by omega
      have i1 : (k : Int) < (nr : Int) := by omega
      clear hx hrow hr1
      go_wp2_with fail
      refine hC.out.mono ?_
      rintro e w2 ⟨rfl, hb⟩
      have HW2 := Lib.hid (HW.out.trans (hb.mono HW.out.size))
      clear hb c0 c1 hC
      cases hgx : Tp.has (Rp.all (x.1, x.2)) g
      · have HA2 := Lib.hid (show ∀ j, j < k + 1 → ∀ y, r.rings[j]? = some y → Tp.has (Rp.all y) g = false from fun j hj y hy => by
          by_cases e : j = k
          · subst e; have := HX.out; rw [hy] at this; injection this with this; subst this; exact hgx
          · exact HA.out j (by omega) y hy)
        clear hgx
        go_wp2_with fail
        go_roundw
        case rel => exact ⟨k + 1, by omega, by go_num, HW2, HA2⟩
        case measure => simp [intOf]; omega
      · have HS := Lib.hid (spot_hit (q := fun x => Tp.has (Rp.all x) g) HX.out hgx HA.out)
        clear hgx
        go_wp2_with fail
        go_ret
        exact ⟨ret_int HS.out.symm, HW2.out⟩
    · obtain rfl : k = nr := by omega
      have HS := Lib.hid (spot_no (l := r.rings) (q := fun x => Tp.has (Rp.all x) g) (fun y hy => by
        obtain ⟨j, hj⟩ := List.mem_iff_getElem?.1 hy
        exact HA.out j (by rw [← hr1]; exact (List.getElem?_eq_some_iff.1 hj).1) y hj))
      go_wp2_with fail
      go_ret
      exact ⟨ret_int HS.out.symm, HW.out⟩
set_option maxHeartbeats 1000000 in
theorem indexL_any {F : Nat → Prop} (d : Ad) (r : Jp.Rn) (g : Int) (gb : Nat) (w : World) (h : RM F w d r) (hlow : Low r) (hg : w.cell? ⟨gb, 0, none⟩ = some (.int .i64 g)) :
    Calls Tryd.prog 45 #[.slice d.S d.ns d.cs, .func (.func 46) #[] #[.pointer (some ⟨gb, 0, none⟩)]] w fun e w' =>
      e = .returned (.int .i64 (spot r.rows (fun x => Tp.has x g))) ∧ w' = w := by
  obtain ⟨T, nt, ct, R, nr, cr, S, ns, cs⟩ := d
  have H := Lib.hid h
  obtain ⟨hr1, hr2, hr3⟩ := h.ns
  have hr4 := hlow.rows
  simp only at hr1 hr2 hr3
  have HG := Lib.hid hg
  have hent := enters2
  clear h hlow hg
  go_enter Tryd.func45, Tryd.ntmps45
  go_wp2_with fail
  go_loop [8] (fun i => ∃ k : Nat, k ≤ ns ∧ i = .int .i64 k ∧ Hid (∀ j, j < k → ∀ y, r.rows[j]? = some y → Tp.has y g = false)) (fun i => ns - (intOf i).toNat)
  case atStart => exact ⟨0, Nat.zero_le _, rfl, Lib.hid (fun j hj => by omega)⟩
  case round =>
    obtain ⟨k, hk, rfl, HA⟩ := hrel
    by_cases hlt : k < ns
    · obtain ⟨x, hx⟩ : ∃ x, r.rows[k]? = some x := ⟨_, List.getElem?_eq_getElem (by omega)⟩
      obtain ⟨b, off, A, n, c, hR, _, c0, hrow⟩ := H.out.rowAt hx
      simp only at hR
      subst hR
      have HX := Lib.hid hx
      have hC := Lib.hid (whereL_any A n c x g gb w hrow HG.out)
      have i0 : (0 : Int) ≤ (k : Int) := by omega
      have i1 : (k : Int) < (ns : Int) := by omega
      clear hx hrow hr1
      go_wp2_with fail
      refine hC.out.mono ?_
      rintro e w2 ⟨rfl, rfl⟩
      clear c0 hC
      cases hgx : Tp.has x g
      · have HA2 := Lib.hid (show ∀ j, j < k + 1 → ∀ y, r.rows[j]? = some y → Tp.has y g = false from fun j hj y hy => by
          by_cases e : j = k
          · subst e; have := HX.out; rw [hy] at this; injection this with this; subst this; exact hgx
          · exact HA.out j (by omega) y hy)
        clear hgx
        go_wp2_with fail
        go_round
        case rel => exact ⟨k + 1, by omega, by go_num, HA2⟩
        case measure => simp [intOf]; omega
      · have HS := Lib.hid (spot_hit (q := fun x => Tp.has x g) HX.out hgx HA.out)
        clear hgx
        go_wp2_with fail
        go_ret
        exact ⟨ret_int HS.out.symm, rfl⟩
    · obtain rfl : k = ns := by omega
      have HS := Lib.hid (spot_no (l := r.rows) (q := fun x => Tp.has x g) (fun y hy => by
        obtain ⟨j, hj⟩ := List.mem_iff_getElem?.1 hy
        exact HA.out j (by rw [← hr1]; exact (List.getElem?_eq_some_iff.1 hj).1) y hj))
      go_wp2_with fail
      go_ret
      exact ⟨ret_int HS.out.symm, rfl⟩
set_option maxHeartbeats 1000000 in
theorem runsWhere_any {F : Nat → Prop} (d : Ad) (r : Jp.Rn) (g : Int) (w : World) (h : RM F w d r) (hlow : Low r) :
    Calls Tryd.prog 17 #[jv d r, .int .i64 g] w fun e w' => e = .returned (.tuple #[.int .i64 (Jp.whr r g).1, .int .i64 (Jp.whr r g).2]) ∧ Below w.heap.size w w' := by
  obtain ⟨T, nt, ct, R, nr, cr, S, ns, cs⟩ := d
  obtain ⟨U, hU, hX, hB⟩ := B5.start w (.slice T nt ct) (.int .i64 r.size) (.slice R nr cr) (.slice S ns cs) (.int .u64 (r.on : Nat)) 33
  obtain ⟨V, hV⟩ : ∃ V, V = U.alloc (.cells #[.int .i64 g] 3) := ⟨_, rfl⟩
  have hUV : Below U.heap.size U V := by rw [hV]; exact below_new _ _
  have us : U.heap.size = w.heap.size + 1 := by rw [hU]; simp
  have cg : V.cell? ⟨w.heap.size + 1, 0, none⟩ = some (.int .i64 g) := by rw [hV, ← us, World.cell?_alloc_at _ _ _ _ rfl]; rfl
  have X1 := hX.step hUV
  have HB := Lib.hid (hB.trans (hUV.mono hB.size))
  have E := Lib.hid (show V = (w.alloc (.cells #[.slice T nt ct, .int .i64 r.size, .slice R nr cr, .slice S ns cs, .int .u64 (r.on : Nat)] 33)).alloc (.cells #[.int .i64 g] 3) by rw [hV, hU])
  have HM := Lib.hid (h.below HB.out)
  have HL := Lib.hid hlow
  have HC := Lib.hid (indexR_any ⟨T, nt, ct, R, nr, cr, S, ns, cs⟩ r g (w.heap.size + 1) V HM.out hlow cg)
  have HW := Lib.hid (whr_spot r g)
  have HX := Lib.hid X1
  have HG := Lib.hid cg
  have d2 := X1.c2
  simp only at HC
  unfold jv
  clear h hlow hX hB hUV us X1 hU hV cg
  go_enter Tryd.func17, Tryd.ntmps17
  go_wp2_with fail
  rw [← E.out]
  clear E
  refine HC.out.mono ?_
  rintro e w2 ⟨rfl, hb2⟩
  have X2 := HX.out.step hb2
  have HB2 := Lib.hid (HB.out.trans (hb2.mono HB.out.size))
  have HC2 := Lib.hid (indexL_any ⟨T, nt, ct, R, nr, cr, S, ns, cs⟩ r g (w.heap.size + 1) w2 (HM.out.below hb2) HL.out (keepcell hb2 HG.out))
  simp only at HC2
  have d3 := X2.c3
  obtain ⟨s, hs⟩ : ∃ s, s = spot r.rings (fun x => Tp.has (Rp.all x) g) := ⟨_, rfl⟩
  rw [← hs]
  have HS := Lib.hid hs
  clear hb2 HC d2 X2 hs
  by_cases h0 : 0 ≤ s
  · have hw := HW.out.1 (by rw [← HS.out]; exact h0)
    have HWW := Lib.hid hw
    clear hw
    go_wp2_with fail
    refine bodyPost_ret (v := .tuple #[.int .i64 s, .int .i64 (-1)]) (by simp [results, Tryd.results17, go_sem]) rfl ?_
    exact ⟨by rw [HWW.out, ← HS.out], HB2.out⟩
  · have h1 : s < 0 := by omega
    have HWW := Lib.hid (HW.out.2 (by rw [← HS.out]; exact h1))
    clear h0
    go_wp2_with fail
    refine HC2.out.mono ?_
    rintro e w3 ⟨rfl, rfl⟩
    go_wp2_with fail
    refine bodyPost_ret (v := .tuple #[.int .i64 (-1), .int .i64 (spot r.rows (fun x => Tp.has x g))]) (by simp [results, Tryd.results17, go_sem]) rfl ?_
    exact ⟨by rw [HWW.out], HB2.out⟩
end Go.Proofs.YtcoccegmkcdeiaaDoor

