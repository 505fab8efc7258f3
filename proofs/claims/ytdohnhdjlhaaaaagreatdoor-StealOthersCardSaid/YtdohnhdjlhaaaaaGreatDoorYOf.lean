/- find.ofRing and find.ofRow, by their contracts. -/
import Derived.Test.YtdohnhdjlhaaaaaGreatDoorM11
import Derived.Test.YtdohnhdjlhaaaaaGreatDoorM2
namespace Go.Proofs.YtdohnhdjlhaaaaaGreatDoor
open Go.RowKit
set_option linter.unusedVariables false

/-- Who is found in a ring: the one told, and where. -/
theorem take_nobody : Rp.take (0, []) = ((0, []), 0) := rfl
theorem take_ring (y : Int) (t : List Int) : Rp.take (0, y :: t) = ((0, t), y) := rfl
theorem take_next {x : Int} (hx : x ≠ 0) (t : List Int) : Rp.take (x, t) = ((0, t), x) := by unfold Rp.take; rw [if_neg hx]
/-- What a look leaves: nobody; or somebody, taken out. -/
def Found (no : Prop) (y pl : Int) (g : Nat) (w : World) (R : World → Prop) (e : Ending) (w' : World) : Prop :=
  (no ∧ e = .returned (.tuple #[.int .i64 0, .int .i64 0]) ∧ Below w.heap.size w w') ∨ (¬ no ∧ e = .returned (.tuple #[.int .i64 y, .int .i64 pl]) ∧ Rg g w w' ∧ R w')
theorem Found.nobody {no : Prop} {y pl : Int} {g : Nat} {w w' : World} {R : World → Prop} (h : no) (hb : Below w.heap.size w w') : Found no y pl g w R (.returned (.tuple #[.int .i64 0, .int .i64 0])) w' := .inl ⟨h, rfl, hb⟩
theorem Found.some {no : Prop} {y pl y' pl' : Int} {g : Nat} {w w' : World} {R : World → Prop} (h : ¬ no) (hy : y' = y) (hp : pl' = pl) (hr : Rg g w w') (hR : R w') : Found no y pl g w R (.returned (.tuple #[.int .i64 y', .int .i64 pl'])) w' := by
  subst hy hp
  exact .inr ⟨h, rfl, hr, hR⟩
set_option maxRecDepth 100000 in
set_option maxHeartbeats 2000000 in
theorem ofRing_any {F : Nat → Prop} {B0 q k g nt ct nr cr ns cs : Nat} {T S : Option Addr} {r : Jp.Rn} {es ls : List El} {e0 : El} {x : Int} {t : List Int} (w w0 : World) (h : Ready B0 q ⟨T, nt, ct, some ⟨g, 0, none⟩, nr, cr, S, ns, cs⟩ r es ls e0 w) (hk : k < nr) (h0 : w0.heap.size ≤ B0)
    (hx : r.rings[k]? = some (x, t)) (hl : t.length ≤ 400) (hz : ∀ z ∈ t, z ≠ 0) :
    Calls Tryz.prog 94 #[.slice (some ⟨g, 0, none⟩) nr cr, .int .i64 (k : Nat)] w
      (Found (x = 0 ∧ t = []) (Rp.take (x, t)).2 (if x = 0 then 2 else 1) g w fun w' => RM (More F w0) w' ⟨T, nt, ct, some ⟨g, 0, none⟩, nr, cr, S, ns, cs⟩ (Jp.ringed r k (0, (Rp.take (x, t)).1.2))) := by
  have H := Lib.hid h
  have hen : (es.map elG)[k]? = some (x, t) := by rw [h.is]; exact hx
  rw [List.getElem?_map] at hen
  obtain ⟨e, he, hee⟩ : ∃ e, es[k]? = some e ∧ elG e = (x, t) := by
    cases he : es[k]? with
    | none => rw [he] at hen; cases hen
    | some e => rw [he] at hen; injection hen with hen; exact ⟨e, rfl, hen⟩
  obtain ⟨ex, el, A, n, c⟩ := e
  injection hee with e1 e2
  subst e1 e2
  obtain ⟨xr, _⟩ := own_slice csG_len (by decide) h.own
  obtain ⟨b, off, eb, _, hcs⟩ := xr.cell k _ he
  injection eb with eb
  injection eb with eb1 eb2 _
  subst eb1 eb2
  have p0 := hcs 0 _ rfl
  have p1 := hcs 1 _ rfl
  rw [Nat.zero_add] at p0 p1
  rw [Nat.add_zero] at p0
  have hrow := xr.rows _ (List.mem_of_getElem? he)
  simp only at hrow hx hl hz ⊢
  have hlen := hrow.len
  have i0 : (0 : Int) ≤ (k : Int) := by omega
  have i1 : (k : Int) < (nr : Int) := by omega
  clear h hen he hcs xr
  by_cases hx0 : ex = 0
  · subst hx0
    cases el with
    | nil =>
      have HT := Lib.hid take_nobody
      go_enter Tryz.func94, Tryz.ntmps94
      go_wp2_with fail
      refine (take_any 0 A n c [] w hrow (by omega)).mono ?_
      rintro e w1 ⟨A1, n1, c1, rfl, hr1, hf1, hb1⟩
      rw [HT.out] at hr1 ⊢
      simp only at hr1 ⊢
      have hb2 := below_new w1 (.cells #[.int .i64 0, .slice A1 n1 c1] 54)
      have HB := Lib.hid (held_trans hb1 hb2)
      clear hb1 hb2 hr1 hf1
      go_wp2_with fail
      refine bodyPost_ret (v := .tuple #[.int .i64 0, .int .i64 0]) (by simp [results, Tryz.results94, go_sem]) rfl ?_
      exact Found.nobody (by simp) HB.out
    | cons y t =>
      have HT := Lib.hid (take_ring y t)
      have y0 : (y == 0) = false := by rw [beq_eq_false_iff_ne]; exact hz y (List.mem_cons_self ..)
      have x0 : ((0 : Int) != 0) = false := rfl
      go_enter Tryz.func94, Tryz.ntmps94
      go_wp2_with fail
      refine (take_any 0 A n c (y :: t) w hrow (by omega)).mono ?_
      rintro e w1 ⟨A1, n1, c1, rfl, hr1, hf1, hb1⟩
      rw [HT.out] at hr1 ⊢
      simp only at hr1 ⊢
      obtain ⟨w2, hw2⟩ : ∃ w2, w2 = w1.alloc (.cells #[.int .i64 0, .slice A1 n1 c1] 54) := ⟨_, rfl⟩
      have hb2 : Below w1.heap.size w1 w2 := by rw [hw2]; exact below_new _ _
      have n0 : w2.cell? ⟨w1.heap.size, 0, none⟩ = some (.int .i64 0) := by rw [hw2, World.cell?_alloc_at _ _ _ _ rfl]; rfl
      have n1' : w2.cell? ⟨w1.heap.size, 1, none⟩ = some (.slice A1 n1 c1) := by rw [hw2, World.cell?_alloc_at _ _ _ _ rfl]; rfl
      have hb12 := held_trans hb1 hb2
      have H2 := H.out.step hb12
      have hfz0 : w2.frozen? ⟨g, k * 2, none⟩ = false := H2.own.own.frozenAt (k * 2)
      have hfz1 : w2.frozen? ⟨g, k * 2 + 1, none⟩ = false := H2.own.own.frozenAt (k * 2 + 1)
      have d0 := keepcell hb12 p0
      have d1 := keepcell hb12 p1
      have HR := Lib.hid ((H2.ring hk (x := (0, t)) (hr1.below hb2) hf1 H.out.up (H.out.own.own.lt g rfl).2 (fun j hj => (H.out.ours.lt j hj).2) (fun j hj => (H.out.rows.own.lt j hj).2)).rm (F := F) h0)
      have RG := Lib.hid (((Rg.below (g := g) hb12).set (j := k * 2) (u := .int .i64 0)).set (j := k * 2 + 1) (u := .slice A1 n1 c1))
      have E2 := Lib.hid hw2
      clear hb1 hb2 hb12 hw2 hr1 hf1 H2 p0 p1
      go_wp2_with (rw [← E2.out])
      refine bodyPost_ret (v := .tuple #[.int .i64 y, .int .i64 2]) (by simp [results, Tryz.results94, go_sem]) rfl ?_
      exact Found.some (by simp) rfl rfl RG.out (by first | exact HR.out | (rw [HT.out]; exact HR.out))
  · have HT := Lib.hid (take_next hx0 el)
    have y0 : (ex == 0) = false := by rw [beq_eq_false_iff_ne]; exact hx0
    have x0 : (ex != 0) = true := by rw [bne_iff_ne]; exact hx0
    have HI := Lib.hid (show (if ex = 0 then (2 : Int) else 1) = 1 from if_neg hx0)
    go_enter Tryz.func94, Tryz.ntmps94
    go_wp2_with fail
    refine (take_any ex A n c el w hrow (by omega)).mono ?_
    rintro e w1 ⟨A1, n1, c1, rfl, hr1, hf1, hb1⟩
    rw [HT.out] at hr1 ⊢
    simp only at hr1 ⊢
    obtain ⟨w2, hw2⟩ : ∃ w2, w2 = w1.alloc (.cells #[.int .i64 0, .slice A1 n1 c1] 54) := ⟨_, rfl⟩
    have hb2 : Below w1.heap.size w1 w2 := by rw [hw2]; exact below_new _ _
    have n0 : w2.cell? ⟨w1.heap.size, 0, none⟩ = some (.int .i64 0) := by rw [hw2, World.cell?_alloc_at _ _ _ _ rfl]; rfl
    have n1' : w2.cell? ⟨w1.heap.size, 1, none⟩ = some (.slice A1 n1 c1) := by rw [hw2, World.cell?_alloc_at _ _ _ _ rfl]; rfl
    have hb12 := held_trans hb1 hb2
    have H2 := H.out.step hb12
    have hfz0 : w2.frozen? ⟨g, k * 2, none⟩ = false := H2.own.own.frozenAt (k * 2)
    have hfz1 : w2.frozen? ⟨g, k * 2 + 1, none⟩ = false := H2.own.own.frozenAt (k * 2 + 1)
    have d0 := keepcell hb12 p0
    have d1 := keepcell hb12 p1
    have HR := Lib.hid ((H2.ring hk (x := (0, el)) (hr1.below hb2) hf1 H.out.up (H.out.own.own.lt g rfl).2 (fun j hj => (H.out.ours.lt j hj).2) (fun j hj => (H.out.rows.own.lt j hj).2)).rm (F := F) h0)
    have RG := Lib.hid (((Rg.below (g := g) hb12).set (j := k * 2) (u := .int .i64 0)).set (j := k * 2 + 1) (u := .slice A1 n1 c1))
    have E2 := Lib.hid hw2
    clear hb1 hb2 hb12 hw2 hr1 hf1 H2 p0 p1
    go_wp2_with (rw [← E2.out])
    refine bodyPost_ret (v := .tuple #[.int .i64 ex, .int .i64 1]) (by simp [results, Tryz.results94, go_sem]) rfl ?_
    exact Found.some (by simp) (by rw [HT.out]) rfl RG.out (by first | exact HR.out | (rw [HT.out]; exact HR.out))
set_option maxRecDepth 100000 in
set_option maxHeartbeats 2000000 in
theorem ofRow_any {F : Nat → Prop} {B0 q g nt ct nr cr ns cs : Nat} {T R : Option Addr} {r : Jp.Rn} {es ls : List El} {e0 : El} (w w0 : World) (h : Ready B0 q ⟨T, nt, ct, R, nr, cr, some ⟨g, 0, none⟩, ns, cs⟩ r es ls e0 w) (hq : q < ns) (h0 : w0.heap.size ≤ B0) :
    Calls Tryz.prog 96 #[.slice (some ⟨g, 0, none⟩) ns cs, .int .i64 (q : Nat)] w
      (Found (e0.l = []) (e0.l.headD 0) 3 g w fun w' => RM (More F w0) w' ⟨T, nt, ct, R, nr, cr, some ⟨g, 0, none⟩, ns, cs⟩ (Jp.rowed r q e0.l.tail)) := by
  have H := Lib.hid h
  have HC := Lib.hid (fun l A n c => h.cut (F := F) (w0 := w0) h0 (l := l) (A := A) (n := n) (c := c))
  have he := h.at'
  obtain ⟨ex, el, A, n, c⟩ := e0
  obtain ⟨xr, _⟩ := own_slice csL_len (by decide) h.rows
  obtain ⟨b, off, eb, _, hcs⟩ := xr.cell q _ he
  injection eb with eb
  injection eb with eb1 eb2 _
  subst eb1 eb2
  have c0 := hcs 0 _ rfl
  rw [Nat.zero_add, Nat.mul_one, Nat.add_zero] at c0
  have hrow := xr.rows _ (List.mem_of_getElem? he)
  have hfz : w.frozen? ⟨g, q, none⟩ = false := h.rows.own.frozenAt q
  simp only at hrow c0 HC ⊢
  have hlen := hrow.len
  have i0 : (0 : Int) ≤ (q : Int) := by omega
  have i1 : (q : Int) < (ns : Int) := by omega
  clear h he hcs xr
  cases el with
  | nil =>
    obtain rfl : n = 0 := by rw [← hlen]; rfl
    go_enter Tryz.func96, Tryz.ntmps96
    go_wp2_with fail
    refine bodyPost_ret (v := .tuple #[.int .i64 0, .int .i64 0]) (by simp [results, Tryz.results96, go_sem]) rfl ?_
    exact Found.nobody (by simp) (Below.refl _ _)
  | cons y t =>
    have hn1 : 0 < n := by rw [← hlen]; simp
    obtain ⟨b, off, rfl, hb, hcL⟩ := hrow.cells hn1
    have cg := hcL 0 y rfl
    rw [Nat.add_zero] at cg
    have hgb : b ≠ g := fun e => by subst e; exact H.out.t4 b rfl rfl
    have cg' := fun u => farcell (X := g) (j := q) (u := u) hgb cg
    have hsl := hrow.slice 1 (by omega)
    have hcap := hrow.cap
    have s1 : (1 : Int) ≤ (n : Int) := by omega
    have s2 : ¬ ((n : Int) < 1) := by omega
    have s3 : ((n : Int) == 0) = false := by rw [beq_eq_false_iff_ne]; omega
    have s4 : (0 : Int) < (n : Int) := by omega
    have s5 : ¬ c < 1 := by omega
    have s6 : 1 ≤ n := by omega
    by_cases hc1 : c = 1
    · obtain rfl : n = 1 := by omega
      subst hc1
      have HR := Lib.hid (HC.out t _ _ _ (by rw [if_pos rfl, List.drop_one, List.tail_cons] at hsl; exact hsl) (fun ad e => ⟨_, rfl, by injection e with e; rw [← e]⟩))
      have RG := Lib.hid ((Rg.below (g := g) (Below.refl w.heap.size w)).set (j := q) (u := .slice (some ⟨b, off, none⟩) 0 0))
      clear hsl hcL hrow HC
      go_enter Tryz.func96, Tryz.ntmps96
      go_wp2_with fail
      refine bodyPost_ret (v := .tuple #[.int .i64 y, .int .i64 3]) (by simp [results, Tryz.results96, go_sem]) rfl ?_
      exact Found.some (by simp) rfl rfl RG.out HR.out
    · have HR := Lib.hid (HC.out t _ _ _ (by rw [if_neg hc1, List.drop_one, List.tail_cons] at hsl; exact hsl) (fun ad e => ⟨_, rfl, by injection e with e; rw [← e]⟩))
      have RG := Lib.hid ((Rg.below (g := g) (Below.refl w.heap.size w)).set (j := q) (u := .slice (some ⟨b, off + 1, none⟩) (n - 1) (c - 1)))
      clear hsl hcL hrow HC
      go_enter Tryz.func96, Tryz.ntmps96
      go_wp2_with fail
      refine bodyPost_ret (v := .tuple #[.int .i64 y, .int .i64 3]) (by simp [results, Tryz.results96, go_sem]) rfl ?_
      exact Found.some (by simp) rfl rfl RG.out HR.out
end Go.Proofs.YtdohnhdjlhaaaaaGreatDoor

