/- ArenaPlays: whatever is taken and freed, each answer is the document's: the call answers true and changes nothing that was there; for every input. -/
import Derived.Test.YtncmliojndgoiaaVCel
import Derived.Test.YtncmliojndgoiaaVRefFree
import Derived.Test.YtncmliojndgoiaaLFrame
namespace Go.Proofs.Ytncmliojndgoiaa.arenaPlays
open Go.ChangeShapes Go.WideShapes Go.ChangeAt Go.RowKit
set_option linter.unusedVariables false

/-- The arena, and beside it the document's, in a box at d. -/
structure Pv (w W : World) (b d : Nat) (F : Nat → Prop) (a x : Vp.Ar) (t : Int) (A1 : Option Addr) (n1 c1 : Nat) (A2 : Option Addr) (n2 c2 : Nat) (A3 : Option Addr) (n3 c3 : Nat) : Prop where
  vc : VC w W b F a t
  cel : Cel8 W d (.int .i64 x.room) (.slice A1 n1 c1) (.slice A2 n2 c2) (.slice A3 n3 c3)
  x8 : X8 W (fun j => ¬ F j ∧ j ≠ d) A1 n1 c1 A2 n2 c2 A3 n3 c3 x
  far : ¬ F d
  low : w.heap.size ≤ d
section
variable {w W W' : World} {b d : Nat} {F : Nat → Prop} {a x : Vp.Ar} {t : Int} {A1 A2 A3 : Option Addr} {n1 c1 n2 c2 n3 c3 : Nat}
theorem Pv.step (h : Pv w W b d F a x t A1 n1 c1 A2 n2 c2 A3 n3 c3) (hb : Below W.heap.size W W') : Pv w W' b d F a x t A1 n1 c1 A2 n2 c2 A3 n3 c3 :=
  ⟨h.vc.step hb, h.cel.step hb, h.x8.step hb, h.far, h.low⟩
theorem Pv.took {v : Value} {e : Ending} (h : Pv w W b d F a x t A1 n1 c1 A2 n2 c2 A3 n3 c3) (ht : VTurn1 b F (Vp.take a).1 (t + 1) W v e W') : Pv w W' b d F (Vp.take a).1 x (t + 1) A1 n1 c1 A2 n2 c2 A3 n3 c3 :=
  ⟨h.vc.took ht, h.cel.keep (ht.2.2.block d h.cel.lt h.far), h.x8.keep ht.2.2.size (fun j hj hP => ht.2.2.block j hj hP.1) (fun _ _ h => h), h.far, h.low⟩
theorem Pv.freed {F' : Nat → Prop} {g : Int} (h : Pv w W b d F a x t A1 n1 c1 A2 n2 c2 A3 n3 c3) (h1 : VAr W' b F' (Vp.free a g).1 t) (h2 : Kept F W W') (h3 : ∀ k, F' k → F k ∨ W.heap.size ≤ k) : Pv w W' b d F' (Vp.free a g).1 x t A1 n1 c1 A2 n2 c2 A3 n3 c3 := by
  have hn : ∀ j, j < W.heap.size → ¬ F j → ¬ F' j := fun j hj hF f => by
    rcases h3 j f with f | f
    · exact hF f
    · omega
  exact ⟨h.vc.freed h1 h2 h3, h.cel.keep (h2.block d h.cel.lt h.far), h.x8.keep h2.size (fun j hj hP => h2.block j hj hP.1) (fun j hj hP => ⟨hn j hj hP.1, hP.2⟩), hn d h.cel.lt h.far, h.low⟩
theorem Pv.put {y : Vp.Ar} {B1 B2 B3 : Option Addr} {m1 e1 m2 e2 m3 e3 : Nat} (h : Pv w W b d F a x t A1 n1 c1 A2 n2 c2 A3 n3 c3) (hy : X8 W (fun j => ¬ F j ∧ j ≠ d) B1 m1 e1 B2 m2 e2 B3 m3 e3 y) : Pv w (put4 W d (.int .i64 y.room) (.slice B1 m1 e1) (.slice B2 m2 e2) (.slice B3 m3 e3)) b d F a y t B1 m1 e1 B2 m2 e2 B3 m3 e3 :=
  ⟨⟨h.vc.ar.keep (by rw [put4_size]; exact Nat.le_refl _) (fun j hj => put4_block _ _ _ _ _ _ _ (fun e => h.far (by rw [← e]; exact hj))), h.vc.low, below_put4 h.vc.below h.low _ _ _ _⟩, h.cel.put _ _ _ _,
    hy.keep (by rw [put4_size]; exact Nat.le_refl _) (fun j hj hP => put4_block _ _ _ _ _ _ _ hP.2) (fun _ _ h => h), h.far, h.low⟩
theorem Pv.mono {t' : Int} (h : Pv w W b d F a x t A1 n1 c1 A2 n2 c2 A3 n3 c3) (ht : t ≤ t') : Pv w W b d F a x t' A1 n1 c1 A2 n2 c2 A3 n3 c3 := ⟨⟨h.vc.ar.mono ht, h.vc.low, h.vc.below⟩, h.cel, h.x8, h.far, h.low⟩
theorem Pv.free' (h : Pv w W b d F a x t A1 n1 c1 A2 n2 c2 A3 n3 c3) : ∀ j, W.heap.size ≤ j → ¬ F j ∧ j ≠ d := fun j hj => ⟨fun f => by have := h.vc.ar.lt j f; omega, by have := h.cel.lt; omega⟩
/-- How long the document's lists are. -/
theorem Pv.lens (h : Pv w W b d F a a t A1 n1 c1 A2 n2 c2 A3 n3 c3) : n1 ≤ 1000 ∧ n2 ≤ 1000 ∧ n3 ≤ 1000 ∧ a.room ≤ 64 := by
  obtain ⟨k, hk⟩ := h.vc.ar.ok
  have := h.x8.l.len
  have := h.x8.f.len
  have := h.x8.g.len
  have := hk.count
  have := hk.most
  have := hk.gens
  have := h.vc.ar.room64
  omega
end
/-- The document's Take and Free, whatever comes of them. -/
def MadeT (P : Nat → Prop) (x : Vp.Ar) (g m : Int) (s : Bool) (w0 : World) (e : Ending) (w' : World) : Prop :=
  ∃ A1 n1 c1 A2 n2 c2 A3 n3 c3, e = .returned (.tuple #[.agg #[.int .i64 x.room, .slice A1 n1 c1, .slice A2 n2 c2, .slice A3 n3 c3], .int .i64 g, .int .i64 m, .bool s]) ∧ X8 w' P A1 n1 c1 A2 n2 c2 A3 n3 c3 x ∧ Below w0.heap.size w0 w'
def MadeF (P : Nat → Prop) (x : Vp.Ar) (s : Bool) (w0 : World) (e : Ending) (w' : World) : Prop :=
  ∃ A1 n1 c1 A2 n2 c2 A3 n3 c3, e = .returned (.tuple #[.agg #[.int .i64 x.room, .slice A1 n1 c1, .slice A2 n2 c2, .slice A3 n3 c3], .bool s]) ∧ X8 w' P A1 n1 c1 A2 n2 c2 A3 n3 c3 x ∧ Below w0.heap.size w0 w'
theorem refTake_any {w W : World} {b d : Nat} {F : Nat → Prop} {a y : Vp.Ar} {t : Int} {A1 A2 A3 : Option Addr} {n1 c1 n2 c2 n3 c3 : Nat} {g m : Int} {s : Bool} (h : Pv w W b d F a a t A1 n1 c1 A2 n2 c2 A3 n3 c3) (ht : t ≤ 1000000) (hT : Vp.take a = (y, g, m, s)) (W1 : World) (hx : X8 W1 (fun j => ¬ F j ∧ j ≠ d) A1 n1 c1 A2 n2 c2 A3 n3 c3 a) (hB : ∀ j, W1.heap.size ≤ j → ¬ F j ∧ j ≠ d) :
    Calls Try.prog 13 #[.agg #[.int .i64 a.room, .slice A1 n1 c1, .slice A2 n2 c2, .slice A3 n3 c3]] W1 (MadeT (fun j => ¬ F j ∧ j ≠ d) y g m s W1) := by
  obtain ⟨k, hk⟩ := h.vc.ar.ok
  obtain ⟨l1, l2, l3, lr⟩ := h.lens
  by_cases hp : Vp.pick a = 0
  · refine (refTake_none _ A1 n1 c1 A2 n2 c2 A3 n3 c3 a W1 hx lr hp).mono ?_
    rintro e w2 ⟨B1, m1, e1, B2, m2, e2, B3, m3, e3, he, hX, hb⟩
    rw [hT] at he hX
    exact ⟨_, _, _, _, _, _, _, _, _, he, hX, hb⟩
  · refine (refTake_some _ A1 n1 c1 A2 n2 c2 A3 n3 c3 a t k W1 hx hk lr l1 l2 l3 hB hp ht h.vc.ar.top).mono ?_
    rintro e w2 ⟨B1, m1, e1, B2, m2, e2, B3, m3, e3, he, hX, hb⟩
    rw [hT] at he hX
    exact ⟨_, _, _, _, _, _, _, _, _, he, hX, hb⟩
theorem refFree_any {w W : World} {b d : Nat} {F : Nat → Prop} {a y : Vp.Ar} {t : Int} {A1 A2 A3 : Option Addr} {n1 c1 n2 c2 n3 c3 : Nat} {g : Int} {s : Bool} (h : Pv w W b d F a a t A1 n1 c1 A2 n2 c2 A3 n3 c3) (hT : Vp.free a g = (y, s)) (F' : Nat → Prop) (W1 : World) (hx : X8 W1 (fun j => ¬ F' j ∧ j ≠ d) A1 n1 c1 A2 n2 c2 A3 n3 c3 a) (hB : ∀ j, W1.heap.size ≤ j → ¬ F' j ∧ j ≠ d) :
    Calls Try.prog 15 #[.agg #[.int .i64 a.room, .slice A1 n1 c1, .slice A2 n2 c2, .slice A3 n3 c3], .int .i64 g] W1 (MadeF (fun j => ¬ F' j ∧ j ≠ d) y s W1) := by
  obtain ⟨l1, l2, l3, lr⟩ := h.lens
  cases hp : a.live.contains g with
  | false =>
    refine (refFree_no _ A1 n1 c1 A2 n2 c2 A3 n3 c3 a g W1 hx l1 hp).mono ?_
    rintro e w2 ⟨B1, m1, e1, B2, m2, e2, B3, m3, e3, he, hX, hb⟩
    rw [hT] at he hX
    exact ⟨_, _, _, _, _, _, _, _, _, he, hX, hb⟩
  | true =>
    refine (refFree_yes _ A1 n1 c1 A2 n2 c2 A3 n3 c3 a g W1 hx l1 l2 hB hp).mono ?_
    rintro e w2 ⟨B1, m1, e1, B2, m2, e2, B3, m3, e3, he, hX, hb⟩
    rw [hT] at he hX
    exact ⟨_, _, _, _, _, _, _, _, _, he, hX, hb⟩
set_option maxHeartbeats 4000000 in
set_option maxRecDepth 100000 in
theorem walk (r : Int) (A : Option Addr) (N c : Nat) (zs : List Int) (w : World) (h0 : In64 r) (hr : Row w A N c zs) (hz : Hid (∀ z ∈ zs, In64 z)) :
    Calls Try.prog 3 #[.int .i64 r, .slice A N c] w fun e w' => e = .returned (.bool true) ∧ Below w.heap.size w w' := by
  have HR := Lib.hid hr
  clear hr
  go_enter Try.func3, Try.ntmps3
  go_wp2_with fail
  refine (shown_any _).mono ?_
  rintro e w1 ⟨rfl, hb1⟩
  have B1 := Lib.hid hb1
  clear hb1
  by_cases hr : 1 ≤ r ∧ r ≤ 64
  · obtain ⟨n, rfl⟩ : ∃ n : Nat, r = n := ⟨r.toNat, by omega⟩
    have hn1 : 1 ≤ n ∧ n ≤ 64 := by omega
    obtain ⟨hn1, hn2⟩ := hn1
    clear hr
    go_wp2_with fail
    refine (new_yes n w1 hn1 hn2).mono ?_
    intro e w2 hN
    have C1 := Lib.hid (VC.new B1.out hN)
    obtain ⟨rfl, hx⟩ := hN
    clear hx
    generalize w1.heap.size + 1 = b at C1 ⊢
    generalize (fun k => k = w1.heap.size ∨ k = b) = F at C1
    go_wp2_with fail
    refine (refNew_yes n (fun j => ¬ F j) w2 (fun j hj f => by have := C1.out.ar.lt j f; omega) hn1 hn2).mono ?_
    rintro e w3 ⟨A3, n3, c3, rfl, hX, hb3⟩
    have P4 := Lib.hid (show Pv w (w3.alloc (.cells #[.int .i64 n, .slice none 0 0, .slice none 0 0, .slice A3 n3 c3] 29)) b w3.heap.size F (Vp.new n) (Vp.new n) 0 none 0 0 none 0 0 A3 n3 c3 from by
      have C3 := C1.out.step hb3
      exact ⟨C3.step (below_new _ _), Cel8.new _ _ _ _ _ _, hX.keep (by simp) (fun j hj _ => (below_new _ _).block j hj) (fun j hj hP => ⟨hP, by omega⟩), fun f => by have := C3.ar.lt _ f; omega, C3.below.size⟩)
    clear hX hb3
    go_wp2_with fail
    generalize w3.alloc (.cells #[.int .i64 n, .slice none 0 0, .slice none 0 0, .slice A3 n3 c3] 29) = W4 at P4 ⊢
    generalize w3.heap.size = d at P4 ⊢
    go_loopw [10] (fun i wr => ∃ (k : Nat) (F : Nat → Prop) (a : Vp.Ar) (A1 : Option Addr) (n1 c1 : Nat) (A2 : Option Addr) (n2 c2 : Nat) (A3 : Option Addr) (n3 c3 : Nat), k ≤ N ∧ k ≤ 300 ∧ i = .int .i64 k ∧ Hid (Pv w wr b d F a a k A1 n1 c1 A2 n2 c2 A3 n3 c3)) (fun i _ => 300 - (intOf i).toNat)
    case atStart => exact ⟨0, F, Vp.new n, _, _, _, _, _, _, _, _, _, Nat.zero_le _, Nat.zero_le _, rfl, P4⟩
    case round =>
      obtain ⟨k, F, a, A1, n1, c1, A2, n2, c2, A3, n3, c3, hk, hk2, rfl, HP⟩ := hrel
      by_cases hlt : k < N
      · by_cases h300 : k < 300
        · obtain ⟨z, hzk⟩ : ∃ z, zs[k]? = some z := ⟨_, List.getElem?_eq_getElem (by have := HR.out.len; omega)⟩
          have z64 := Lib.hid (hz.out z (List.mem_of_getElem? hzk))
          obtain ⟨b', off, hAA, hlt', hcs⟩ := HR.out.cells (by omega)
          subst hAA
          have hcw : wr.cell? ⟨b', off + k, none⟩ = some (.int .i64 z) := (HP.out.vc.below.cell (p := ⟨b', off + k, none⟩) hlt').trans (hcs k z hzk)
          have hz0 : ∀ W', Below wr.heap.size wr W' → W'.cell? ⟨b', off + k, none⟩ = some (.int .i64 z) := fun W' hb => keepcell hb hcw
          have HZ := Lib.hid (fun (W' : World) (hb : Below w.heap.size w W') => ((hb.cell (p := ⟨b', off + k, none⟩) hlt').trans (hcs k z hzk) : W'.cell? ⟨b', off + k, none⟩ = some (.int .i64 z)))
          clear hz0 hcs hzk
          by_cases hzz : z = 0
          · subst hzz
            obtain ⟨y, g, m, s, hT⟩ : ∃ y g m s, Vp.take a = (y, g, m, s) := ⟨_, _, _, _, rfl⟩
            have HY := Lib.hid (tookV_of hT)
            have HD := Lib.hid (fun W1 hx hB => refTake_any HP.out (by omega) hT W1 hx hB)
            have y1 : (g != g) = false := by simp
            have y2 : (m != m) = false := by simp
            have y3 : (s != s) = false := by simp
            clear hT
            go_wp2_with fail
            refine (take_any b F a _ wr HP.out.vc.ar (by omega)).mono ?_
            intro e w5 ht
            have P5 := Lib.hid (HP.out.took ht)
            obtain ⟨rfl, hx⟩ := ht
            rw [HY.out.1]
            rw [HY.out.2] at P5
            clear hx hcw
            have d0 := P5.out.cel.c0
            have d1 := P5.out.cel.c1
            have d2 := P5.out.cel.c2
            have d3 := P5.out.cel.c3
            go_wp2_with fail
            refine (HD.out w5 P5.out.x8 P5.out.free').mono ?_
            rintro e w6 ⟨B1', m1, e1, B2', m2, e2, B3', m3, e3, rfl, hX, hb6⟩
            have hb7 := below_new w6 (.cells #[.int .i64 y.room, .slice B1' m1 e1, .slice B2' m2 e2, .slice B3' m3 e3] 29)
            have P6 := (P5.out.step hb6).step hb7
            have d0 := P6.cel.c0
            have d1 := P6.cel.c1
            have d2 := P6.cel.c2
            have d3 := P6.cel.c3
            have rz := P6.cel.z
            have q0 := rz 0
            have q1 := rz 1
            have q2 := rz 2
            have q3 := rz 3
            have P7 := Lib.hid (P6.put (hX.step hb7))
            unfold put4 at P7
            clear hX hb6 hb7 P6 rz P5
            go_wp2_with fail
            generalize (((((w6.alloc (.cells #[.int .i64 y.room, .slice B1' m1 e1, .slice B2' m2 e2, .slice B3' m3 e3] 29)).setCell ⟨d, 0, none⟩ (.int .i64 y.room)).setCell ⟨d, 1, none⟩ (.slice B1' m1 e1)).setCell ⟨d, 2, none⟩ (.slice B2' m2 e2)).setCell ⟨d, 3, none⟩ (.slice B3' m3 e3)) = wq at P7 ⊢
            have P8 : Hid (Pv w wq b d F y y ((k + 1 : Nat) : Int) B1' m1 e1 B2' m2 e2 B3' m3 e3) := P7
            clear d0 d1 d2 d3 q0 q1 q2 q3 P7
            have bz : Below wq.heap.size wq wq.drew := (Below.refl _ _).drew
            obtain ⟨q, hq⟩ : ∃ q, q = y.live.contains (0 : Int) := ⟨_, rfl⟩
            obtain ⟨gq, hgq⟩ : ∃ gq, gq = Vp.gen y (0 : Int) := ⟨_, rfl⟩
            have HQ := Lib.hid hq
            have HGQ := Lib.hid hgq
            have HLN := Lib.hid (show (y.live.length : Int) = (m1 : Int) by rw [P8.out.x8.l.len])
            have hm1 := P8.out.lens.1
            have x1 : (q != q) = false := by simp
            have x2 : (gq != gq) = false := by simp
            have x3 : ((m1 : Int) != (m1 : Int)) = false := by simp
            have SK := Lib.hid (fun (W' : World) (hb : Below wq.heap.size wq W') => (show W'.cell? ⟨d, 0, none⟩ = some (.int .i64 y.room) ∧ W'.cell? ⟨d, 1, none⟩ = some (.slice B1' m1 e1) ∧ W'.cell? ⟨d, 2, none⟩ = some (.slice B2' m2 e2) ∧ W'.cell? ⟨d, 3, none⟩ = some (.slice B3' m3 e3) ∧ W'.cell? ⟨b', off + k, none⟩ = some (.int .i64 (0 : Int)) from ⟨(P8.out.cel.step hb).c0, (P8.out.cel.step hb).c1, (P8.out.cel.step hb).c2, (P8.out.cel.step hb).c3, HZ.out _ (P8.out.vc.step hb).below⟩))
            clear hq hgq
            go_wp2_with fail
            go_region_held3 (fun w' => w'.cell? ⟨d, 0, none⟩ = some (.int .i64 y.room) ∧ w'.cell? ⟨d, 1, none⟩ = some (.slice B1' m1 e1) ∧ w'.cell? ⟨d, 2, none⟩ = some (.slice B2' m2 e2) ∧ w'.cell? ⟨d, 3, none⟩ = some (.slice B3' m3 e3) ∧ w'.cell? ⟨b', off + k, none⟩ = some (.int .i64 (0 : Int)))
              (first
                | (exact SK.out _ bX)
                | (exact SK.out _ bz)
                | go_keep)
              (first
                | (go_at_call 16; refine (live_any b F y _ (0 : Int) _ (P8.out.vc.ar.step bz) z64.out).mono ?_; rintro e u1 ⟨rfl, hbY⟩; rw [← HQ.out]; have bX := bz.trans (hbY.mono (Nat.le_refl _)); have b1 := bX; clear hbY)
                | (go_at_call 17; refine (in_any B1' m1 e1 y.live (0 : Int) _ _ (Lib.hid P8.out.x8.l.len) (by omega) (P8.out.x8.l.below b1).row).mono ?_; rintro e u2 ⟨rfl, rfl⟩; rw [show Tp.has y.live (0 : Int) = q from HQ.out.symm])
                | (go_at_call 18; refine (gen_any b F y _ (0 : Int) _ (P8.out.vc.ar.step b1)).mono ?_; rintro e u3 ⟨rfl, rfl⟩; rw [← HGQ.out])
                | (go_at_call 19; refine (refGen_any y.room _ _ B3' m3 e3 y (0 : Int) _ (P8.out.x8.g.below b1)).mono ?_; rintro e u4 ⟨rfl, hbY⟩; rw [← HGQ.out]; have bX := b1.trans (hbY.mono b1.size); have b2 := bX; clear hbY)
                | (go_at_call 20; refine (count_any b F y _ _ (P8.out.vc.ar.step b2)).mono ?_; rintro e u5 ⟨rfl, rfl⟩; rw [HLN.out]))
            all_goals
              rename_i hHeld
              clear hHeld
              have P9 := Lib.hid (P8.out.step b2)
              clear b1 b2 bX bz
              go_wp2_with fail
              go_roundw
              case rel => exact ⟨k + 1, F, y, _, _, _, _, _, _, _, _, _, by omega, by omega, by go_num, P9⟩
              case measure => simp [intOf]; omega
          · have hzz' : (z == 0) = false := by rw [beq_eq_false_iff_ne]; exact hzz
            go_wp2_with fail
            obtain ⟨y, s, hT⟩ : ∃ y s, Vp.free a z = (y, s) := ⟨_, _, rfl⟩
            have HS := Lib.hid (show a.live.contains z = s by have : (Vp.free a z).2 = s := by rw [hT]
                                                              rw [← this]; unfold Vp.free; split <;> simp_all)
            have HY := Lib.hid (show (Vp.free a z).1 = y by rw [hT])
            have HD := Lib.hid (fun F' W1 hx hB => refFree_any HP.out hT F' W1 hx hB)
            have y3 : (s != s) = false := by simp
            clear hT
            refine (free_any b F a _ z wr HP.out.vc.ar z64.out).mono ?_
            rintro e w5 ⟨rfl, F5, h1, h2, h3⟩
            have P5 := Lib.hid (HP.out.freed h1 h2 h3)
            rw [HY.out] at P5
            rw [HS.out]
            have hcw := HZ.out w5 P5.out.vc.below
            have d0 := P5.out.cel.c0
            have d1 := P5.out.cel.c1
            have d2 := P5.out.cel.c2
            have d3 := P5.out.cel.c3
            clear h1 h2 h3
            go_wp2_with fail
            have SK := Lib.hid (fun (W' : World) (hb : Below w5.heap.size w5 W') => (show W'.cell? ⟨d, 0, none⟩ = some (.int .i64 a.room) ∧ W'.cell? ⟨d, 1, none⟩ = some (.slice A1 n1 c1) ∧ W'.cell? ⟨d, 2, none⟩ = some (.slice A2 n2 c2) ∧ W'.cell? ⟨d, 3, none⟩ = some (.slice A3 n3 c3) ∧ W'.cell? ⟨b', off + k, none⟩ = some (.int .i64 z) from ⟨(P5.out.cel.step hb).c0, (P5.out.cel.step hb).c1, (P5.out.cel.step hb).c2, (P5.out.cel.step hb).c3, HZ.out _ (P5.out.vc.step hb).below⟩))
            have HXA := Lib.hid (show X8 (w5.alloc (.cells #[.int .i64 0, .slice none 0 0, .slice none 0 0, .slice none 0 0] 29)).drew (fun j => ¬ (F5 j ∨ j = w5.heap.size) ∧ j ≠ d) A1 n1 c1 A2 n2 c2 A3 n3 c3 a from P5.out.x8.keep (by simp) (fun j hj _ => (below_new w5 _).block j hj) (fun j hj hP => ⟨fun f => f.elim hP.1 (fun e => by omega), hP.2⟩))
            have HBA := Lib.hid (show ∀ j, (w5.alloc (.cells #[.int .i64 0, .slice none 0 0, .slice none 0 0, .slice none 0 0] 29)).drew.heap.size ≤ j → ¬ (F5 j ∨ j = w5.heap.size) ∧ j ≠ d by
              intro j hj
              have hj' : w5.heap.size + 1 ≤ j := by simpa using hj
              have := P5.out.free' j (by omega)
              exact ⟨fun f => f.elim this.1 (fun e => by omega), this.2⟩)
            go_region_held3 (fun w' => w'.cell? ⟨d, 0, none⟩ = some (.int .i64 a.room) ∧ w'.cell? ⟨d, 1, none⟩ = some (.slice A1 n1 c1) ∧ w'.cell? ⟨d, 2, none⟩ = some (.slice A2 n2 c2) ∧ w'.cell? ⟨d, 3, none⟩ = some (.slice A3 n3 c3) ∧ w'.cell? ⟨b', off + k, none⟩ = some (.int .i64 z))
              (first
                | (exact SK.out _ (Below.refl _ _).drew)
                | (exact SK.out _ ((below_new _ _).drew))
                | (exact SK.out _ bX)
                | (exact SK.out _ (bX.alloc bX.size _))
                | (exact SK.out _ (below_put4 bX (Nat.le_refl _) _ _ _ _))
                | (exact SK.out _ (below_put4 (bX.alloc bX.size _) bX.size _ _ _ _))
                | go_keep)
              (first
                | (go_at_call 15; refine (HD.out F5 w5.drew (P5.out.x8.step (Below.refl _ _).drew) (fun j hj => P5.out.free' j hj)).mono ?_; rintro e w6 ⟨B1', m1, e1, B2', m2, e2, B3', m3, e3, rfl, hX, hb6⟩; have bX : Below w5.heap.size w5 w6 := (Below.refl _ _).drew.trans hb6)
                | (go_at_call 15; refine (HD.out (fun j => F5 j ∨ j = w5.heap.size) (w5.alloc (.cells #[.int .i64 0, .slice none 0 0, .slice none 0 0, .slice none 0 0] 29)).drew HXA.out HBA.out).mono ?_; rintro e w6 ⟨B1', m1, e1, B2', m2, e2, B3', m3, e3, rfl, hX, hb6⟩; have bX : Below w5.heap.size w5 w6 := (below_new w5 _).drew.trans (hb6.mono (by simp)); have CB : Cel8 w6 w5.heap.size (.int .i64 0) (.slice none 0 0) (.slice none 0 0) (.slice none 0 0) := (Cel8.new w5 (.int .i64 0) (.slice none 0 0) (.slice none 0 0) (.slice none 0 0) 29).keep (hb6.block w5.heap.size (by simp)); have n0 := CB.c0; have n1' := CB.c1; have n2' := CB.c2; have n3' := CB.c3; have g0 := CB.z 0; have g1 := CB.z 1; have g2 := CB.z 2; have g3 := CB.z 3))
            all_goals (rename_i hHeld; clear hHeld)
            · clear hzz'
              have hb7 := below_new w6 (.cells #[.int .i64 y.room, .slice B1' m1 e1, .slice B2' m2 e2, .slice B3' m3 e3] 29)
              have P6 := (P5.out.step bX).step hb7
              have d0 := P6.cel.c0
              have d1 := P6.cel.c1
              have d2 := P6.cel.c2
              have d3 := P6.cel.c3
              have rz := P6.cel.z
              have q0 := rz 0
              have q1 := rz 1
              have q2 := rz 2
              have q3 := rz 3
              have P7 := Lib.hid (P6.put (hX.step hb7))
              unfold put4 at P7
              clear hb7
              go_wp2_with fail
              generalize (((((w6.alloc (.cells #[.int .i64 y.room, .slice B1' m1 e1, .slice B2' m2 e2, .slice B3' m3 e3] 29)).setCell ⟨d, 0, none⟩ (.int .i64 y.room)).setCell ⟨d, 1, none⟩ (.slice B1' m1 e1)).setCell ⟨d, 2, none⟩ (.slice B2' m2 e2)).setCell ⟨d, 3, none⟩ (.slice B3' m3 e3)) = wq at P7 ⊢
              have P8 : Hid (Pv w wq b d F5 y y ((k + 1 : Nat) : Int) B1' m1 e1 B2' m2 e2 B3' m3 e3) := Lib.hid (P7.out.mono (by omega))
              clear d0 d1 d2 d3 q0 q1 q2 q3 P7 bX hX P6 rz P5 hcw hb6 SK HXA HBA
              have bz : Below wq.heap.size wq wq.drew := (Below.refl _ _).drew
              obtain ⟨q, hq⟩ : ∃ q, q = y.live.contains z := ⟨_, rfl⟩
              obtain ⟨gq, hgq⟩ : ∃ gq, gq = Vp.gen y z := ⟨_, rfl⟩
              have HQ := Lib.hid hq
              have HGQ := Lib.hid hgq
              have HLN := Lib.hid (show (y.live.length : Int) = (m1 : Int) by rw [P8.out.x8.l.len])
              have hm1 := P8.out.lens.1
              have x1 : (q != q) = false := by simp
              have x2 : (gq != gq) = false := by simp
              have x3 : ((m1 : Int) != (m1 : Int)) = false := by simp
              have SK := Lib.hid (fun (W' : World) (hb : Below wq.heap.size wq W') => (show W'.cell? ⟨d, 0, none⟩ = some (.int .i64 y.room) ∧ W'.cell? ⟨d, 1, none⟩ = some (.slice B1' m1 e1) ∧ W'.cell? ⟨d, 2, none⟩ = some (.slice B2' m2 e2) ∧ W'.cell? ⟨d, 3, none⟩ = some (.slice B3' m3 e3) ∧ W'.cell? ⟨b', off + k, none⟩ = some (.int .i64 z) from ⟨(P8.out.cel.step hb).c0, (P8.out.cel.step hb).c1, (P8.out.cel.step hb).c2, (P8.out.cel.step hb).c3, HZ.out _ (P8.out.vc.step hb).below⟩))
              clear hq hgq
              go_wp2_with fail
              go_region_held3 (fun w' => w'.cell? ⟨d, 0, none⟩ = some (.int .i64 y.room) ∧ w'.cell? ⟨d, 1, none⟩ = some (.slice B1' m1 e1) ∧ w'.cell? ⟨d, 2, none⟩ = some (.slice B2' m2 e2) ∧ w'.cell? ⟨d, 3, none⟩ = some (.slice B3' m3 e3) ∧ w'.cell? ⟨b', off + k, none⟩ = some (.int .i64 z))
                (first
                  | (exact SK.out _ bX)
                  | (exact SK.out _ bz)
                  | go_keep)
                (first
                  | (go_at_call 16; refine (live_any b F5 y _ z _ (P8.out.vc.ar.step bz) z64.out).mono ?_; rintro e u1 ⟨rfl, hbY⟩; rw [← HQ.out]; have bX := bz.trans (hbY.mono (Nat.le_refl _)); have b1 := bX; clear hbY)
                  | (go_at_call 17; refine (in_any B1' m1 e1 y.live z _ _ (Lib.hid P8.out.x8.l.len) (by omega) (P8.out.x8.l.below b1).row).mono ?_; rintro e u2 ⟨rfl, rfl⟩; rw [show Tp.has y.live z = q from HQ.out.symm])
                  | (go_at_call 18; refine (gen_any b F5 y _ z _ (P8.out.vc.ar.step b1)).mono ?_; rintro e u3 ⟨rfl, rfl⟩; rw [← HGQ.out])
                  | (go_at_call 19; refine (refGen_any y.room _ _ B3' m3 e3 y z _ (P8.out.x8.g.below b1)).mono ?_; rintro e u4 ⟨rfl, hbY⟩; rw [← HGQ.out]; have bX := b1.trans (hbY.mono b1.size); have b2 := bX; clear hbY)
                  | (go_at_call 20; refine (count_any b F5 y _ _ (P8.out.vc.ar.step b2)).mono ?_; rintro e u5 ⟨rfl, rfl⟩; rw [HLN.out]))
              all_goals
                rename_i hHeld
                clear hHeld
                have P9 := Lib.hid (P8.out.step b2)
                clear b1 b2 bX bz
                go_wp2_with fail
                go_roundw
                case rel => exact ⟨k + 1, F5, y, _, _, _, _, _, _, _, _, _, by omega, by omega, by go_num, P9⟩
                case measure => simp [intOf]; omega
            · clear hzz'
              have P6 := P5.out.step (below_put4 bX (Nat.le_refl _) (.int .i64 y.room) (.slice B1' m1 e1) (.slice B2' m2 e2) (.slice B3' m3 e3))
              have d0 := P6.cel.c0
              have d1 := P6.cel.c1
              have d2 := P6.cel.c2
              have d3 := P6.cel.c3
              have rz := P6.cel.z
              have q0 := rz 0
              have q1 := rz 1
              have q2 := rz 2
              have q3 := rz 3
              have CC := CB.put (.int .i64 y.room) (.slice B1' m1 e1) (.slice B2' m2 e2) (.slice B3' m3 e3)
              have k0 := CC.c0
              have k1 := CC.c1
              have k2 := CC.c2
              have k3 := CC.c3
              have P7 := Lib.hid (P6.put (hX.keep (by rw [put4_size]; exact Nat.le_refl _) (fun j hj hP => put4_block _ _ _ _ _ _ _ (fun e => hP.1 (.inr e))) (fun j hj hP => ⟨fun f => hP.1 (.inl f), hP.2⟩)))
              unfold put4 at P7 d0 d1 d2 d3 q0 q1 q2 q3 k0 k1 k2 k3
              clear CB CC n0 n1' n2' n3' g0 g1 g2 g3
              go_wp2_with fail
              generalize ((((((((w6.setCell ⟨w5.heap.size, 0, none⟩ (.int .i64 y.room)).setCell ⟨w5.heap.size, 1, none⟩ (.slice B1' m1 e1)).setCell ⟨w5.heap.size, 2, none⟩ (.slice B2' m2 e2)).setCell ⟨w5.heap.size, 3, none⟩ (.slice B3' m3 e3)).setCell ⟨d, 0, none⟩ (.int .i64 y.room)).setCell ⟨d, 1, none⟩ (.slice B1' m1 e1)).setCell ⟨d, 2, none⟩ (.slice B2' m2 e2)).setCell ⟨d, 3, none⟩ (.slice B3' m3 e3)) = wq at P7 ⊢
              have P8 : Hid (Pv w wq b d F5 y y ((k + 1 : Nat) : Int) B1' m1 e1 B2' m2 e2 B3' m3 e3) := Lib.hid (P7.out.mono (by omega))
              clear k0 k1 k2 k3 d0 d1 d2 d3 q0 q1 q2 q3 P7 bX hX P6 rz P5 hcw hb6 SK HXA HBA
              have bz : Below wq.heap.size wq wq.drew := (Below.refl _ _).drew
              obtain ⟨q, hq⟩ : ∃ q, q = y.live.contains z := ⟨_, rfl⟩
              obtain ⟨gq, hgq⟩ : ∃ gq, gq = Vp.gen y z := ⟨_, rfl⟩
              have HQ := Lib.hid hq
              have HGQ := Lib.hid hgq
              have HLN := Lib.hid (show (y.live.length : Int) = (m1 : Int) by rw [P8.out.x8.l.len])
              have hm1 := P8.out.lens.1
              have x1 : (q != q) = false := by simp
              have x2 : (gq != gq) = false := by simp
              have x3 : ((m1 : Int) != (m1 : Int)) = false := by simp
              have SK := Lib.hid (fun (W' : World) (hb : Below wq.heap.size wq W') => (show W'.cell? ⟨d, 0, none⟩ = some (.int .i64 y.room) ∧ W'.cell? ⟨d, 1, none⟩ = some (.slice B1' m1 e1) ∧ W'.cell? ⟨d, 2, none⟩ = some (.slice B2' m2 e2) ∧ W'.cell? ⟨d, 3, none⟩ = some (.slice B3' m3 e3) ∧ W'.cell? ⟨b', off + k, none⟩ = some (.int .i64 z) from ⟨(P8.out.cel.step hb).c0, (P8.out.cel.step hb).c1, (P8.out.cel.step hb).c2, (P8.out.cel.step hb).c3, HZ.out _ (P8.out.vc.step hb).below⟩))
              clear hq hgq
              go_wp2_with fail
              go_region_held3 (fun w' => w'.cell? ⟨d, 0, none⟩ = some (.int .i64 y.room) ∧ w'.cell? ⟨d, 1, none⟩ = some (.slice B1' m1 e1) ∧ w'.cell? ⟨d, 2, none⟩ = some (.slice B2' m2 e2) ∧ w'.cell? ⟨d, 3, none⟩ = some (.slice B3' m3 e3) ∧ w'.cell? ⟨b', off + k, none⟩ = some (.int .i64 z))
                (first
                  | (exact SK.out _ bX)
                  | (exact SK.out _ bz)
                  | go_keep)
                (first
                  | (go_at_call 16; refine (live_any b F5 y _ z _ (P8.out.vc.ar.step bz) z64.out).mono ?_; rintro e u1 ⟨rfl, hbY⟩; rw [← HQ.out]; have bX := bz.trans (hbY.mono (Nat.le_refl _)); have b1 := bX; clear hbY)
                  | (go_at_call 17; refine (in_any B1' m1 e1 y.live z _ _ (Lib.hid P8.out.x8.l.len) (by omega) (P8.out.x8.l.below b1).row).mono ?_; rintro e u2 ⟨rfl, rfl⟩; rw [show Tp.has y.live z = q from HQ.out.symm])
                  | (go_at_call 18; refine (gen_any b F5 y _ z _ (P8.out.vc.ar.step b1)).mono ?_; rintro e u3 ⟨rfl, rfl⟩; rw [← HGQ.out])
                  | (go_at_call 19; refine (refGen_any y.room _ _ B3' m3 e3 y z _ (P8.out.x8.g.below b1)).mono ?_; rintro e u4 ⟨rfl, hbY⟩; rw [← HGQ.out]; have bX := b1.trans (hbY.mono b1.size); have b2 := bX; clear hbY)
                  | (go_at_call 20; refine (count_any b F5 y _ _ (P8.out.vc.ar.step b2)).mono ?_; rintro e u5 ⟨rfl, rfl⟩; rw [HLN.out]))
              all_goals
                rename_i hHeld
                clear hHeld
                have P9 := Lib.hid (P8.out.step b2)
                clear b1 b2 bX bz
                go_wp2_with fail
                go_roundw
                case rel => exact ⟨k + 1, F5, y, _, _, _, _, _, _, _, _, _, by omega, by omega, by go_num, P9⟩
                case measure => simp [intOf]; omega
        · obtain rfl : k = 300 := by omega
          rw [show ((300 : Nat) : Int) = 300 from rfl]
          go_wp2_with fail
          go_ret
          exact ⟨rfl, HP.out.vc.below⟩
      · obtain rfl : k = N := by omega
        go_wp2_with fail
        go_ret
        exact ⟨rfl, HP.out.vc.below⟩
  · go_wp2_with fail
    refine (new_no r w1 hr).mono ?_
    rintro e w2 ⟨rfl, rfl⟩
    go_wp2_with fail
    refine (refNew_no r w1 hr).mono ?_
    rintro e w2 ⟨rfl, hb2⟩
    have B2 := Lib.hid (B1.out.trans (hb2.mono B1.out.size))
    clear hb2
    go_wp2_with fail
    have B3 := Lib.hid (B2.out.alloc B2.out.size (.cells #[.int .i64 0, .slice none 0 0, .slice none 0 0, .slice none 0 0] 29))
    generalize w2.alloc (.cells #[.int .i64 0, .slice none 0 0, .slice none 0 0, .slice none 0 0] 29) = w4 at B3 ⊢
    go_loopw [10] (fun i wr => i = .int .i64 0 ∧ wr = w4) (fun i _ => 0)
    case atStart => exact ⟨rfl, rfl⟩
    case round =>
      obtain ⟨rfl, rfl⟩ := hrel
      by_cases hlt : 0 < N
      · have hlt' : (0 : Int) < (N : Int) := by omega
        go_wp2_with fail
        go_ret
        exact ⟨rfl, B3.out⟩
      · have hlt' : ¬ (0 : Int) < (N : Int) := by omega
        go_wp2_with fail
        go_ret
        exact ⟨rfl, B3.out⟩
set_option maxRecDepth 100000 in
theorem lifted (os : Os) (started : os.Started) (H : Type) (enc : TypeId × Value → H) :
    ReturnsInHanded {} Try.checked os 3 .any (Rows.arenaPlaysSpec.pre6 enc Try.prog Try.f3 Rows.arenaPlaysRow.domain false) (Rows.arenaPlaysSpec.post enc Try.prog Try.f3 false true false false) := by
  refine returnsInHanded_of_change (C := Try.checked) own started (by kernel_rfl) Try.func3
    (ChangeSpec.witness6 (enc := enc) (C := Try.checked) false ⟨#[], #[.int .i64 0, .slice none 0 0], []⟩ 8 (by kernel_rfl) (by kernel_rfl) (by kernel_rfl) (by kernel_rfl)) ?_
  intro W base args ds gs before hval0 hW hcnd _
  have hval : ∀ (j : Nat) t v, Try.f3.params[j]? = some t → args[j]? = some v → Value.okWide Try.prog W .any base t v := hval0
  have hW' := hW
  obtain ⟨p, q, hA0, hV, rfl, hfz, hnd⟩ := hW
  have hA : DataW.TrodAll enc Try.prog W 0 (fun _ => true) true Try.f3.params.toList args.toList ds p := hA0
  rw [Try.params3] at hA hval
  obtain ⟨v0, vs0, d0, ds0, p0, q0, hargs, rfl, rfl, h0, r0⟩ := trodAll_cons hA
  obtain ⟨v1, vs1, d1, ds1, p1, q1, rfl, rfl, rfl, h1, r1⟩ := trodAll_cons r0
  obtain ⟨rfl, rfl, rfl⟩ := trodAll_nil r1
  obtain rfl : args = #[v0, v1] := by cases args; simp_all
  obtain ⟨rfl, rfl⟩ := trodVars_none hV
  obtain ⟨a0, rfl, rfl, rfl, w0⟩ := open_int Try.underlying3 (hval 0 3 v0 rfl rfl) h0
  have k1 := h1
  have lt1 : ∀ x ∈ p1, x.block < W.heap.size := by obtain ⟨m, hm⟩ := k1; exact DataW.trod_lt m _ _ _ hm
  obtain ⟨a1, len1, cap1, rfl⟩ := okWide_slice Try.underlying22 (hval 1 22 v1 rfl rfl)
  obtain ⟨aa1, ll1, cc1, z1, ev1, hr1⟩ : ∃ A n c zs, Value.slice a1 len1 cap1 = .slice A n c ∧ Row W A n c zs ∧ Hid (∀ z ∈ zs, In64 z) := by
    obtain ⟨fuel, hf⟩ := h1
    exact open_list64 (by simpa [Value.cells] using hf)
  injection ev1 with ea1 eb1 ec1
  subst ea1 eb1 ec1
  clear hA0 hval0
  refine (walk a0 a1 len1 cap1 z1 W (in64_of_wf w0) hr1.1 hr1.2).mono fun e W' ⟨he, bel⟩ => ?_
  subst he
  exact ⟨_, rfl, _, _, _, [], _, [], hW', trodAll_mk1 (shut_bool Try.underlying4 _), (trodAll_cons_mk (shut_int Try.underlying3 w0) (trodAll_cons_mk (Below.trod laidOut (by kernel_rfl) (of_decide_eq_true (by kernel_rfl)) k1 bel lt1) trodAll_mk0)), rfl, bel.frame _, fun h => by cases h⟩
theorem over : Rows.arenaPlaysRow.holds Try.pinned (OpenSpec.ofChange Rows.arenaPlaysSpec) :=
  OpenClaim.holds_of_wide 3 Try.f3 rfl rfl rfl rfl rfl rfl rfl ⟨rfl, rfl, rfl, rfl, rfl⟩ rfl rfl rfl rfl rfl (by kernel_rfl) Try.func3 (by kernel_rfl)
    (of_decide_eq_true (by kernel_rfl)) (by unfold Func.isWrapper; first | (rw [if_pos (by decide +kernel)]; kernel_rfl) | (rw [if_neg (by decide +kernel)]; exact ⟨rfl, rfl⟩))
    (fun os started H enc _ => lifted os started H enc)
theorem proved : Rows.ArenaPlaysSaid := over
end Go.Proofs.Ytncmliojndgoiaa.arenaPlays

