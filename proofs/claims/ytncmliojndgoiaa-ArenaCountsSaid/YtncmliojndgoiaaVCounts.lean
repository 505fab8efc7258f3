/- ArenaCounts: as many live as were taken and not freed; a generation is how often its number was taken: the call answers true and changes nothing that was there; for every input. -/
import Derived.Test.YtncmliojndgoiaaVCel
import Derived.Test.YtncmliojndgoiaaFrame
namespace Go.Proofs.Ytncmliojndgoiaa.arenaCounts
open Go.ChangeShapes Go.WideShapes Go.ChangeAt Go.RowKit
set_option linter.unusedVariables false

/-- Block d counts how often each number was taken: its generation. -/
structure Tk (W : World) (F : Nat → Prop) (B d : Nat) (a : Vp.Ar) : Prop where
  cell : ∀ j : Nat, j < 10 → W.cell? ⟨d, j, none⟩ = some (.int .i64 (Vp.gen a j))
  frz : ∀ j, W.frozen? ⟨d, j, none⟩ = false
  far : ¬ F d
  low : B ≤ d
theorem Tk.lt {W : World} {F : Nat → Prop} {B d : Nat} {a : Vp.Ar} (h : Tk W F B d a) : d < W.heap.size := World.block_lt_of_cell? W ⟨d, 0, none⟩ (h.cell 0 (by omega))
theorem Tk.step {W W' : World} {F : Nat → Prop} {B d : Nat} {a : Vp.Ar} (h : Tk W F B d a) (hb : Below W.heap.size W W') : Tk W' F B d a :=
  ⟨fun j hj => keepcell hb (h.cell j hj), fun j => (hb.frozen (p := ⟨d, j, none⟩) h.lt).trans (h.frz j), h.far, h.low⟩
theorem Tk.kept {W W' : World} {F F' : Nat → Prop} {B d : Nat} {a : Vp.Ar} (h : Tk W F B d a) (hk : Kept F W W') (hF : ∀ k, F' k → F k ∨ W.heap.size ≤ k) : Tk W' F' B d a :=
  ⟨fun j hj => hk.cell (h.cell j hj) h.far, fun j => (World.frozen?_of_block (w := W) (hk.block d h.lt h.far)).trans (h.frz j), fun f => by
    rcases hF d f with f | f
    · exact h.far f
    · have := h.lt; omega, h.low⟩
theorem Tk.new {W : World} {F : Nat → Prop} {B n : Nat} (T : TypeId) (hF : ∀ j, F j → j < W.heap.size) (hB : B ≤ W.heap.size) :
    Tk (W.alloc (.cells #[.int .i64 0, .int .i64 0, .int .i64 0, .int .i64 0, .int .i64 0, .int .i64 0, .int .i64 0, .int .i64 0, .int .i64 0, .int .i64 0] T)) F B W.heap.size (Vp.new n) := by
  refine ⟨fun j hj => ?_, fun j => by rw [World.frozen?_alloc_at _ _ _ _ rfl], fun f => by have := hF _ f; omega, hB⟩
  rw [World.cell?_alloc_at _ _ _ _ rfl, gen_new]
  match j, hj with
  | 0, _ => rfl
  | 1, _ => rfl
  | 2, _ => rfl
  | 3, _ => rfl
  | 4, _ => rfl
  | 5, _ => rfl
  | 6, _ => rfl
  | 7, _ => rfl
  | 8, _ => rfl
  | 9, _ => rfl
theorem Tk.free {W : World} {F : Nat → Prop} {B d : Nat} {a : Vp.Ar} {g : Int} (h : Tk W F B d a) : Tk W F B d (Vp.free a g).1 := ⟨fun j hj => by rw [Vp.gen_free]; exact h.cell j hj, h.frz, h.far, h.low⟩
theorem Tk.take {W : World} {F : Nat → Prop} {B d k p : Nat} {a : Vp.Ar} (h : Tk W F B d a) (hk : Vp.Ok a k) (hp : Vp.pick a = p) (hp0 : 1 ≤ p) (hp9 : p ≤ 9) : Tk (W.setCell ⟨d, p, none⟩ (.int .i64 (Vp.gen a p + 1))) F B d (Vp.take a).1 := by
  have hne : Vp.pick a ≠ 0 := by omega
  refine ⟨fun j hj => ?_, fun j => by rw [World.frozen?_setCell]; exact h.frz j, h.far, h.low⟩
  by_cases e : j = p
  · subst e
    rw [show Vp.gen (Vp.take a).1 (j : Int) = Vp.gen a j + 1 from by rw [← hp]; exact hk.gen_self hne]
    exact World.cell?_setCell_same' _ _ _ (by rw [h.cell j hj]; rfl)
  · rw [hk.gen_other hne (g := (j : Int)) (by omega)]
    exact (World.cell?_setCell_other _ _ _ _ (fun e' => by injection e' with _ e'; omega)).trans (h.cell j hj)
theorem setTk {w W : World} {b d p : Nat} {F : Nat → Prop} {a a' : Vp.Ar} {t : Int} {u : Value} (h : VC w W b F a t) (hk : Tk W F w.heap.size d a') : VC w (W.setCell ⟨d, p, none⟩ u) b F a t :=
  ⟨h.ar.set (p := ⟨d, p, none⟩) hk.far u, h.low, h.below.setCell (p := ⟨d, p, none⟩) hk.low u⟩
theorem free_len {a : Vp.Ar} {k : Nat} {g : Int} (h : Vp.Ok a k) (hg : g ∈ a.live) : ((Vp.free a g).1.live.length : Int) = (a.live.length : Int) - 1 := by
  have := Vp.without_len h.live hg
  rw [Vp.free_some hg]
  simp only
  omega
theorem room_free (a : Vp.Ar) (g : Int) : (Vp.free a g).1.room = a.room := by
  unfold Vp.free; split <;> rfl
theorem room_take (a : Vp.Ar) : (Vp.take a).1.room = a.room := by
  unfold Vp.take; split <;> rfl
theorem len9 {W : World} {b : Nat} {F : Nat → Prop} {a : Vp.Ar} {t : Int} (h : VAr W b F a t) (hr : a.room = 9) : a.live.length ≤ 9 := by
  obtain ⟨k, hk⟩ := h.ok
  have := hk.count
  have := hk.most
  omega
set_option maxHeartbeats 4000000 in
set_option maxRecDepth 100000 in
theorem walk (A : Option Addr) (N c : Nat) (zs : List Int) (w : World) (hn : Hid (zs.length = N)) (hl : N ≤ 9223372036854775807) (hr : BRow w A zs) :
    Calls Try.prog 7 #[.slice A N c] w fun e w' => e = .returned (.bool true) ∧ Below w.heap.size w w' := by
  have HR := Lib.hid hr
  clear hr
  go_enter Try.func7, Try.ntmps7
  go_wp2_with fail
  refine (shown_any _).mono ?_
  rintro e w1 ⟨rfl, hb1⟩
  have B1 := Lib.hid hb1
  clear hb1
  go_wp2_with fail
  refine (new_yes 9 w1 (by omega) (by omega)).mono ?_
  intro e w2 hN
  have C1 := Lib.hid (VC.new B1.out hN)
  obtain ⟨rfl, hx⟩ := hN
  clear hx
  generalize w1.heap.size + 1 = b at C1 ⊢
  generalize (fun k => k = w1.heap.size ∨ k = b) = F at C1
  have K1 := Lib.hid (Tk.new (B := w.heap.size) (n := 9) 47 C1.out.ar.lt C1.out.below.size)
  have C2 := Lib.hid (C1.out.step (below_new w2 (.cells #[.int .i64 0, .int .i64 0, .int .i64 0, .int .i64 0, .int .i64 0, .int .i64 0, .int .i64 0, .int .i64 0, .int .i64 0, .int .i64 0] 47)))
  go_wp2_with fail
  generalize w2.alloc (.cells #[.int .i64 0, .int .i64 0, .int .i64 0, .int .i64 0, .int .i64 0, .int .i64 0, .int .i64 0, .int .i64 0, .int .i64 0, .int .i64 0] 47) = W2 at K1 C2 ⊢
  generalize w2.heap.size = d at K1 ⊢
  go_loopw [6, 8] (fun v i wr => ∃ (k : Nat) (F : Nat → Prop) (a : Vp.Ar), k ≤ N ∧ k ≤ 300 ∧ i = .int .i64 k ∧ v = .int .i64 a.live.length ∧ a.room = 9 ∧ Hid (VC w wr b F a k) ∧ Hid (Tk wr F w.heap.size d a)) (fun _ i _ => 300 - (intOf i).toNat)
  case atStart => exact ⟨0, F, Vp.new 9, Nat.zero_le _, Nat.zero_le _, rfl, rfl, rfl, C2, K1⟩
  case round =>
    obtain ⟨k, F, a, hk, hk2, rfl, rfl, hroom, HC, HK⟩ := hrel
    by_cases hlt : k < N
    · by_cases h300 : k < 300
      · obtain ⟨z, hz⟩ : ∃ z, zs[k]? = some z := ⟨_, List.getElem?_eq_getElem (by have := hn.out; omega)⟩
        obtain ⟨b', off, hAA, hlt', hc, y0, y1⟩ := HR.out k z hz
        subst hAA
        have hcw : wr.cell? ⟨b', off + k, none⟩ = some (.int .u8 z) := (HC.out.below.cell (p := ⟨b', off + k, none⟩) hlt').trans hc
        have hl9 := len9 HC.out.ar hroom
        obtain ⟨kk, hok⟩ := HC.out.ar.ok
        have HOK := Lib.hid hok
        clear hz hc hok
        obtain ⟨r, m1, hrn⟩ := mod_nat 3 y0 (by omega)
        have m1 : z.tmod 3 = (r : Int) := m1
        have m2 : z % 3 = (r : Int) := by rw [← m1, Int.tmod_eq_emod_of_nonneg y0]
        by_cases hr0 : r = 0
        · subst hr0
          have m1 : z.tmod 3 = 0 := m1
          have m2 : z % 3 = 0 := m2
          obtain ⟨q, hq⟩ : ∃ q : Nat, z / 3 = (q : Int) := ⟨(z / 3).toNat, by omega⟩
          have d1 : z.tdiv 3 = (q : Int) := by rw [Int.tdiv_eq_ediv_of_nonneg y0]; exact hq
          obtain ⟨g0, n1, hg9⟩ := mod_nat (z := (q : Int)) 9 (by omega) (by omega)
          have n1 : (q : Int).tmod 9 = (g0 : Int) := n1
          have n2 : (q : Int) % 9 = (g0 : Int) := by rw [← n1, Int.tmod_eq_emod_of_nonneg (by omega)]
          go_wp2_with fail
          obtain ⟨g, hg⟩ : ∃ g : Int, g = 1 + (g0 : Int) := ⟨_, rfl⟩
          rw [← hg]
          have hg1 : 1 ≤ g ∧ g ≤ 9 := by omega
          obtain ⟨hg1, hg2⟩ := hg1
          clear hg n1 n2 hq d1 m1 m2 hcw
          refine (free_any b F a _ g wr HC.out.ar (in64_small (by omega) (by omega))).mono ?_
          rintro e w5 ⟨rfl, F5, h1, h2, h3⟩
          have C5 := Lib.hid (HC.out.freed h1 h2 h3)
          have K5 := Lib.hid (Tk.free (g := g) (HK.out.kept h2 h3))
          have R5 := (room_free a g).trans hroom
          have J1 : k + 1 ≤ N := by omega
          have J2 : k + 1 ≤ 300 := by omega
          clear h1 h2 h3
          cases hh : a.live.contains g with
          | true =>
            have FL := Lib.hid (free_len HOK.out (List.contains_iff_mem.1 hh))
            have L5 := len9 C5.out.ar R5
            obtain ⟨a5, ha5⟩ : ∃ a5, a5 = (Vp.free a g).1 := ⟨_, rfl⟩
            rw [← ha5] at C5 K5 R5 FL L5
            have hwl : IntKind.i64.wrap ((a.live.length : Int) - 1) = (a.live.length : Int) - 1 := IntWalk.i64_in _ (by omega)
            have x3 : ((a.live.length : Int) - 1 != (a.live.length : Int) - 1) = false := by simp
            clear hh ha5 hroom
            go_wp2_with fail
            refine (count_any b F5 a5 _ w5 C5.out.ar).mono ?_
            rintro e w9 ⟨rfl, rfl⟩
            rw [FL.out]
            go_wp2_with fail
            go_roundw
            case rel => exact ⟨k + 1, F5, a5, J1, J2, by go_num, by rw [FL.out], R5, Lib.hid ⟨C5.out.ar.mono (by omega), C5.out.low, C5.out.below⟩, K5⟩
            case measure => simp [intOf]; omega
          | false =>
            have HA := Lib.hid (show (Vp.free a g).1 = a by rw [Vp.free_none (by rw [← Bool.not_eq_true, List.contains_iff_mem] at hh; exact hh)])
            rw [HA.out] at C5 K5 R5
            have x3 : ((a.live.length : Int) != (a.live.length : Int)) = false := by simp
            clear hh hroom
            go_wp2_with fail
            refine (count_any b F5 a _ w5 C5.out.ar).mono ?_
            rintro e w9 ⟨rfl, rfl⟩
            go_wp2_with fail
            go_roundw
            case rel => exact ⟨k + 1, F5, a, J1, J2, by go_num, rfl, R5, Lib.hid ⟨C5.out.ar.mono (by omega), C5.out.low, C5.out.below⟩, K5⟩
            case measure => simp [intOf]; omega
        · have hr0' : ((r : Int) == 0) = false := by rw [beq_eq_false_iff_ne]; omega
          have J1 : k + 1 ≤ N := by omega
          have J2 : k + 1 ≤ 300 := by omega
          by_cases hfull : Vp.pick a = 0
          · have hlen : a.live.length = 9 := by rw [← hroom]; exact HOK.out.full.1 hfull
            obtain ⟨tv, ta⟩ := tookV_of (Vp.take_none hfull)
            have HT := Lib.hid tv
            have HTA := Lib.hid ta
            have hl9' : (a.live.length : Int) = 9 := by omega
            have HLN := Lib.hid hl9'
            rw [hl9']
            clear tv ta hfull hlen hl9' hl9
            go_wp2_with fail
            refine (take_any b F a _ wr HC.out.ar (by omega)).mono ?_
            intro e w5 ht
            have C5 := Lib.hid (HC.out.took ht)
            have K5 := Lib.hid (HK.out.kept ht.2.2 (fun j hj => .inl hj))
            obtain ⟨rfl, hx⟩ := ht
            rw [HTA.out] at C5
            rw [HT.out]
            clear hx hcw m1 m2
            go_wp2_with fail
            refine (count_any b F a _ w5 C5.out.ar).mono ?_
            rintro e w9 ⟨rfl, rfl⟩
            rw [HLN.out]
            go_wp2_with fail
            go_roundw
            case rel => exact ⟨k + 1, F, a, J1, J2, by go_num, by rw [HLN.out], hroom, C5, K5⟩
            case measure => simp [intOf]; omega
          · have hp := HOK.out.pick_in hfull
            obtain ⟨p, hpp⟩ : ∃ p : Nat, Vp.pick a = p := ⟨(Vp.pick a).toNat, by omega⟩
            have hp1 : 1 ≤ p ∧ p ≤ 9 := by omega
            obtain ⟨hp1, hp2⟩ := hp1
            have hne9 : a.live.length < 9 := by
              have h1 : a.live.length ≠ 9 := fun e => hfull (HOK.out.full.2 (by rw [hroom]; exact e))
              omega
            obtain ⟨a5, ha5⟩ : ∃ a5, a5 = (Vp.take a).1 := ⟨_, rfl⟩
            have FL := Lib.hid (show (a5.live.length : Int) = (a.live.length : Int) + 1 by rw [ha5, Vp.take_some hfull]; simp)
            obtain ⟨gp, hgp⟩ : ∃ gp, gp = Vp.gen a p := ⟨_, rfl⟩
            have HT := Lib.hid (show tookV a = .tuple #[.int .i64 p, .int .i64 (gp + 1), .bool true] by unfold tookV; rw [Vp.take_some hfull, hpp, hgp])
            have KT := Lib.hid (fun (W : World) (F : Nat → Prop) (h : Tk W F w.heap.size d a) => h.take HOK.out hpp hp1 hp2)
            have R5 := (room_take a).trans hroom
            have gl := HC.out.ar.gen_le p (by omega)
            rw [← hgp] at KT gl
            rw [← ha5] at KT R5
            have HA5 := Lib.hid ha5
            have HGP := Lib.hid hgp
            have hwr : IntKind.i64.wrap (gp + 1) = gp + 1 := IntWalk.i64_in _ (by omega)
            have hwl : IntKind.i64.wrap ((a.live.length : Int) + 1) = (a.live.length : Int) + 1 := IntWalk.i64_in _ (by omega)
            have x3 : ((a.live.length : Int) + 1 != (a.live.length : Int) + 1) = false := by simp
            have d9 : decide ((a.live.length : Int) < 9) = true := by rw [decide_eq_true_eq]; omega
            have i1 : ¬ ((p : Int) < 1) := by omega
            have i2 : ¬ (9 < (p : Int)) := by omega
            have i3 : (p : Int) < 10 := by omega
            have e1 : decide ((p : Int) < 1) = false := by rw [decide_eq_false_iff_not]; omega
            have e2 : decide (9 < (p : Int)) = false := by rw [decide_eq_false_iff_not]; omega
            clear ha5 hgp hp hpp hfull hroom
            go_wp2_with fail
            refine (take_any b F a _ wr HC.out.ar (by omega)).mono ?_
            intro e w5 ht
            have C5 := Lib.hid (HC.out.took ht)
            have K5 := Lib.hid (HK.out.kept ht.2.2 (fun j hj => .inl hj))
            obtain ⟨rfl, hx⟩ := ht
            rw [← HA5.out] at C5
            rw [HT.out]
            have cp := K5.out.cell p (by omega)
            rw [← HGP.out] at cp
            have fp := K5.out.frz p
            clear hx hcw m1 m2
            go_wp2_with fail
            have C6 := Lib.hid (setTk (p := p) (u := .int .i64 (gp + 1)) C5.out K5.out)
            have K6 := Lib.hid (KT.out w5 F K5.out)
            refine (count_any b F a5 _ _ C6.out.ar).mono ?_
            rintro e w9 ⟨rfl, rfl⟩
            rw [FL.out]
            go_wp2_with fail
            go_roundw
            case rel => exact ⟨k + 1, F, a5, J1, J2, by go_num, by rw [FL.out], R5, C6, K6⟩
            case measure => simp [intOf]; omega
      · obtain rfl : k = 300 := by omega
        rw [show ((300 : Nat) : Int) = 300 from rfl]
        have HC : Hid (VC w wr b F a (300 : Int)) := HC
        obtain ⟨wo, rfl⟩ : ∃ wo : World, wo = wr := ⟨_, rfl⟩
        go_wp2_with fail
        go_loopw [12] (fun i wr => ∃ (j : Nat), j ≤ 9 ∧ i = .int .i64 (j + 1) ∧ Hid (VC w wr b F a (300 : Int)) ∧ Hid (Tk wr F w.heap.size d a)) (fun i _ => 10 - (intOf i).toNat)
        case atStart => exact ⟨0, Nat.zero_le _, rfl, HC, HK⟩
        case round =>
          obtain ⟨j, hj, rfl, HC, HK⟩ := hrel
          by_cases hj9 : j < 9
          · obtain ⟨g, hg⟩ : ∃ g : Nat, g = j + 1 := ⟨_, rfl⟩
            have hgj : (j : Int) + 1 = (g : Int) := by omega
            rw [hgj]
            have cg := HK.out.cell g (by omega)
            obtain ⟨x, hx⟩ : ∃ x, x = Vp.gen a g := ⟨_, rfl⟩
            rw [← hx] at cg
            have HX := Lib.hid hx
            have i10 : (g : Int) < 10 := by omega
            have i9 : (g : Int) ≤ 9 := by omega
            have HGJ := Lib.hid hg
            have x1 : (x != x) = false := by simp
            have hg64 := in64_small (g := (g : Int)) (by omega) (by omega)
            have bz : Below wr.heap.size wr wr.drew := (Below.refl _ _).drew
            clear hg hgj
            cases h0 : (x == 0) with
            | true =>
              obtain rfl : x = 0 := beq_iff_eq.1 h0
              have HL := Lib.hid (show a.live.contains (g : Int) = false by
                rw [← Bool.not_eq_true, List.contains_iff_mem]
                intro hm
                obtain ⟨kk, hk⟩ := HC.out.ar.ok
                have h1 := hk.in_live hm
                have h2 := hk.some g h1.1 h1.2
                have h3 := HX.out
                omega)
              clear hx h0
              go_wp2_with fail
              go_region_held3 (fun w' => w'.cell? ⟨d, g, none⟩ = some (.int .i64 0))
                (first
                  | (exact keepcell hbX (by assumption))
                  | (exact cg)
                  | go_keep)
                (first
                  | (go_at_call 18; refine (gen_any b F a _ g _ (HC.out.ar.step bz)).mono ?_; rintro e u1 ⟨rfl, rfl⟩; rw [← HX.out]; have hbX : Below wr.heap.size wr wr.drew := bz)
                  | (go_at_call 16; refine (live_any b F a _ g _ (HC.out.ar.step bz) hg64).mono ?_; rintro e u2 ⟨rfl, hbX⟩; rw [HL.out]; have b2 := bz.trans (hbX.mono (Nat.le_refl _))))
              all_goals
                rename_i hHeld
                clear hHeld
                have C9 := Lib.hid (HC.out.step b2)
                have K9 := Lib.hid (HK.out.step b2)
                have J9 : j + 1 ≤ 9 := by omega
                have E9 := HGJ.out
                clear b2 bz hbX
                go_wp2_with fail
                go_roundw
                case rel => exact ⟨j + 1, J9, by go_num, C9, K9⟩
                case measure => simp [intOf]; omega
            | false =>
              clear hx
              have GA := Lib.hid (show ∀ q, Calls Try.prog 18 #[.pointer (some ⟨b, 0, none⟩), .int .i64 g] (wr.drewN q) fun e w' => e = .returned (.int .i64 x) ∧ w' = wr.drewN q from
                fun q => (gen_any b F a _ g (wr.drewN q) (HC.out.ar.step (below_drewN (Below.refl _ _) q))).mono fun e w' ⟨he, hw⟩ => ⟨by rw [he, ← HX.out], hw.symm⟩)
              go_wp2_with fail
              go_quiet ((go_at_call 18; (with_reducible exact Calls.quiet_of_same (GA.out _))))
              have C9 := Lib.hid (HC.out.step (below_drewN (Below.refl _ _) nq))
              have K9 := Lib.hid (HK.out.step (below_drewN (Below.refl _ _) nq))
              have J9 : j + 1 ≤ 9 := by omega
              have E9 := HGJ.out
              clear bz cg
              go_wp2_with fail
              go_roundw
              case rel => exact ⟨j + 1, J9, by go_num, C9, K9⟩
              case measure => simp [intOf]; omega
          · obtain rfl : j = 9 := by omega
            rw [show ((9 : Nat) : Int) = 9 from rfl]
            go_wp2_with fail
            go_ret
            exact ⟨rfl, HC.out.below⟩
    · obtain rfl : k = N := by omega
      obtain ⟨wo, rfl⟩ : ∃ wo : World, wo = wr := ⟨_, rfl⟩
      go_wp2_with fail
      go_loopw [12] (fun i wr => ∃ (j : Nat), j ≤ 9 ∧ i = .int .i64 (j + 1) ∧ Hid (VC w wr b F a (k : Int)) ∧ Hid (Tk wr F w.heap.size d a)) (fun i _ => 10 - (intOf i).toNat)
      case atStart => exact ⟨0, Nat.zero_le _, rfl, HC, HK⟩
      case round =>
        obtain ⟨j, hj, rfl, HC, HK⟩ := hrel
        by_cases hj9 : j < 9
        · obtain ⟨g, hg⟩ : ∃ g : Nat, g = j + 1 := ⟨_, rfl⟩
          have hgj : (j : Int) + 1 = (g : Int) := by omega
          rw [hgj]
          have cg := HK.out.cell g (by omega)
          obtain ⟨x, hx⟩ : ∃ x, x = Vp.gen a g := ⟨_, rfl⟩
          rw [← hx] at cg
          have HX := Lib.hid hx
          have i10 : (g : Int) < 10 := by omega
          have i9 : (g : Int) ≤ 9 := by omega
          have HGJ := Lib.hid hg
          have x1 : (x != x) = false := by simp
          have hg64 := in64_small (g := (g : Int)) (by omega) (by omega)
          have bz : Below wr.heap.size wr wr.drew := (Below.refl _ _).drew
          clear hg hgj
          cases h0 : (x == 0) with
          | true =>
            obtain rfl : x = 0 := beq_iff_eq.1 h0
            have HL := Lib.hid (show a.live.contains (g : Int) = false by
              rw [← Bool.not_eq_true, List.contains_iff_mem]
              intro hm
              obtain ⟨kk, hk⟩ := HC.out.ar.ok
              have h1 := hk.in_live hm
              have h2 := hk.some g h1.1 h1.2
              have h3 := HX.out
              omega)
            clear hx h0
            go_wp2_with fail
            go_region_held3 (fun w' => w'.cell? ⟨d, g, none⟩ = some (.int .i64 0))
              (first
                | (exact keepcell hbX (by assumption))
                | (exact cg)
                | go_keep)
              (first
                | (go_at_call 18; refine (gen_any b F a _ g _ (HC.out.ar.step bz)).mono ?_; rintro e u1 ⟨rfl, rfl⟩; rw [← HX.out]; have hbX : Below wr.heap.size wr wr.drew := bz)
                | (go_at_call 16; refine (live_any b F a _ g _ (HC.out.ar.step bz) hg64).mono ?_; rintro e u2 ⟨rfl, hbX⟩; rw [HL.out]; have b2 := bz.trans (hbX.mono (Nat.le_refl _))))
            all_goals
              rename_i hHeld
              clear hHeld
              have C9 := Lib.hid (HC.out.step b2)
              have K9 := Lib.hid (HK.out.step b2)
              have J9 : j + 1 ≤ 9 := by omega
              have E9 := HGJ.out
              clear b2 bz hbX
              go_wp2_with fail
              go_roundw
              case rel => exact ⟨j + 1, J9, by go_num, C9, K9⟩
              case measure => simp [intOf]; omega
          | false =>
            clear hx
            have GA := Lib.hid (show ∀ q, Calls Try.prog 18 #[.pointer (some ⟨b, 0, none⟩), .int .i64 g] (wr.drewN q) fun e w' => e = .returned (.int .i64 x) ∧ w' = wr.drewN q from
              fun q => (gen_any b F a _ g (wr.drewN q) (HC.out.ar.step (below_drewN (Below.refl _ _) q))).mono fun e w' ⟨he, hw⟩ => ⟨by rw [he, ← HX.out], hw.symm⟩)
            go_wp2_with fail
            go_quiet ((go_at_call 18; (with_reducible exact Calls.quiet_of_same (GA.out _))))
            have C9 := Lib.hid (HC.out.step (below_drewN (Below.refl _ _) nq))
            have K9 := Lib.hid (HK.out.step (below_drewN (Below.refl _ _) nq))
            have J9 : j + 1 ≤ 9 := by omega
            have E9 := HGJ.out
            clear bz cg
            go_wp2_with fail
            go_roundw
            case rel => exact ⟨j + 1, J9, by go_num, C9, K9⟩
            case measure => simp [intOf]; omega
        · obtain rfl : j = 9 := by omega
          rw [show ((9 : Nat) : Int) = 9 from rfl]
          go_wp2_with fail
          go_ret
          exact ⟨rfl, HC.out.below⟩
set_option maxRecDepth 100000 in
theorem lifted (os : Os) (started : os.Started) (H : Type) (enc : TypeId × Value → H) :
    ReturnsInHanded {} Try.checked os 7 .any (Rows.arenaCountsSpec.pre6 enc Try.prog Try.f7 Rows.arenaCountsRow.domain false) (Rows.arenaCountsSpec.post enc Try.prog Try.f7 false true false false) := by
  refine returnsInHanded_of_change (C := Try.checked) own started (by kernel_rfl) Try.func7
    (ChangeSpec.witness6 (enc := enc) (C := Try.checked) false ⟨#[], #[.slice none 0 0], []⟩ 8 (by kernel_rfl) (by kernel_rfl) (by kernel_rfl) (by kernel_rfl)) ?_
  intro W base args ds gs before hval0 hW hcnd _
  have hval : ∀ (j : Nat) t v, Try.f7.params[j]? = some t → args[j]? = some v → Value.okWide Try.prog W .any base t v := hval0
  have hW' := hW
  obtain ⟨p, q, hA0, hV, rfl, hfz, hnd⟩ := hW
  have hA : DataW.TrodAll enc Try.prog W 0 (fun _ => true) true Try.f7.params.toList args.toList ds p := hA0
  rw [Try.params7] at hA hval
  obtain ⟨v0, vs0, d0, ds0, p0, q0, hargs, rfl, rfl, h0, r0⟩ := trodAll_cons hA
  obtain ⟨rfl, rfl, rfl⟩ := trodAll_nil r0
  obtain rfl : args = #[v0] := by cases args; simp_all
  obtain ⟨rfl, rfl⟩ := trodVars_none hV
  have k0 := h0
  have lt0 : ∀ x ∈ p0, x.block < W.heap.size := by obtain ⟨m, hm⟩ := k0; exact DataW.trod_lt m _ _ _ hm
  obtain ⟨a0, len0, cap0, rfl⟩ := okWide_slice Try.underlying44 (hval 0 44 v0 rfl rfl)
  obtain ⟨aa0, ll0, cc0, z0, ev0, hn0, hr0⟩ : ∃ A n c zs, Value.slice a0 len0 cap0 = .slice A n c ∧ (zs.length = n ∧ n ≤ 9223372036854775807) ∧ BRow W A zs := by
    obtain ⟨fuel, hf⟩ := h0
    exact open_bytes (by simpa [Value.cells] using hf)
  injection ev0 with ea0 eb0 ec0
  subst ea0 eb0 ec0
  clear hA0 hval0
  refine (walk a0 len0 cap0 z0 W (Lib.hid hn0.1) hn0.2 hr0).mono fun e W' ⟨he, bel⟩ => ?_
  subst he
  exact ⟨_, rfl, _, _, _, [], _, [], hW', trodAll_mk1 (shut_bool Try.underlying4 _), (trodAll_cons_mk (Below.trod laidOut (by kernel_rfl) (of_decide_eq_true (by kernel_rfl)) k0 bel lt0) trodAll_mk0), rfl, bel.frame _, fun h => by cases h⟩
theorem over : Rows.arenaCountsRow.holds Try.pinned (OpenSpec.ofChange Rows.arenaCountsSpec) :=
  OpenClaim.holds_of_wide 7 Try.f7 rfl rfl rfl rfl rfl rfl rfl ⟨rfl, rfl, rfl, rfl, rfl⟩ rfl rfl rfl rfl rfl (by kernel_rfl) Try.func7 (by kernel_rfl)
    (of_decide_eq_true (by kernel_rfl)) (by unfold Func.isWrapper; first | (rw [if_pos (by decide +kernel)]; kernel_rfl) | (rw [if_neg (by decide +kernel)]; exact ⟨rfl, rfl⟩))
    (fun os started H enc _ => lifted os started H enc)
theorem proved : Rows.ArenaCountsSaid := over
end Go.Proofs.Ytncmliojndgoiaa.arenaCounts

