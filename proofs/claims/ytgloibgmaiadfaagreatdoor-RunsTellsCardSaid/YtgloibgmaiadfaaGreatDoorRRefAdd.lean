/- The document's Add, by its contract. -/
import Derived.Test.YtgloibgmaiadfaaGreatDoorM1
import Derived.Test.YtgloibgmaiadfaaGreatDoorRAdd
import Derived.Deep.RegionLaw
namespace Go.Proofs.YtgloibgmaiadfaaGreatDoor
open Go.RowKit
set_option linter.unusedVariables false

/-- What the loop carries: what is told, what is left in the ring's place, k of the row seen. -/
structure Lp (w wr : World) (x : Int) (sl : Value) (zs : List Int) (q k : Nat) (s10 : Value) (vo : Value) (B2 : Nat) : Prop where
  told : wr.ownsRow (w.heap.size + 3) 3 1 s10 (min k q) ((zs.take (min k q)).map (Value.int .i64))
  left : wr.ownsRow B2 3 1 vo (k - q) (((zs.take k).drop q).map (Value.int .i64))
  sep : ∀ b, s10.ownBlock = some b → b < B2
  lo : w.heap.size + 3 ≤ B2
  hi : B2 ≤ wr.heap.size
  nil : k ≤ q → vo = .slice none 0 0
  o0 : wr.cell? ⟨w.heap.size + 2, 0, none⟩ = some (.int .i64 x)
  o1 : wr.cell? ⟨w.heap.size + 2, 1, none⟩ = some vo
  of : wr.frozen? ⟨w.heap.size + 2, 1, none⟩ = false
  bx : Bx w wr (.int .i64 x) sl (.int .i64 0) (.slice none 0 0)
theorem Lp.start {w W0 : World} {x : Int} {sl : Value} {zs : List Int} {q : Nat} {T : TypeId} (h : Bx w W0 (.int .i64 x) sl (.int .i64 0) (.slice none 0 0)) (hs : W0.heap.size = w.heap.size + 2) : Lp w (W0.alloc (.cells #[.int .i64 x, .slice none 0 0] T)) x sl zs q 0 (.slice none 0 0) (.slice none 0 0) (w.heap.size + 3) := by
  refine ⟨by simpa using World.ownsRow_nil _ _ _ _, by simpa using World.ownsRow_nil _ _ _ _, fun b e => by simp [Value.ownBlock] at e, Nat.le_refl _, by simp [hs], fun _ => rfl, ?_, ?_, ?_, h.alloc _⟩
  · rw [World.cell?_alloc_at _ _ _ _ (by simp [hs])]; rfl
  · rw [World.cell?_alloc_at _ _ _ _ (by simp [hs])]; rfl
  · rw [World.frozen?_alloc_at _ _ _ _ (by simp [hs])]
/-- One more is told. -/
theorem Lp.tell {w wr w' : World} {x : Int} {sl : Value} {zs : List Int} {q k : Nat} {s10 vo v' : Value} {B2 : Nat} {z : Int} {o : Obj} (h : Lp w wr x sl zs q k s10 vo B2) (hk : k < q) (hz : zs[k]? = some z)
    (ho : w'.ownsRow (w.heap.size + 3) 3 1 v' (min k q + 1) ((zs.take (min k q) ++ [z]).map (Value.int .i64))) (hg : (wr.alloc o).grownBy w' s10.ownBlock) : Lp w w' x sl zs q (k + 1) v' vo w'.heap.size := by
  have e1 : min k q = k := by omega
  have e2 : min (k + 1) q = k + 1 := by omega
  have hlo := h.lo
  have hhi := h.hi
  have hv := h.nil (by omega)
  have hr : ∀ j, s10.ownBlock = some j → w.heap.size + 3 ≤ j := fun j e => (h.told.lt j e).1
  have hsz : (wr.alloc o).heap.size ≤ w'.heap.size := hg.size
  rw [World.size_alloc] at hsz
  have hO : w'.heap[w.heap.size + 2]? = (wr.alloc o).heap[w.heap.size + 2]? := hg.block _ (by simp; omega) (fun e => by have := hr _ e.symm; omega)
  have hb := below_new wr o
  refine ⟨?_, ?_, fun b e => (ho.lt b e).2, by omega, Nat.le_refl _, fun _ => hv, ?_, ?_, ?_, (h.bx.alloc o).grown hg (fun j e => by have := hr j e; omega)⟩
  · rw [e2, List.take_add_one, hz]
    rw [e1] at ho
    exact ho
  · subst hv
    rw [show k + 1 - q = 0 by omega, List.drop_of_length_le (by rw [List.length_take]; omega)]
    exact World.ownsRow_nil _ _ _ _
  · rw [World.cell?_of_block (w := wr.alloc o) hO]; exact keepcell hb h.o0
  · rw [World.cell?_of_block (w := wr.alloc o) hO]; exact keepcell hb h.o1
  · rw [World.frozen?_of_block (w := wr.alloc o) hO]; exact keepfree hb h.o1 h.of
/-- One more is left. -/
theorem Lp.leave {w wr w' : World} {x : Int} {sl : Value} {zs : List Int} {q k : Nat} {s10 vo v' : Value} {B2 : Nat} {z : Int} {o : Obj} (h : Lp w wr x sl zs q k s10 vo B2) (hk : q ≤ k) (hz : zs[k]? = some z)
    (ho : w'.ownsRow B2 3 1 v' (k - q + 1) (((zs.take k).drop q ++ [z]).map (Value.int .i64))) (hg : (wr.alloc o).drew.grownBy w' vo.ownBlock) :
    (w'.cell? ⟨w.heap.size + 2, 1, none⟩ = some vo ∧ w'.frozen? ⟨w.heap.size + 2, 1, none⟩ = false) ∧ Lp w (w'.setCell ⟨w.heap.size + 2, 1, none⟩ v') x sl zs q (k + 1) s10 v' B2 := by
  have e1 : min k q = q := by omega
  have e2 : min (k + 1) q = q := by omega
  have hlo := h.lo
  have hhi := h.hi
  have hr : ∀ j, vo.ownBlock = some j → B2 ≤ j := fun j e => (h.left.lt j e).1
  have hsz : (wr.alloc o).heap.size ≤ w'.heap.size := hg.size
  rw [World.size_alloc] at hsz
  have hO : w'.heap[w.heap.size + 2]? = (wr.alloc o).heap[w.heap.size + 2]? := hg.block _ (by simp; omega) (fun e => by have := hr _ e.symm; omega)
  have hb := below_new wr o
  have hk' : (zs.take k).length = k := by rw [List.length_take]; have := (List.getElem?_eq_some_iff.1 hz).1; omega
  have c1 : w'.cell? ⟨w.heap.size + 2, 1, none⟩ = some vo := by rw [World.cell?_of_block (w := wr.alloc o) hO]; exact keepcell hb h.o1
  have cf : w'.frozen? ⟨w.heap.size + 2, 1, none⟩ = false := by rw [World.frozen?_of_block (w := wr.alloc o) hO]; exact keepfree hb h.o1 h.of
  have c0 : w'.cell? ⟨w.heap.size + 2, 0, none⟩ = some (.int .i64 x) := by rw [World.cell?_of_block (w := wr.alloc o) hO]; exact keepcell hb h.o0
  have ht : w'.ownsRow (w.heap.size + 3) 3 1 s10 q ((zs.take q).map (Value.int .i64)) := by
    have h1 := h.told
    rw [e1] at h1
    refine ((h1.alloc o).drew).kept hg ?_
    cases hs : s10.ownBlock with
    | none => exact .inl rfl
    | some j => exact .inr (fun e => by have := hr j e.symm; have := h.sep j hs; omega)
  have hbx := (h.bx.alloc o).drew.grown hg (fun j e => by have := hr j e; omega)
  refine ⟨⟨c1, cf⟩, ?_, ?_, h.sep, hlo, by rw [show (w'.setCell ⟨w.heap.size + 2, 1, none⟩ v').heap.size = w'.heap.size by simp [World.setCell]]; omega, fun hh => by omega, ?_, ?_, ?_, ?_⟩
  · rw [e2]; exact ownsRow_setCell_below ht (by simp) v'
  · rw [List.take_add_one, hz, List.drop_append, hk', show q - k = 0 by omega, show k + 1 - q = k - q + 1 by omega]
    exact ownsRow_setCell_below ho (by simp; omega) v'
  · rw [World.cell?_setCell_other _ _ _ _ (fun e => by injection e with _ e; omega)]; exact c0
  · exact World.cell?_setCell_same' _ _ _ (by rw [c1]; rfl)
  · rw [World.frozen?_setCell]; exact cf
  · have oth : ∀ b o', b < w.heap.size + 2 → (w'.setCell ⟨w.heap.size + 2, 1, none⟩ v').cell? ⟨b, o', none⟩ = w'.cell? ⟨b, o', none⟩ := fun b o' hb => World.cell?_setCell_other _ _ _ _ (fun e => by injection e with e; omega)
    exact ⟨(oth _ _ (by omega)).trans hbx.c0, (oth _ _ (by omega)).trans hbx.c1, (oth _ _ (by omega)).trans hbx.r0, (oth _ _ (by omega)).trans hbx.r1, by rw [World.frozen?_setCell]; exact hbx.f0, by rw [World.frozen?_setCell]; exact hbx.f1, hbx.below.setCell (by simp) _, by rw [show (w'.setCell ⟨w.heap.size + 2, 1, none⟩ v').heap.size = w'.heap.size by simp [World.setCell]]; exact hbx.size⟩
theorem Lp.done {w wr w' : World} {x : Int} {sl : Value} {zs : List Int} {q k : Nat} {s10 vo : Value} {B2 : Nat} {o : Obj} (h : Lp w wr x sl zs q k s10 vo B2) (hg : (wr.alloc o).grownBy w' s10.ownBlock) :
    w'.cell? ⟨w.heap.size + 2, 0, none⟩ = some (.int .i64 x) ∧ w'.cell? ⟨w.heap.size + 2, 1, none⟩ = some vo ∧ w'.ownsRow B2 3 1 vo (k - q) (((zs.take k).drop q).map (Value.int .i64)) ∧ Bx w w' (.int .i64 x) sl (.int .i64 0) (.slice none 0 0) := by
  have hlo := h.lo
  have hhi := h.hi
  have hr : ∀ j, s10.ownBlock = some j → w.heap.size + 3 ≤ j := fun j e => (h.told.lt j e).1
  have hO : w'.heap[w.heap.size + 2]? = (wr.alloc o).heap[w.heap.size + 2]? := hg.block _ (by simp; omega) (fun e => by have := hr _ e.symm; omega)
  have hb := below_new wr o
  refine ⟨by rw [World.cell?_of_block (w := wr.alloc o) hO]; exact keepcell hb h.o0, by rw [World.cell?_of_block (w := wr.alloc o) hO]; exact keepcell hb h.o1, ?_, (h.bx.alloc o).grown hg (fun j e => by have := hr j e; omega)⟩
  refine (h.left.alloc o).kept hg ?_
  cases hs : vo.ownBlock with
  | none => exact .inl rfl
  | some j => exact .inr (fun e => by have := (h.left.lt j hs).1; have := h.sep j e.symm; omega)
set_option maxHeartbeats 1000000 in
theorem refAdd_any (x : Int) (A : Option Addr) (n c : Nat) (zs : List Int) (g s : Int) (w : World) (h : Row w A n c zs) (hn : n ≤ 100000) :
    Calls Tryz.prog 64 #[.agg #[.int .i64 x, .slice A n c], .int .i64 g, .int .i64 s] w (MadeRL w (Rp.add (x, zs) g s)) := by
  have h1 := h.cap
  have h2 := h.most
  have H := Lib.hid h
  clear h
  obtain ⟨W0, hW0, hX0⟩ := Bx.start w (.int .i64 x) (.slice A n c) (.int .i64 0) (.slice none 0 0) 56 56
  have c0 := hX0.c0
  have c1 := hX0.c1
  have X0 := Lib.hid hX0
  have E0 := Lib.hid hW0
  clear hX0 hW0
  by_cases hs : s < 2
  · have hz : Rp.sz s = 2 := Rp.sz_low hs
    by_cases hlt : n < 2
    · skip
      have HR := Lib.hid (show Rp.add (x, zs) g s = ((x, zs ++ [g]), []) by unfold Rp.add; rw [if_pos (by rw [hz, H.out.len]; exact hlt)])
      go_enter Tryz.func64, Tryz.ntmps64
      go_wp2_with fail
      rw [← E0.out]
      clear E0
      have hs0 := X0.out.size
      go_region_held3 (fun w' => w'.cell? ⟨w.heap.size, 0, none⟩ = some (.int .i64 x) ∧ w'.cell? ⟨w.heap.size, 1, none⟩ = some (.slice A n c))
        (first | (refine ⟨?_, ?_⟩ <;> assumption) | (refine ⟨keepcell (below_new _ _) (by assumption), keepcell (below_new _ _) (by assumption)⟩) | go_keep)
        (first
          | ((refine step_append_own2 (by rfl) (.tmp 22) (.tmp 24) (by rfl) (w.heap.size + 2) _ 0 [] (by rfl) (.inr ⟨_, rfl, rfl, rfl, by simp; omega⟩) A n c zs (by rfl) (H.out.below (by first | exact (X0.out.below.alloc X0.out.below.size _).drew | exact ((X0.out.below.alloc X0.out.below.size _).alloc (by simp; omega) _).drew)) (by omega) (by simp; omega) ?_; intro v1 w1 ho1 hg1);
             (have hb1 : Below W0.heap.size W0 w1 := (by first | exact ((Below.refl _ _).alloc (Nat.le_refl _) _).drew.grown hg1 (by simp) (fun k hk => by simp [Value.ownBlock] at hk; omega) | exact (((Below.refl _ _).alloc (Nat.le_refl _) _).alloc (by simp) _).drew.grown hg1 (by simp; omega) (fun k hk => by simp [Value.ownBlock] at hk; omega)));
             (first
               | have G1 : Row w1 (some ⟨W0.heap.size + 1, 0, none⟩) 1 1 [g] := (row_at (W0.alloc (.cells #[] 3)) g _ (by simp)).drew.grown hg1 (by intro ad e; injection e with e; subst e; simp [Value.ownBlock])
               | have G1 : Row w1 (some ⟨W0.heap.size, 0, none⟩) 1 1 [g] := ((row_at W0 g _ rfl).below (below_new _ (.cells #[] 3))).drew.grown hg1 (by intro ad e; injection e with e; subst e; simp [Value.ownBlock])
               | skip);
             rw [Nat.zero_add, List.nil_append] at ho1; have O1 := ho1; obtain ⟨A1, q1, rfl, hr1, hf1⟩ := Own2.row ho1; have X1 := X0.out.step hb1; have d0 := X1.c0; have d1 := X1.c1; have d2 := X1.r0; have d3 := X1.r1; have d4 := X1.f0; have d5 := X1.f1)
          | ((refine step_append_own2 (by rfl) (.tmp 25) (.tmp 27) (by rfl) (w.heap.size + 2) (.slice A1 n q1) n zs (by rfl) (by first | exact O1 | exact O1.alloc _) _ 1 1 [g] (by rfl) (by first | exact G1 | exact row_at w1 g _ rfl) (by omega) (by have := X1.size; simp; omega) ?_; intro v2 w2 ho2 hg2);
             obtain ⟨A2, q2, rfl, hr2, hf2⟩ := Own2.row ho2;
             have X2 : Bx w w2 (.int .i64 x) (.slice A n c) (.int .i64 0) (.slice none 0 0) := (by first | exact X1.grown hg2 (own_from hf1) | exact (X1.alloc _).grown hg2 (own_from hf1)); have b0 := X2.c0; have b1 := X2.c1; have b2 := X2.r0; have b3 := X2.r1; have b4 := X2.f0; have b5 := X2.f1))
      all_goals
        have HM := made_rl (r := ((x, zs ++ [g]), [])) (x := x) (u := .int .i64 x) (v := .slice A2 (n + 1) q2) (w := w) rfl hr2 hf2 (Row.nothing _) (From.none _) X2.below
        rw [← HR.out] at HM
        have HM := Lib.hid HM
        obtain ⟨k0, k1⟩ := told2 (u := .int .i64 x) (v := .slice A2 (n + 1) q2) b2 b3
        clear b0 b1 b2 b3 b4 b5 d0 d1 d2 d3 d4 d5 hr2 hf2 hg2 ho2 HR c0 c1
        go_wp2_with fail
        refine bodyPost_ret (v := .tuple #[.agg #[.int .i64 x, .slice A2 (n + 1) q2], .slice none 0 0]) ?_ rfl ?_
        · simp [results, Tryz.results64, go_sem, k0, k1]
        exact HM.out
    · skip
      have HR := Lib.hid (show Rp.add (x, zs) g s = ((x, zs.drop (1)), zs.take (1) ++ [g]) by unfold Rp.add; rw [if_neg (by rw [hz, H.out.len]; exact hlt), hz] <;> first | rfl | rw [← Hk.out])
      have L0 := Lib.hid (Lp.start (zs := zs) (q := 1) (T := 56) X0.out (by rw [E0.out]; simp))
      go_enter Tryz.func64, Tryz.ntmps64
      go_wp2_with fail
      rw [← E0.out]
      clear E0
      go_loopw [10, 11] (fun s10 i wr => ∃ (k : Nat) (vo : Value) (B2 : Nat), k ≤ n ∧ i = .int .i64 k ∧ Hid (Lp w wr x (.slice A n c) zs (1) k s10 vo B2)) (fun _ i _ => n - (intOf i).toNat)
      case atStart => exact ⟨0, _, _, Nat.zero_le _, rfl, L0⟩
      case round =>
        obtain ⟨k, vo, B2, hk, rfl, HL⟩ := hrel
        have d0 := HL.out.bx.c0
        have d1 := HL.out.bx.c1
        by_cases hlt2 : k < n
        · obtain ⟨z, hzk⟩ : ∃ z, zs[k]? = some z := ⟨_, List.getElem?_eq_getElem (by rw [H.out.len]; exact hlt2)⟩
          obtain ⟨b, off, rfl, hbk, hcs⟩ := H.out.cells (by omega)
          have hck := keepcell HL.out.bx.below (hcs k z hzk)
          have HZ := Lib.hid hzk
          clear hcs hzk
          by_cases hq : k < (1)
          · go_wp2_with (at_builtin; refine wpList_append_row rfl (.tmp 44) (.tmp 50) rfl (w.heap.size + 3) u10 (min k (1)) (zs.take (min k (1))) rfl ?c1 _ 1 1 [z] rfl ?c2 (by omega) ?c3 ?_)
            case c1 => exact HL.out.told.alloc _
            case c2 => exact row_at wr z _ rfl
            case c3 => have := HL.out.bx.size; have := HL.out.lo; have := HL.out.hi; simp; omega
            intro v5 w5 ho5 hg5
            have HN := Lib.hid (HL.out.tell hq HZ.out (by simpa using ho5) hg5)
            clear ho5 hg5 d0 d1 hck HL
            go_wp2_with fail
            go_roundw
            case rel => exact ⟨k + 1, _, _, by omega, by go_num, HN⟩
            case measure => simp [intOf]; omega
          · have e0 : wr.cell? ⟨w.heap.size + 1 + 1, 1, none⟩ = some vo := HL.out.o1
            have hbn := below_new wr (.cells #[.int .i64 z] 3)
            have f0 := keepcell hbn e0
            have f1 := keepcell hbn d1
            have f2 := keepcell hbn hck
            have k0 : (0 : Int) ≤ (k : Int) := by omega
            have k1 : (k : Int) < (n : Int) := by omega
            have HQ := Lib.hid (show (1) ≤ k by omega)
            have hsz := HL.out.bx.size
            have hlo := HL.out.lo
            have hhi := HL.out.hi
            obtain ⟨Ao, co, hvo, hro, hfo⟩ := Row.of_own' HL.out.left
            subst hvo
            clear hbn
            go_wp2_with fail
            go_region_law ((refine step_append_row (by rfl) (.tmp 53) (.tmp 59) (by rfl) B2 _ (k - (1)) ((zs.take k).drop (1)) (by rfl) (HL.out.left.alloc _).drew _ 1 1 [z] (by rfl) (row_at wr z _ rfl).drew (by omega) (by simp; omega) ?_; intro v5 w5 ho5 hg5; obtain ⟨⟨y0, y1⟩, hN⟩ := HL.out.leave HQ.out HZ.out ho5 hg5; have HN := Lib.hid hN; clear hN; obtain ⟨A5, c5, rfl⟩ := own_form ho5; have y2 : w5.cell? ⟨w.heap.size + 1 + 1, 1, none⟩ = some (.slice Ao (k - (1)) co) := y0; have y3 : w5.frozen? ⟨w.heap.size + 1 + 1, 1, none⟩ = false := y1))
            all_goals
              clear y0 y1 y2 y3 ho5 hg5 e0 f0 f1 f2 d0 d1 hck HL hro
              go_wp2_with fail
              go_roundw
              case rel => exact ⟨k + 1, _, _, by omega, by go_num, HN⟩
              case measure => simp [intOf]; omega
        · have hkn : k = n := by omega
          subst hkn
          have hmq : min k (1) = (1) := by omega
          have hsz := HL.out.bx.size
          have hlo := HL.out.lo
          have hhi := HL.out.hi
          have htl := HL.out.told
          rw [hmq] at htl
          have HT := Lib.hid htl
          clear htl
          go_wp2_with (at_builtin; refine wpList_append_row rfl (.tmp 62) (.tmp 64) rfl (w.heap.size + 3) u10 (1) (zs.take (1)) rfl ?c1 _ 1 1 [g] rfl ?c2 (by omega) ?c3 ?_)
          case c1 => exact HT.out.alloc _
          case c2 => exact row_at wr g _ rfl
          case c3 => simp; omega
          intro v5 w5 ho5 hg5
          obtain ⟨y0, y1, y2, y3⟩ := HL.out.done hg5
          have ho6 : w5.ownsRow (w.heap.size + 3) 3 1 v5 ((1) + 1) ((zs.take (1) ++ [g]).map (Value.int .i64)) := by simpa using ho5
          clear ho5
          obtain ⟨A5, c5, rfl, hr5, hf5⟩ := Row.of_own' ho6
          obtain ⟨Ao, co, rfl, hro, hfo⟩ := Row.of_own' y2
          rw [List.take_of_length_le (by rw [H.out.len]; exact Nat.le_refl _)] at hro
          have z0 : w5.cell? ⟨w.heap.size + 1 + 1, 0, none⟩ = some (.int .i64 x) := y0
          have z1 : w5.cell? ⟨w.heap.size + 1 + 1, 1, none⟩ = some (.slice Ao (k - (1)) co) := y1
          have b2 := y3.r0
          have b3 := y3.r1
          have b4 := y3.f0
          have b5 := y3.f1
          have HM := made_rl (r := ((x, zs.drop (1)), zs.take (1) ++ [g])) (x := x) (u := .int .i64 x) (v := .slice Ao (k - (1)) co) (w := w) rfl hro (hfo.mono (by omega)) hr5 (hf5.mono (by omega)) y3.below
          rw [← HR.out] at HM
          have HM := Lib.hid HM
          obtain ⟨k0, k1⟩ := told2 (u := .int .i64 x) (v := .slice Ao (k - (1)) co) b2 b3
          clear hr5 hf5 ho6 hg5 hro hfo y0 y1 y2 y3 HR c0 c1 d0 d1 HL
          go_wp2_with fail
          refine bodyPost_ret (v := .tuple #[.agg #[.int .i64 x, .slice Ao (k - (1)) co], .slice A5 ((1) + 1) c5]) ?_ rfl ?_
          · simp [results, Tryz.results64, go_sem, k0, k1]
          exact HM.out
  · obtain ⟨m, rfl⟩ := Int.eq_ofNat_of_zero_le (show 0 ≤ s by omega)
    have hm2 : 2 ≤ m := by omega
    have hz : Rp.sz (m : Int) = m := Rp.sz_nat m hm2
    by_cases hlt : n < m
    · skip
      have HR := Lib.hid (show Rp.add (x, zs) g m = ((x, zs ++ [g]), []) by unfold Rp.add; rw [if_pos (by rw [hz, H.out.len]; exact hlt)])
      go_enter Tryz.func64, Tryz.ntmps64
      go_wp2_with fail
      rw [← E0.out]
      clear E0
      have hs0 := X0.out.size
      go_region_held3 (fun w' => w'.cell? ⟨w.heap.size, 0, none⟩ = some (.int .i64 x) ∧ w'.cell? ⟨w.heap.size, 1, none⟩ = some (.slice A n c))
        (first | (refine ⟨?_, ?_⟩ <;> assumption) | (refine ⟨keepcell (below_new _ _) (by assumption), keepcell (below_new _ _) (by assumption)⟩) | go_keep)
        (first
          | ((refine step_append_own2 (by rfl) (.tmp 22) (.tmp 24) (by rfl) (w.heap.size + 2) _ 0 [] (by rfl) (.inr ⟨_, rfl, rfl, rfl, by simp; omega⟩) A n c zs (by rfl) (H.out.below (by first | exact (X0.out.below.alloc X0.out.below.size _).drew | exact ((X0.out.below.alloc X0.out.below.size _).alloc (by simp; omega) _).drew)) (by omega) (by simp; omega) ?_; intro v1 w1 ho1 hg1);
             (have hb1 : Below W0.heap.size W0 w1 := (by first | exact ((Below.refl _ _).alloc (Nat.le_refl _) _).drew.grown hg1 (by simp) (fun k hk => by simp [Value.ownBlock] at hk; omega) | exact (((Below.refl _ _).alloc (Nat.le_refl _) _).alloc (by simp) _).drew.grown hg1 (by simp; omega) (fun k hk => by simp [Value.ownBlock] at hk; omega)));
             (first
               | have G1 : Row w1 (some ⟨W0.heap.size + 1, 0, none⟩) 1 1 [g] := (row_at (W0.alloc (.cells #[] 3)) g _ (by simp)).drew.grown hg1 (by intro ad e; injection e with e; subst e; simp [Value.ownBlock])
               | have G1 : Row w1 (some ⟨W0.heap.size, 0, none⟩) 1 1 [g] := ((row_at W0 g _ rfl).below (below_new _ (.cells #[] 3))).drew.grown hg1 (by intro ad e; injection e with e; subst e; simp [Value.ownBlock])
               | skip);
             rw [Nat.zero_add, List.nil_append] at ho1; have O1 := ho1; obtain ⟨A1, q1, rfl, hr1, hf1⟩ := Own2.row ho1; have X1 := X0.out.step hb1; have d0 := X1.c0; have d1 := X1.c1; have d2 := X1.r0; have d3 := X1.r1; have d4 := X1.f0; have d5 := X1.f1)
          | ((refine step_append_own2 (by rfl) (.tmp 25) (.tmp 27) (by rfl) (w.heap.size + 2) (.slice A1 n q1) n zs (by rfl) (by first | exact O1 | exact O1.alloc _) _ 1 1 [g] (by rfl) (by first | exact G1 | exact row_at w1 g _ rfl) (by omega) (by have := X1.size; simp; omega) ?_; intro v2 w2 ho2 hg2);
             obtain ⟨A2, q2, rfl, hr2, hf2⟩ := Own2.row ho2;
             have X2 : Bx w w2 (.int .i64 x) (.slice A n c) (.int .i64 0) (.slice none 0 0) := (by first | exact X1.grown hg2 (own_from hf1) | exact (X1.alloc _).grown hg2 (own_from hf1)); have b0 := X2.c0; have b1 := X2.c1; have b2 := X2.r0; have b3 := X2.r1; have b4 := X2.f0; have b5 := X2.f1))
      all_goals
        have HM := made_rl (r := ((x, zs ++ [g]), [])) (x := x) (u := .int .i64 x) (v := .slice A2 (n + 1) q2) (w := w) rfl hr2 hf2 (Row.nothing _) (From.none _) X2.below
        rw [← HR.out] at HM
        have HM := Lib.hid HM
        obtain ⟨k0, k1⟩ := told2 (u := .int .i64 x) (v := .slice A2 (n + 1) q2) b2 b3
        clear b0 b1 b2 b3 b4 b5 d0 d1 d2 d3 d4 d5 hr2 hf2 hg2 ho2 HR c0 c1
        go_wp2_with fail
        refine bodyPost_ret (v := .tuple #[.agg #[.int .i64 x, .slice A2 (n + 1) q2], .slice none 0 0]) ?_ rfl ?_
        · simp [results, Tryz.results64, go_sem, k0, k1]
        exact HM.out
    · obtain ⟨q, hq⟩ : ∃ q, q = m / 2 := ⟨_, rfl⟩
      have t0 : Int.tdiv (m : Int) 2 = (q : Int) := by rw [hq]; rfl
      have t3 : (m : Int) / 2 = (q : Int) := by omega
      have t4 : q ≤ n := by omega
      have Hk := Lib.hid hq
      clear hq
      have HR := Lib.hid (show Rp.add (x, zs) g m = ((x, zs.drop (q)), zs.take (q) ++ [g]) by unfold Rp.add; rw [if_neg (by rw [hz, H.out.len]; exact hlt), hz] <;> first | rfl | rw [← Hk.out])
      have L0 := Lib.hid (Lp.start (zs := zs) (q := q) (T := 56) X0.out (by rw [E0.out]; simp))
      go_enter Tryz.func64, Tryz.ntmps64
      go_wp2_with fail
      rw [← E0.out]
      clear E0
      go_loopw [10, 11] (fun s10 i wr => ∃ (k : Nat) (vo : Value) (B2 : Nat), k ≤ n ∧ i = .int .i64 k ∧ Hid (Lp w wr x (.slice A n c) zs (q) k s10 vo B2)) (fun _ i _ => n - (intOf i).toNat)
      case atStart => exact ⟨0, _, _, Nat.zero_le _, rfl, L0⟩
      case round =>
        obtain ⟨k, vo, B2, hk, rfl, HL⟩ := hrel
        have d0 := HL.out.bx.c0
        have d1 := HL.out.bx.c1
        by_cases hlt2 : k < n
        · obtain ⟨z, hzk⟩ : ∃ z, zs[k]? = some z := ⟨_, List.getElem?_eq_getElem (by rw [H.out.len]; exact hlt2)⟩
          obtain ⟨b, off, rfl, hbk, hcs⟩ := H.out.cells (by omega)
          have hck := keepcell HL.out.bx.below (hcs k z hzk)
          have HZ := Lib.hid hzk
          clear hcs hzk
          by_cases hq : k < (q)
          · go_wp2_with (at_builtin; refine wpList_append_row rfl (.tmp 44) (.tmp 50) rfl (w.heap.size + 3) u10 (min k (q)) (zs.take (min k (q))) rfl ?c1 _ 1 1 [z] rfl ?c2 (by omega) ?c3 ?_)
            case c1 => exact HL.out.told.alloc _
            case c2 => exact row_at wr z _ rfl
            case c3 => have := HL.out.bx.size; have := HL.out.lo; have := HL.out.hi; simp; omega
            intro v5 w5 ho5 hg5
            have HN := Lib.hid (HL.out.tell hq HZ.out (by simpa using ho5) hg5)
            clear ho5 hg5 d0 d1 hck HL
            go_wp2_with fail
            go_roundw
            case rel => exact ⟨k + 1, _, _, by omega, by go_num, HN⟩
            case measure => simp [intOf]; omega
          · have e0 : wr.cell? ⟨w.heap.size + 1 + 1, 1, none⟩ = some vo := HL.out.o1
            have hbn := below_new wr (.cells #[.int .i64 z] 3)
            have f0 := keepcell hbn e0
            have f1 := keepcell hbn d1
            have f2 := keepcell hbn hck
            have k0 : (0 : Int) ≤ (k : Int) := by omega
            have k1 : (k : Int) < (n : Int) := by omega
            have HQ := Lib.hid (show (q) ≤ k by omega)
            have hsz := HL.out.bx.size
            have hlo := HL.out.lo
            have hhi := HL.out.hi
            obtain ⟨Ao, co, hvo, hro, hfo⟩ := Row.of_own' HL.out.left
            subst hvo
            clear hbn
            go_wp2_with fail
            go_region_law ((refine step_append_row (by rfl) (.tmp 53) (.tmp 59) (by rfl) B2 _ (k - (q)) ((zs.take k).drop (q)) (by rfl) (HL.out.left.alloc _).drew _ 1 1 [z] (by rfl) (row_at wr z _ rfl).drew (by omega) (by simp; omega) ?_; intro v5 w5 ho5 hg5; obtain ⟨⟨y0, y1⟩, hN⟩ := HL.out.leave HQ.out HZ.out ho5 hg5; have HN := Lib.hid hN; clear hN; obtain ⟨A5, c5, rfl⟩ := own_form ho5; have y2 : w5.cell? ⟨w.heap.size + 1 + 1, 1, none⟩ = some (.slice Ao (k - (q)) co) := y0; have y3 : w5.frozen? ⟨w.heap.size + 1 + 1, 1, none⟩ = false := y1))
            all_goals
              clear y0 y1 y2 y3 ho5 hg5 e0 f0 f1 f2 d0 d1 hck HL hro
              go_wp2_with fail
              go_roundw
              case rel => exact ⟨k + 1, _, _, by omega, by go_num, HN⟩
              case measure => simp [intOf]; omega
        · have hkn : k = n := by omega
          subst hkn
          have hmq : min k (q) = (q) := by omega
          have hsz := HL.out.bx.size
          have hlo := HL.out.lo
          have hhi := HL.out.hi
          have htl := HL.out.told
          rw [hmq] at htl
          have HT := Lib.hid htl
          clear htl
          go_wp2_with (at_builtin; refine wpList_append_row rfl (.tmp 62) (.tmp 64) rfl (w.heap.size + 3) u10 (q) (zs.take (q)) rfl ?c1 _ 1 1 [g] rfl ?c2 (by omega) ?c3 ?_)
          case c1 => exact HT.out.alloc _
          case c2 => exact row_at wr g _ rfl
          case c3 => simp; omega
          intro v5 w5 ho5 hg5
          obtain ⟨y0, y1, y2, y3⟩ := HL.out.done hg5
          have ho6 : w5.ownsRow (w.heap.size + 3) 3 1 v5 ((q) + 1) ((zs.take (q) ++ [g]).map (Value.int .i64)) := by simpa using ho5
          clear ho5
          obtain ⟨A5, c5, rfl, hr5, hf5⟩ := Row.of_own' ho6
          obtain ⟨Ao, co, rfl, hro, hfo⟩ := Row.of_own' y2
          rw [List.take_of_length_le (by rw [H.out.len]; exact Nat.le_refl _)] at hro
          have z0 : w5.cell? ⟨w.heap.size + 1 + 1, 0, none⟩ = some (.int .i64 x) := y0
          have z1 : w5.cell? ⟨w.heap.size + 1 + 1, 1, none⟩ = some (.slice Ao (k - (q)) co) := y1
          have b2 := y3.r0
          have b3 := y3.r1
          have b4 := y3.f0
          have b5 := y3.f1
          have HM := made_rl (r := ((x, zs.drop (q)), zs.take (q) ++ [g])) (x := x) (u := .int .i64 x) (v := .slice Ao (k - (q)) co) (w := w) rfl hro (hfo.mono (by omega)) hr5 (hf5.mono (by omega)) y3.below
          rw [← HR.out] at HM
          have HM := Lib.hid HM
          obtain ⟨k0, k1⟩ := told2 (u := .int .i64 x) (v := .slice Ao (k - (q)) co) b2 b3
          clear hr5 hf5 ho6 hg5 hro hfo y0 y1 y2 y3 HR c0 c1 d0 d1 HL
          go_wp2_with fail
          refine bodyPost_ret (v := .tuple #[.agg #[.int .i64 x, .slice Ao (k - (q)) co], .slice A5 ((q) + 1) c5]) ?_ rfl ?_
          · simp [results, Tryz.results64, go_sem, k0, k1]
          exact HM.out
end Go.Proofs.YtgloibgmaiadfaaGreatDoor

