/- FifoPlays: whatever is pushed, popped and dropped, each answer, and all queues, are the document's: the call answers true and changes nothing that was there; for every input. -/
import Derived.Test.YthljecllmdbbbaaQCel
import Derived.Test.YthljecllmdbbbaaQFrame
import Derived.Test.YthljecllmdbbbaaQRefNew
import Derived.Test.YthljecllmdbbbaaQRefPop
namespace Go.Proofs.Ythljecllmdbbbaa.fifoPlays
open Go.ChangeShapes Go.WideShapes Go.ChangeAt Go.RowKit
set_option linter.unusedVariables false

/-- Block d holds a deed. -/
structure Dd (W : World) (d : Nat) (kd li gg : Int) : Prop where
  c0 : W.cell? ⟨d, 0, none⟩ = some (.int .i64 kd)
  c1 : W.cell? ⟨d, 1, none⟩ = some (.int .i64 li)
  c2 : W.cell? ⟨d, 2, none⟩ = some (.int .i64 gg)
theorem Dd.step {W W' : World} {d : Nat} {kd li gg : Int} (h : Dd W d kd li gg) (hb : Below W.heap.size W W') : Dd W' d kd li gg := ⟨keepcell hb h.c0, keepcell hb h.c1, keepcell hb h.c2⟩
theorem Dd.new (W : World) (kd li gg : Int) (T : TypeId) : Dd (W.alloc (.cells #[.int .i64 kd, .int .i64 li, .int .i64 gg] T)) W.heap.size kd li gg :=
  ⟨by rw [World.cell?_alloc_at _ _ _ _ rfl]; rfl, by rw [World.cell?_alloc_at _ _ _ _ rfl]; rfl, by rw [World.cell?_alloc_at _ _ _ _ rfl]; rfl⟩
theorem Dd.lt {W : World} {d : Nat} {kd li gg : Int} (h : Dd W d kd li gg) : d < W.heap.size := World.block_lt_of_cell? W ⟨d, 0, none⟩ h.c0
theorem Dd.turned {W W' : World} {d b : Nat} {kd li gg : Int} (h : Dd W d kd li gg) (hg : W.grownBy W' (some b)) (hne : d ≠ b) : Dd W' d kd li gg := by
  have hk : W'.heap[d]? = W.heap[d]? := hg.block d h.lt (fun e => hne (by injection e))
  exact ⟨(World.cell?_of_block (w := W) hk).trans h.c0, (World.cell?_of_block (w := W) hk).trans h.c1, (World.cell?_of_block (w := W) hk).trans h.c2⟩
/-- What is there beside the arena: the document's arena in its variable. -/
structure Ex (W : World) (b cx m : Nat) (q : List (List Int)) (A : Option Addr) (n c : Nat) : Prop where
  cel : Cel5 W cx (.int .i64 m) (.slice A n c)
  rws : Rws W (fun z => z ≠ b ∧ z ≠ cx) A n c q
theorem Ex.step {W W' : World} {b cx m n c : Nat} {q : List (List Int)} {A : Option Addr} (h : Ex W b cx m q A n c) (hb : Below W.heap.size W W') : Ex W' b cx m q A n c := ⟨h.cel.step hb, h.rws.step hb⟩
theorem Ex.turned {W W' : World} {b cx m n c : Nat} {q : List (List Int)} {A : Option Addr} (h : Ex W b cx m q A n c) (hg : W.grownBy W' (some b)) (hne : cx ≠ b) : Ex W' b cx m q A n c :=
  ⟨h.cel.grown hg (fun e => hne (by injection e)), h.rws.turned hg (fun e => e.1 rfl)⟩
/-- The variable is written anew. -/
theorem Ex.put {W : World} {b cx m n c n' c' : Nat} {q q' : List (List Int)} {A A' : Option Addr} (h : Ex W b cx m q A n c) (hr : Rws W (fun z => z ≠ b ∧ z ≠ cx) A' n' c' q') : Ex ((W.setCell ⟨cx, 0, none⟩ (.int .i64 m)).setCell ⟨cx, 1, none⟩ (.slice A' n' c')) b cx m q' A' n' c' :=
  ⟨h.cel.put _ _, (hr.turned (grown_setCell W cx 0 _) (fun e => e.2 rfl)).turned (grown_setCell _ cx 1 _) (fun e => e.2 rfl)⟩
theorem ar_put2 {W : World} {b cx m : Nat} {q : List (List Int)} {u v : Value} (h : Ar W b m q) (hne : cx ≠ b) : Ar ((W.setCell ⟨cx, 0, none⟩ u).setCell ⟨cx, 1, none⟩ v) b m q :=
  h.keep (by rw [Below.heap_setCell _ _ _ _ (by simp only; omega), Below.heap_setCell _ _ _ _ (by simp only; omega)])
theorem long {W : World} {b m : Nat} {q : List (List Int)} (h : Ar W b m q) : ∀ (i : Nat) l, q[i]? = some l → l.length ≤ 1000 := by
  intro i l hi
  have h1 := Qp.all_length h.ok i
  rw [Qp.all_at hi] at h1
  have := h.m64
  omega
theorem held_trans {W9 W w' : World} (h : Below W9.heap.size W9 W) (hb : Below W.heap.size W w') : Below W9.heap.size W9 w' := h.trans (hb.mono h.size)
theorem of_below (b m : Nat) (q : List (List Int)) (g : Int) (w : World) (h : Ar w b m q) :
    Calls Try.prog 22 #[.pointer (some ⟨b, 0, none⟩), .int .i64 g] w fun e w' => e = .returned (.int .i64 (Qp.of q g)) ∧ Below w.heap.size w w' :=
  (of_any b m q g w h).mono fun e w' ⟨he, hw⟩ => ⟨he, hw ▸ Below.refl _ _⟩
set_option maxHeartbeats 4000000 in
set_option maxRecDepth 100000 in
theorem walk (r n : Int) (D : Option Addr) (md dd : Nat) (ds : List (Int × Int × Int)) (w : World) (hm : Hid (ds.length = md)) (hl2 : md ≤ 9223372036854775807) (hf : Hid (Fit3 ds)) (hd : DRow w D ds) :
    Calls Try.prog 3 #[.int .i64 r, .int .i64 n, .slice D md dd] w fun e w' => e = .returned (.bool true) ∧ Below w.heap.size w w' := by
  have HD := Lib.hid hd
  clear hd
  cases hmay : mayB r n with
  | false =>
    have HM := Lib.hid hmay
    clear hmay
    go_enter Try.func3, Try.ntmps3
    go_wp2_with fail
    refine (shown_any _).mono ?_
    rintro e w1 ⟨rfl, hb1⟩
    have B1 := Lib.hid hb1
    clear hb1
    go_wp2_with fail
    refine (new_no r n w1 HM.out).mono ?_
    rintro e w2 ⟨rfl, rfl⟩
    go_wp2_with fail
    refine (refNew_no r n w1 HM.out).mono ?_
    rintro e w3 ⟨rfl, hb3⟩
    have B3 := Lib.hid ((B1.out.trans (hb3.mono B1.out.size)).alloc (by have := B1.out.size; have := hb3.size; omega) (.cells #[.int .i64 0, .slice none 0 0] 30))
    clear hb3
    go_wp2_with fail
    generalize w3.alloc (.cells #[.int .i64 0, .slice none 0 0] 30) = W3 at B3 ⊢
    go_loopw [12] (fun i wr => i = .int .i64 0 ∧ Hid (Below w.heap.size w wr)) (fun _ _ => 0)
    case atStart => exact ⟨rfl, B3⟩
    case round =>
      obtain ⟨rfl, HB⟩ := hrel
      by_cases h0 : 0 < md
      · go_wp2_with fail
        go_ret
        exact ⟨rfl, HB.out⟩
      · go_wp2_with fail
        go_ret
        exact ⟨rfl, HB.out⟩
  | true =>
    have hmm : 1 ≤ r ∧ r ≤ 64 ∧ 1 ≤ n ∧ n ≤ 64 := by unfold mayB at hmay; simpa using hmay
    obtain ⟨h1, h2, h3, h4⟩ := hmm
    obtain ⟨m, rfl⟩ : ∃ i : Nat, r = i := ⟨r.toNat, by omega⟩
    obtain ⟨n, rfl⟩ : ∃ i : Nat, n = i := ⟨n.toNat, by omega⟩
    clear hmay
    go_enter Try.func3, Try.ntmps3
    go_wp2_with fail
    refine (shown_any _).mono ?_
    rintro e w1 ⟨rfl, hb1⟩
    have B1 := Lib.hid hb1
    clear hb1
    go_wp2_with fail
    refine (new_yes m n w1 (by omega) (by omega) (by omega) (by omega)).mono ?_
    rintro e w2 ⟨rfl, hA, hb⟩
    obtain ⟨b, hbb⟩ : ∃ b, b = w1.heap.size := ⟨_, rfl⟩
    rw [← hbb] at hA ⊢
    have hwb : w.heap.size ≤ b := by rw [hbb]; exact B1.out.size
    have A2 := Lib.hid hA
    have B2 := Lib.hid (B1.out.trans (hb.mono B1.out.size))
    have hb2 : b < w2.heap.size := hA.lt
    clear hA hb hbb B1
    go_wp2_with fail
    refine (refNew_yes m n (fun z => z ≠ b) w2 (fun z hz => by omega) (by omega) (by omega) (by omega) (by omega)).mono ?_
    rintro e w3 ⟨A3, n3, c3, rfl, hR3, hb3⟩
    have hbn := below_new w3 (.cells #[.int .i64 (m : Int), .slice A3 n3 c3] 30)
    have hb3s := hb3.size
    have E4 := Lib.hid (show Ex (w3.alloc (.cells #[.int .i64 (m : Int), .slice A3 n3 c3] 30)) b w3.heap.size m (List.replicate n []) A3 n3 c3 from
      ⟨Cel5.new _ _ _ _, (hR3.imp (fun z hz hp => ⟨hp, by omega⟩)).step hbn⟩)
    have A4 := Lib.hid ((A2.out.step hb3).step hbn)
    have B4 := Lib.hid ((B2.out.trans (hb3.mono B2.out.size)).trans (hbn.mono (by have := B2.out.size; omega)))
    have hcb : w3.heap.size ≠ b := by omega
    have hwc : w.heap.size ≤ w3.heap.size := by omega
    clear hR3 hb3 hbn hb3s
    go_wp2_with fail
    generalize w3.alloc (.cells #[.int .i64 (m : Int), .slice A3 n3 c3] 30) = W4 at E4 A4 B4 ⊢
    generalize w3.heap.size = cx at E4 hcb hwc ⊢
    go_loopw [12] (fun i wr => ∃ (j : Nat) (q : List (List Int)) (A : Option Addr) (nq c : Nat), j ≤ md ∧ j ≤ 300 ∧ i = .int .i64 j ∧ Hid (Ar wr b m q) ∧ Hid (Ex wr b cx m q A nq c) ∧ Hid (Below w.heap.size w wr)) (fun i _ => 300 - (intOf i).toNat)
    case atStart => exact ⟨0, _, _, _, _, Nat.zero_le _, Nat.zero_le _, rfl, A4, E4, B4⟩
    case round =>
      obtain ⟨j, q, A, nq, c, hj, hj2, rfl, HA, HE, HB⟩ := hrel
      by_cases hjm : j < md
      · by_cases hj300 : j < 300
        · obtain ⟨x, hx⟩ : ∃ x, ds[j]? = some x := ⟨_, List.getElem?_eq_getElem (by have := hm.out; omega)⟩
          obtain ⟨kd, li, gg⟩ := x
          obtain ⟨b', off, hDD, hlt', hc0, hc1, hc2⟩ := HD.out j _ hx
          subst hDD
          have c0 := (HB.out.cell (p := ⟨b', off + j * 3, none⟩) hlt').trans hc0
          have c1 := (HB.out.cell (p := ⟨b', off + j * 3 + 1, none⟩) hlt').trans hc1
          have c2 := (HB.out.cell (p := ⟨b', off + j * 3 + 2, none⟩) hlt').trans hc2
          simp only at c0 c1 c2
          have DD := Lib.hid (Dd.new wr kd li gg 34)
          obtain ⟨W5, hW5⟩ : ∃ W, W = wr.alloc (.cells #[.int .i64 kd, .int .i64 li, .int .i64 gg] 34) := ⟨_, rfl⟩
          have hbn := below_new wr (.cells #[.int .i64 kd, .int .i64 li, .int .i64 gg] 34)
          rw [← hW5] at hbn DD
          have A5 := Lib.hid (HA.out.step hbn)
          have E5 := Lib.hid (HE.out.step hbn)
          have B5 := Lib.hid (HB.out.trans (hbn.mono HB.out.size))
          have H5 := Lib.hid hW5
          have hdb : wr.heap.size ≠ b := by have := HA.out.lt; omega
          have hdc : wr.heap.size ≠ cx := by have := HE.out.cel.lt; omega
          have hwd : w.heap.size ≤ wr.heap.size := HB.out.size
          clear hc0 hc1 hc2 hx hW5 hbn
          have hnq : nq ≤ 1000 := by have h1 := HE.out.rws.len; have h2 := HA.out.n64; omega
          by_cases k0 : kd = 0
          · subst k0
            go_wp2_with fail
            rw [← H5.out]
            clear H5
            generalize wr.heap.size = d at DD hdb hdc hwd ⊢
            obtain ⟨p, hp⟩ : ∃ p, p = Qp.push q m li gg := ⟨_, rfl⟩
            refine (push_any b m q li gg W5 A5.out).mono ?_
            rintro e w6 ⟨rfl, hA, hg⟩
            rw [← hp] at hA ⊢
            obtain ⟨q1, e1⟩ := p
            have HP := Lib.hid hp
            clear hp
            have A6 := Lib.hid hA
            have E6 := Lib.hid (E5.out.turned hg hcb)
            have D6 := Lib.hid (DD.out.turned hg hdb)
            have B6 := Lib.hid (below_turned B5.out hg B5.out.size hwb)
            have x0 := E6.out.cel.c0
            have x1 := E6.out.cel.c1
            have dd0 := D6.out.c0
            have dd1 := D6.out.c1
            have dd2 := D6.out.c2
            have hblt := A6.out.lt
            have hclt := E6.out.cel.lt
            have hdlt := D6.out.lt
            clear hA hg c0 c1 c2
            go_wp2_with fail
            refine (refPush_any m (fun z => z ≠ b ∧ z ≠ cx) A nq c q li gg w6 E6.out.rws (fun z hz => by omega) hnq (long A5.out)).mono ?_
            rintro e w7 ⟨A7, n7, c7, rfl, hR7, hb7⟩
            rw [← HP.out] at hR7 ⊢
            have y1 : (e1 != e1) = false := by simp
            have hbn := below_new w7 (.cells #[.int .i64 (m : Int), .slice A7 n7 c7] 30)
            have E7 := (E6.out.step hb7).step hbn
            have z0 := E7.cel.c0
            have z1 := E7.cel.c1
            have z2 := E7.cel.f0
            have z3 := E7.cel.f1
            obtain ⟨W8, hW8⟩ : ∃ W8, W8 = ((w7.alloc (.cells #[.int .i64 (m : Int), .slice A7 n7 c7] 30)).setCell ⟨cx, 0, none⟩ (.int .i64 (m : Int))).setCell ⟨cx, 1, none⟩ (.slice A7 n7 c7) := ⟨_, rfl⟩
            have E8 := E7.put (hR7.step hbn)
            have A8 := ar_put2 (u := .int .i64 (m : Int)) (v := .slice A7 n7 c7) ((A6.out.step hb7).step hbn) hcb
            have D8 := ((((D6.out.step hb7).step hbn).turned (grown_setCell _ cx 0 (.int .i64 (m : Int))) hdc).turned (grown_setCell _ cx 1 (.slice A7 n7 c7)) hdc)
            have B8 := ((((B6.out.trans (hb7.mono B6.out.size)).trans (hbn.mono (by have := B6.out.size; have := hb7.size; omega))).setCell (p := ⟨cx, 0, none⟩) hwc (.int .i64 (m : Int))).setCell (p := ⟨cx, 1, none⟩) hwc (.slice A7 n7 c7))
            rw [← hW8] at E8 A8 D8 B8
            have HE8 := Lib.hid E8
            have HA8 := Lib.hid A8
            have HD8 := Lib.hid D8
            have HB8 := Lib.hid B8
            have H8 := Lib.hid hW8
            clear hbn E7 hR7 hb7 hW8 E8 A8 D8 B8 x0 x1 dd0 dd1 dd2
            have v1 : W8.cell? ⟨d, 1, none⟩ = some (.int .i64 li) := HD8.out.c1
            have v2 : W8.cell? ⟨d, 2, none⟩ = some (.int .i64 gg) := HD8.out.c2
            rw [H8.out] at v1 v2
            go_wp2_with fail
            rw [← H8.out] at v1 v2 ⊢
            clear H8 z0 z1 z2 z3
            refine (refAll_any m (fun z => z ≠ b ∧ z ≠ cx) A7 n7 c7 q1 li W8 HE8.out.rws).mono ?_
            rintro e w9 ⟨Al, nl, cl, rfl, hrl, hfl, hb9⟩
            have HE9 := Lib.hid (HE8.out.step hb9)
            have HA9 := Lib.hid (HA8.out.step hb9)
            have HD9 := Lib.hid (HD8.out.step hb9)
            have HB9 := Lib.hid (HB8.out.trans (hb9.mono HB8.out.size))
            have RL := Lib.hid hrl
            obtain ⟨o, ho⟩ : ∃ o, o = Qp.of q1 gg := ⟨_, rfl⟩
            have HO := Lib.hid ho
            have hnl : nl = (Qp.all q1 li).length := hrl.len.symm
            have HNL := Lib.hid hnl
            clear hrl hfl hb9 v1 v2 ho hnl
            have a0 := HE9.out.cel.c0
            have a1 := HE9.out.cel.c1
            have a2 := HD9.out.c1
            have a3 := HD9.out.c2
            have bz : Below w9.heap.size w9 w9.drew := (Below.refl _ _).drew
            have t1 : ((nl : Int) != (nl : Int)) = false := by simp
            have t2 : (o != o) = false := by simp
            go_wp2_with fail
            go_region_held3 (fun w' => w'.cell? ⟨cx, 0, none⟩ = some (.int .i64 (m : Int)) ∧ w'.cell? ⟨cx, 1, none⟩ = some (.slice A7 n7 c7) ∧ w'.cell? ⟨d, 1, none⟩ = some (.int .i64 li) ∧ w'.cell? ⟨d, 2, none⟩ = some (.int .i64 gg))
              (first
                | (go_split_ands; refine ⟨keepcell hbX (by assumption), keepcell hbX (by assumption), keepcell hbX (by assumption), keepcell hbX (by assumption)⟩)
                | (refine ⟨a0, a1, a2, a3⟩)
                | go_keep)
              (first
                | (go_at_call 20; refine (all_row b m q1 li _ (HA9.out.step bz)).mono ?_; rintro e u1 ⟨Aa, na, ca, rfl, hra, hfa, hbX⟩; have b1 := held_trans bz hbX)
                | (go_at_call 19; refine (ints_row Aa Al na nl ca cl _ _ _ rfl hra (RL.out.step b1)).mono ?_; rintro e u2 ⟨rfl, hbX⟩; have b2 := held_trans b1 hbX)
                | (go_at_call 21; refine (len_any b m q1 li _ (HA9.out.step b2)).mono ?_; rintro e u3 ⟨rfl, hbX⟩; rw [← HNL.out]; have b3 := held_trans b2 hbX)
                | (go_at_call 22; refine (of_below b m q1 gg _ (by first | exact HA9.out.step b3 | exact HA9.out.step b5)).mono ?_; rintro e u4 ⟨rfl, hbX⟩; rw [← HO.out]; have b4 : Below w9.heap.size w9 u4 := (by first | exact held_trans b3 hbX | exact held_trans b5 hbX))
                | (go_at_call 23; refine (refOf_any m (fun z => z ≠ b ∧ z ≠ cx) A7 n7 c7 q1 gg _ (by first | exact HE9.out.rws.step b4 | exact HE9.out.rws.step b3)).mono ?_; rintro e u5 ⟨rfl, hbX⟩; rw [← HO.out]; have b5 : Below w9.heap.size w9 u5 := (by first | exact held_trans b4 hbX | exact held_trans b3 hbX)))
            all_goals
              rename_i hHeld
              clear hHeld
              first
                | (have bl : Below w9.heap.size w9 u5 := b5; have HA10 := Lib.hid (HA9.out.step b5); have HE10 := Lib.hid (HE9.out.step b5); have HB10 := Lib.hid (HB9.out.trans (b5.mono HB9.out.size)))
              clear a0 a1 a2 a3 bz b1 b2 b3 b4 b5 bl hbX hra hfa
              go_wp2_with fail
              go_roundw
              case rel => exact ⟨j + 1, q1, A7, n7, c7, by omega, by omega, by go_num, HA10, HE10, HB10⟩
              case measure => simp [intOf]; omega
          · have k0' : (kd == 0) = false := by rw [beq_eq_false_iff_ne]; exact k0
            by_cases k1 : kd = 1
            · subst k1
              go_wp2_with fail
              rw [← H5.out]
              clear H5
              generalize wr.heap.size = d at DD hdb hdc hwd ⊢
              obtain ⟨q1, hq1⟩ : ∃ q1, q1 = Qp.pop q li := ⟨_, rfl⟩
              obtain ⟨e1, he1⟩ : ∃ e1, e1 = Qp.first q li := ⟨_, rfl⟩
              obtain ⟨s1, hs1⟩ : ∃ s1, s1 = Qp.some? q li := ⟨_, rfl⟩
              refine (pop_any b m q li W5 A5.out).mono ?_
              rintro e w6 ⟨rfl, hA, hg⟩
              rw [← hq1] at hA
              rw [← he1, ← hs1]
              have HQ := Lib.hid hq1
              have HE1 := Lib.hid he1
              have HS1 := Lib.hid hs1
              clear hq1 he1 hs1
              have A6 := Lib.hid hA
              have E6 := Lib.hid (E5.out.turned hg hcb)
              have D6 := Lib.hid (DD.out.turned hg hdb)
              have B6 := Lib.hid (below_turned B5.out hg B5.out.size hwb)
              have x0 := E6.out.cel.c0
              have x1 := E6.out.cel.c1
              have dd0 := D6.out.c0
              have dd1 := D6.out.c1
              have dd2 := D6.out.c2
              have hblt := A6.out.lt
              have hclt := E6.out.cel.lt
              have hdlt := D6.out.lt
              clear hA hg c0 c1 c2
              go_wp2_with fail
              refine (refPop_any m m (fun z => z ≠ b ∧ z ≠ cx) A nq c q li w6 E6.out.rws (fun z hz => by omega) hnq (long A5.out) A5.out.ok).mono ?_
              rintro e w7 ⟨A7, n7, c7, rfl, hR7, hb7⟩
              rw [← HQ.out] at hR7
              rw [← HE1.out, ← HS1.out]
              have y1 : (e1 != e1) = false := by simp
              have y2 : (s1 != s1) = false := by simp
              have hbn := below_new w7 (.cells #[.int .i64 (m : Int), .slice A7 n7 c7] 30)
              have E7 := (E6.out.step hb7).step hbn
              have z0 := E7.cel.c0
              have z1 := E7.cel.c1
              have z2 := E7.cel.f0
              have z3 := E7.cel.f1
              obtain ⟨W8, hW8⟩ : ∃ W8, W8 = ((w7.alloc (.cells #[.int .i64 (m : Int), .slice A7 n7 c7] 30)).setCell ⟨cx, 0, none⟩ (.int .i64 (m : Int))).setCell ⟨cx, 1, none⟩ (.slice A7 n7 c7) := ⟨_, rfl⟩
              have E8 := E7.put (hR7.step hbn)
              have A8 := ar_put2 (u := .int .i64 (m : Int)) (v := .slice A7 n7 c7) ((A6.out.step hb7).step hbn) hcb
              have D8 := ((((D6.out.step hb7).step hbn).turned (grown_setCell _ cx 0 (.int .i64 (m : Int))) hdc).turned (grown_setCell _ cx 1 (.slice A7 n7 c7)) hdc)
              have B8 := ((((B6.out.trans (hb7.mono B6.out.size)).trans (hbn.mono (by have := B6.out.size; have := hb7.size; omega))).setCell (p := ⟨cx, 0, none⟩) hwc (.int .i64 (m : Int))).setCell (p := ⟨cx, 1, none⟩) hwc (.slice A7 n7 c7))
              rw [← hW8] at E8 A8 D8 B8
              have HE8 := Lib.hid E8
              have HA8 := Lib.hid A8
              have HD8 := Lib.hid D8
              have HB8 := Lib.hid B8
              have H8 := Lib.hid hW8
              clear hbn E7 hR7 hb7 hW8 E8 A8 D8 B8 x0 x1 dd0 dd1 dd2
              have v1 : W8.cell? ⟨d, 1, none⟩ = some (.int .i64 li) := HD8.out.c1
              have v2 : W8.cell? ⟨d, 2, none⟩ = some (.int .i64 gg) := HD8.out.c2
              rw [H8.out] at v1 v2
              go_wp2_with fail
              rw [← H8.out] at v1 v2 ⊢
              clear H8 z0 z1 z2 z3
              refine (refAll_any m (fun z => z ≠ b ∧ z ≠ cx) A7 n7 c7 q1 li W8 HE8.out.rws).mono ?_
              rintro e w9 ⟨Al, nl, cl, rfl, hrl, hfl, hb9⟩
              have HE9 := Lib.hid (HE8.out.step hb9)
              have HA9 := Lib.hid (HA8.out.step hb9)
              have HD9 := Lib.hid (HD8.out.step hb9)
              have HB9 := Lib.hid (HB8.out.trans (hb9.mono HB8.out.size))
              have RL := Lib.hid hrl
              obtain ⟨o, ho⟩ : ∃ o, o = Qp.of q1 gg := ⟨_, rfl⟩
              have HO := Lib.hid ho
              have hnl : nl = (Qp.all q1 li).length := hrl.len.symm
              have HNL := Lib.hid hnl
              clear hrl hfl hb9 v1 v2 ho hnl
              have a0 := HE9.out.cel.c0
              have a1 := HE9.out.cel.c1
              have a2 := HD9.out.c1
              have a3 := HD9.out.c2
              have bz : Below w9.heap.size w9 w9.drew := (Below.refl _ _).drew
              have t1 : ((nl : Int) != (nl : Int)) = false := by simp
              have t2 : (o != o) = false := by simp
              go_wp2_with fail
              go_region_held3 (fun w' => w'.cell? ⟨cx, 0, none⟩ = some (.int .i64 (m : Int)) ∧ w'.cell? ⟨cx, 1, none⟩ = some (.slice A7 n7 c7) ∧ w'.cell? ⟨d, 1, none⟩ = some (.int .i64 li) ∧ w'.cell? ⟨d, 2, none⟩ = some (.int .i64 gg))
                (first
                  | (go_split_ands; refine ⟨keepcell hbX (by assumption), keepcell hbX (by assumption), keepcell hbX (by assumption), keepcell hbX (by assumption)⟩)
                  | (refine ⟨a0, a1, a2, a3⟩)
                  | go_keep)
                (first
                  | (go_at_call 20; refine (all_row b m q1 li _ (HA9.out.step bz)).mono ?_; rintro e u1 ⟨Aa, na, ca, rfl, hra, hfa, hbX⟩; have b1 := held_trans bz hbX)
                  | (go_at_call 19; refine (ints_row Aa Al na nl ca cl _ _ _ rfl hra (RL.out.step b1)).mono ?_; rintro e u2 ⟨rfl, hbX⟩; have b2 := held_trans b1 hbX)
                  | (go_at_call 21; refine (len_any b m q1 li _ (HA9.out.step b2)).mono ?_; rintro e u3 ⟨rfl, hbX⟩; rw [← HNL.out]; have b3 := held_trans b2 hbX)
                  | (go_at_call 22; refine (of_below b m q1 gg _ (by first | exact HA9.out.step b3 | exact HA9.out.step b5)).mono ?_; rintro e u4 ⟨rfl, hbX⟩; rw [← HO.out]; have b4 : Below w9.heap.size w9 u4 := (by first | exact held_trans b3 hbX | exact held_trans b5 hbX))
                  | (go_at_call 23; refine (refOf_any m (fun z => z ≠ b ∧ z ≠ cx) A7 n7 c7 q1 gg _ (by first | exact HE9.out.rws.step b4 | exact HE9.out.rws.step b3)).mono ?_; rintro e u5 ⟨rfl, hbX⟩; rw [← HO.out]; have b5 : Below w9.heap.size w9 u5 := (by first | exact held_trans b4 hbX | exact held_trans b3 hbX)))
              all_goals
                rename_i hHeld
                clear hHeld
                first
                  | (have bl : Below w9.heap.size w9 u5 := b5; have HA10 := Lib.hid (HA9.out.step b5); have HE10 := Lib.hid (HE9.out.step b5); have HB10 := Lib.hid (HB9.out.trans (b5.mono HB9.out.size)))
                clear a0 a1 a2 a3 bz b1 b2 b3 b4 b5 bl hbX hra hfa
                go_wp2_with fail
                go_roundw
                case rel => exact ⟨j + 1, q1, A7, n7, c7, by omega, by omega, by go_num, HA10, HE10, HB10⟩
                case measure => simp [intOf]; omega
            · have k1' : (kd == 1) = false := by rw [beq_eq_false_iff_ne]; exact k1
              go_wp2_with fail
              rw [← H5.out]
              clear H5
              generalize wr.heap.size = d at DD hdb hdc hwd ⊢
              obtain ⟨q1, hq1⟩ : ∃ q1, q1 = Qp.drop q gg := ⟨_, rfl⟩
              obtain ⟨s1, hs1⟩ : ∃ s1, s1 = Qp.stands q gg := ⟨_, rfl⟩
              refine (drop_any b m q gg W5 A5.out).mono ?_
              rintro e w6 ⟨rfl, hA, hg⟩
              rw [← hq1] at hA
              rw [← hs1]
              have HQ := Lib.hid hq1
              have HS1 := Lib.hid hs1
              clear hq1 hs1
              have A6 := Lib.hid hA
              have E6 := Lib.hid (E5.out.turned hg hcb)
              have D6 := Lib.hid (DD.out.turned hg hdb)
              have B6 := Lib.hid (below_turned B5.out hg B5.out.size hwb)
              have x0 := E6.out.cel.c0
              have x1 := E6.out.cel.c1
              have dd0 := D6.out.c0
              have dd1 := D6.out.c1
              have dd2 := D6.out.c2
              have hblt := A6.out.lt
              have hclt := E6.out.cel.lt
              have hdlt := D6.out.lt
              clear hA hg c0 c1 c2
              go_wp2_with fail
              refine (refDrop_any m m (fun z => z ≠ b ∧ z ≠ cx) A nq c q gg w6 E6.out.rws (fun z hz => by omega) hnq (long A5.out) A5.out.ok).mono ?_
              rintro e w7 ⟨A7, n7, c7, rfl, hR7, hb7⟩
              rw [← HQ.out] at hR7
              rw [← HS1.out]
              have y2 : (s1 != s1) = false := by simp
              have hbn := below_new w7 (.cells #[.int .i64 (m : Int), .slice A7 n7 c7] 30)
              have E7 := (E6.out.step hb7).step hbn
              have z0 := E7.cel.c0
              have z1 := E7.cel.c1
              have z2 := E7.cel.f0
              have z3 := E7.cel.f1
              obtain ⟨W8, hW8⟩ : ∃ W8, W8 = ((w7.alloc (.cells #[.int .i64 (m : Int), .slice A7 n7 c7] 30)).setCell ⟨cx, 0, none⟩ (.int .i64 (m : Int))).setCell ⟨cx, 1, none⟩ (.slice A7 n7 c7) := ⟨_, rfl⟩
              have E8 := E7.put (hR7.step hbn)
              have A8 := ar_put2 (u := .int .i64 (m : Int)) (v := .slice A7 n7 c7) ((A6.out.step hb7).step hbn) hcb
              have D8 := ((((D6.out.step hb7).step hbn).turned (grown_setCell _ cx 0 (.int .i64 (m : Int))) hdc).turned (grown_setCell _ cx 1 (.slice A7 n7 c7)) hdc)
              have B8 := ((((B6.out.trans (hb7.mono B6.out.size)).trans (hbn.mono (by have := B6.out.size; have := hb7.size; omega))).setCell (p := ⟨cx, 0, none⟩) hwc (.int .i64 (m : Int))).setCell (p := ⟨cx, 1, none⟩) hwc (.slice A7 n7 c7))
              rw [← hW8] at E8 A8 D8 B8
              have HE8 := Lib.hid E8
              have HA8 := Lib.hid A8
              have HD8 := Lib.hid D8
              have HB8 := Lib.hid B8
              have H8 := Lib.hid hW8
              clear hbn E7 hR7 hb7 hW8 E8 A8 D8 B8 x0 x1 dd0 dd1 dd2
              have v1 : W8.cell? ⟨d, 1, none⟩ = some (.int .i64 li) := HD8.out.c1
              have v2 : W8.cell? ⟨d, 2, none⟩ = some (.int .i64 gg) := HD8.out.c2
              rw [H8.out] at v1 v2
              go_wp2_with fail
              rw [← H8.out] at v1 v2 ⊢
              clear H8 z0 z1 z2 z3
              refine (refAll_any m (fun z => z ≠ b ∧ z ≠ cx) A7 n7 c7 q1 li W8 HE8.out.rws).mono ?_
              rintro e w9 ⟨Al, nl, cl, rfl, hrl, hfl, hb9⟩
              have HE9 := Lib.hid (HE8.out.step hb9)
              have HA9 := Lib.hid (HA8.out.step hb9)
              have HD9 := Lib.hid (HD8.out.step hb9)
              have HB9 := Lib.hid (HB8.out.trans (hb9.mono HB8.out.size))
              have RL := Lib.hid hrl
              obtain ⟨o, ho⟩ : ∃ o, o = Qp.of q1 gg := ⟨_, rfl⟩
              have HO := Lib.hid ho
              have hnl : nl = (Qp.all q1 li).length := hrl.len.symm
              have HNL := Lib.hid hnl
              clear hrl hfl hb9 v1 v2 ho hnl
              have a0 := HE9.out.cel.c0
              have a1 := HE9.out.cel.c1
              have a2 := HD9.out.c1
              have a3 := HD9.out.c2
              have bz : Below w9.heap.size w9 w9.drew := (Below.refl _ _).drew
              have t1 : ((nl : Int) != (nl : Int)) = false := by simp
              have t2 : (o != o) = false := by simp
              go_wp2_with fail
              go_region_held3 (fun w' => w'.cell? ⟨cx, 0, none⟩ = some (.int .i64 (m : Int)) ∧ w'.cell? ⟨cx, 1, none⟩ = some (.slice A7 n7 c7) ∧ w'.cell? ⟨d, 1, none⟩ = some (.int .i64 li) ∧ w'.cell? ⟨d, 2, none⟩ = some (.int .i64 gg))
                (first
                  | (go_split_ands; refine ⟨keepcell hbX (by assumption), keepcell hbX (by assumption), keepcell hbX (by assumption), keepcell hbX (by assumption)⟩)
                  | (refine ⟨a0, a1, a2, a3⟩)
                  | go_keep)
                (first
                  | (go_at_call 20; refine (all_row b m q1 li _ (HA9.out.step bz)).mono ?_; rintro e u1 ⟨Aa, na, ca, rfl, hra, hfa, hbX⟩; have b1 := held_trans bz hbX)
                  | (go_at_call 19; refine (ints_row Aa Al na nl ca cl _ _ _ rfl hra (RL.out.step b1)).mono ?_; rintro e u2 ⟨rfl, hbX⟩; have b2 := held_trans b1 hbX)
                  | (go_at_call 21; refine (len_any b m q1 li _ (HA9.out.step b2)).mono ?_; rintro e u3 ⟨rfl, hbX⟩; rw [← HNL.out]; have b3 := held_trans b2 hbX)
                  | (go_at_call 22; refine (of_below b m q1 gg _ (by first | exact HA9.out.step b3 | exact HA9.out.step b5)).mono ?_; rintro e u4 ⟨rfl, hbX⟩; rw [← HO.out]; have b4 : Below w9.heap.size w9 u4 := (by first | exact held_trans b3 hbX | exact held_trans b5 hbX))
                  | (go_at_call 23; refine (refOf_any m (fun z => z ≠ b ∧ z ≠ cx) A7 n7 c7 q1 gg _ (by first | exact HE9.out.rws.step b4 | exact HE9.out.rws.step b3)).mono ?_; rintro e u5 ⟨rfl, hbX⟩; rw [← HO.out]; have b5 : Below w9.heap.size w9 u5 := (by first | exact held_trans b4 hbX | exact held_trans b3 hbX)))
              all_goals
                rename_i hHeld
                clear hHeld
                first
                  | (have bl : Below w9.heap.size w9 u5 := b5; have HA10 := Lib.hid (HA9.out.step b5); have HE10 := Lib.hid (HE9.out.step b5); have HB10 := Lib.hid (HB9.out.trans (b5.mono HB9.out.size)))
                clear a0 a1 a2 a3 bz b1 b2 b3 b4 b5 bl hbX hra hfa
                go_wp2_with fail
                go_roundw
                case rel => exact ⟨j + 1, q1, A7, n7, c7, by omega, by omega, by go_num, HA10, HE10, HB10⟩
                case measure => simp [intOf]; omega
        · obtain rfl : j = 300 := by omega
          go_wp2_with fail
          go_ret
          exact ⟨rfl, HB.out⟩
      · obtain rfl : j = md := by omega
        go_wp2_with fail
        go_ret
        exact ⟨rfl, HB.out⟩
set_option maxRecDepth 100000 in
theorem lifted (os : Os) (started : os.Started) (H : Type) (enc : TypeId × Value → H) :
    ReturnsInHanded {} Try.checked os 3 .any (Rows.fifoPlaysSpec.pre6 enc Try.prog Try.f3 Rows.fifoPlaysRow.domain false) (Rows.fifoPlaysSpec.post enc Try.prog Try.f3 false true false false) := by
  refine returnsInHanded_of_change (C := Try.checked) own started (by kernel_rfl) Try.func3
    (ChangeSpec.witness6 (enc := enc) (C := Try.checked) false ⟨#[], #[.int .i64 0, .int .i64 0, .slice none 0 0], []⟩ 8 (by kernel_rfl) (by kernel_rfl) (by kernel_rfl) (by kernel_rfl)) ?_
  intro W base args ds gs before hval0 hW hcnd _
  have hval : ∀ (j : Nat) t v, Try.f3.params[j]? = some t → args[j]? = some v → Value.okWide Try.prog W .any base t v := hval0
  have hW' := hW
  obtain ⟨p, q, hA0, hV, rfl, hfz, hnd⟩ := hW
  have hA : DataW.TrodAll enc Try.prog W 0 (fun _ => true) true Try.f3.params.toList args.toList ds p := hA0
  rw [Try.params3] at hA hval
  obtain ⟨v0, vs0, d0, ds0, p0, q0, hargs, rfl, rfl, h0, r0⟩ := trodAll_cons hA
  obtain ⟨v1, vs1, d1, ds1, p1, q1, rfl, rfl, rfl, h1, r1⟩ := trodAll_cons r0
  obtain ⟨v2, vs2, d2, ds2, p2, q2, rfl, rfl, rfl, h2, r2⟩ := trodAll_cons r1
  obtain ⟨rfl, rfl, rfl⟩ := trodAll_nil r2
  obtain rfl : args = #[v0, v1, v2] := by cases args; simp_all
  obtain ⟨rfl, rfl⟩ := trodVars_none hV
  obtain ⟨a0, rfl, rfl, rfl, w0⟩ := open_int Try.underlying3 (hval 0 3 v0 rfl rfl) h0
  obtain ⟨a1, rfl, rfl, rfl, w1⟩ := open_int Try.underlying3 (hval 1 3 v1 rfl rfl) h1
  have k2 := h2
  have lt2 : ∀ x ∈ p2, x.block < W.heap.size := by obtain ⟨m, hm⟩ := k2; exact DataW.trod_lt m _ _ _ hm
  obtain ⟨a2, len2, cap2, rfl⟩ := okWide_slice Try.underlying22 (hval 2 22 v2 rfl rfl)
  obtain ⟨aa2, ll2, cc2, z2, ev2, hn2, hr2⟩ : ∃ A n c zs, Value.slice a2 len2 cap2 = .slice A n c ∧ (zs.length = n ∧ n ≤ 9223372036854775807) ∧ Fit3 zs ∧ DRow W A zs := by
    obtain ⟨fuel, hf⟩ := h2
    exact open_deeds (by simpa [Value.cells] using hf)
  injection ev2 with ea2 eb2 ec2
  subst ea2 eb2 ec2
  clear hA0 hval0
  refine (walk a0 a1 a2 len2 cap2 z2 W (Lib.hid hn2.1) hn2.2 (Lib.hid hr2.1) hr2.2).mono fun e W' ⟨he, bel⟩ => ?_
  subst he
  exact ⟨_, rfl, _, _, _, [], _, [], hW', trodAll_mk1 (shut_bool Try.underlying4 _), (trodAll_cons_mk (shut_int Try.underlying3 w0) (trodAll_cons_mk (shut_int Try.underlying3 w1) (trodAll_cons_mk (Below.trod laidOut (by kernel_rfl) (of_decide_eq_true (by kernel_rfl)) k2 bel lt2) trodAll_mk0))), rfl, bel.frame _, fun h => by cases h⟩
theorem over : Rows.fifoPlaysRow.holds Try.pinned (OpenSpec.ofChange Rows.fifoPlaysSpec) :=
  OpenClaim.holds_of_wide 3 Try.f3 rfl rfl rfl rfl rfl rfl rfl ⟨rfl, rfl, rfl, rfl, rfl⟩ rfl rfl rfl rfl rfl (by kernel_rfl) Try.func3 (by kernel_rfl)
    (of_decide_eq_true (by kernel_rfl)) (by unfold Func.isWrapper; first | (rw [if_pos (by decide +kernel)]; kernel_rfl) | (rw [if_neg (by decide +kernel)]; exact ⟨rfl, rfl⟩))
    (fun os started H enc _ => lifted os started H enc)
theorem proved : Rows.FifoPlaysSaid := over
end Go.Proofs.Ythljecllmdbbbaa.fifoPlays

