/- HeapPlays: whatever is pushed, popped, and dropped, each answer, and all timers, are the document's: the call answers true and changes nothing that was there; for every input. -/
import Derived.Test.YtjcljdehhckaeaaHKeep
import Derived.Test.YtjcljdehhckaeaaHFrame
import Derived.Test.YtjcljdehhckaeaaHAll
import Derived.Test.YtjcljdehhckaeaaHDrop
import Derived.Test.YtjcljdehhckaeaaHRefPush
import Derived.Test.YtjcljdehhckaeaaHSame
import Derived.Deep.RegionHeld3
import Derived.Deep.CutBlock
namespace Go.Proofs.Ytjcljdehhckaeaa.heapPlays
open Go.ChangeShapes Go.WideShapes Go.ChangeAt Go.RowKit
set_option linter.unusedVariables false

/-- One is taken first; its place written out. -/
theorem wpAnyH_takes {P : Program} {ops : Array Oper} {Q : Exit → Act → World → Prop} {md : Region.Mode} {S : World → Prop} {i : Nat} {oi : Oper} {v : Value} {fuel : Nat} {listed : Array Bool} {a : Act} {w : World} (d : Option Tmp) (hi : ops[i]? = some oi) (hd : oi.dst = d)
    (hs : Region.noSelect ops = true) (hf : Region.free md ops listed i = true) (hr : (Region.ready md ops listed).contains i = true)
    (hQ : ∀ c a w, Q (.panic c) (a.put d v) w → Q (.panic c) a w) (hy : YieldsIf P ops S oi v a) (hS : S w)
    (h : wpAnyH P md ops Q S fuel (listed.setIfInBounds i true) (a.put d v) w) : wpAnyH P md ops Q S (fuel + 1) listed a w := by
  subst hd
  exact wpAnyH_take hi hs hf hr hQ hy hS h
/-- What is carried from deed to deed: the heap, the document's list. -/
structure Pl (w0 w : World) (b : Nat) (F : Nat → Prop) (l : List Hp.Tm) (A : Option Addr) (n c : Nat) (L : List Hp.Tm) : Prop where
  hm : HM w b F l
  hF : ∀ k, F k → w0.heap.size ≤ k
  hh : Hp.Heap l
  row : TR w A n c L
  out : 0 < n → ∀ ad, A = some ad → ¬ F ad.block
  hs : Hp.Sorted L
  hp : L.Perm l
  below : Below w0.heap.size w0 w
theorem Pl.step {w0 w w' : World} {b n c : Nat} {F : Nat → Prop} {l L : List Hp.Tm} {A : Option Addr} (h : Pl w0 w b F l A n c L) (hb : Below w.heap.size w w') : Pl w0 w' b F l A n c L :=
  ⟨h.hm.step hb, h.hF, h.hh, h.row.step hb, h.out, h.hs, h.hp, h.below.trans (hb.mono h.below.size)⟩
theorem Pl.len {w0 w : World} {b n c : Nat} {F : Nat → Prop} {l L : List Hp.Tm} {A : Option Addr} (h : Pl w0 w b F l A n c L) : l.length = n := by rw [← h.hp.length_eq]; exact h.row.len
theorem Pl.srt {w0 w : World} {b n c : Nat} {F : Nat → Prop} {l L : List Hp.Tm} {A : Option Addr} (h : Pl w0 w b F l A n c L) : Hp.srt l = L := Hp.srt_of h.hs h.hp
theorem Pl.told {w0 w : World} {b n c : Nat} {F : Nat → Prop} {l L : List Hp.Tm} {A : Option Addr} (h : Pl w0 w b F l A n c L) : told l = told L := by
  cases l with
  | nil => rw [List.length_eq_zero_iff.1 (show L.length = 0 by rw [h.hp.length_eq]; rfl)]
  | cons x t =>
    have h0 := Hp.head_first h.hh (x := x) rfl h.hs h.hp
    cases L with
    | nil => simp at h0
    | cons y s =>
      simp at h0
      subst h0
      simp [Go.Proofs.Ytjcljdehhckaeaa.told]
/-- A row that has a member, and lies in blocks of which F doesn't hold, is as it was. -/
theorem TR.kept' {F : Nat → Prop} {w w' : World} {A : Option Addr} {n c : Nat} {ts : List Hp.Tm} (h : TR w A n c ts) (hk : Kept F w w') (hn : 0 < n → ∀ ad, A = some ad → ¬ F ad.block) : TR w' A n c ts := by
  by_cases h0 : n = 0
  · subst h0
    obtain rfl := List.length_eq_zero_iff.1 h.len
    exact ⟨rfl, h.cap, h.most, h.nil, fun i z hi => by simp at hi⟩
  · exact h.kept hk (hn (by omega))
theorem Pl.new {w0 w : World} (h : Below w0.heap.size w0 w) : Pl w0 (w.alloc (.cells #[.slice none 0 0] 27)) w.heap.size (fun k => k = w.heap.size) [] none 0 0 [] :=
  ⟨HM.new w, fun k hk => by subst hk; exact h.size, Hp.heap_nil, TR.nothing _, fun e => by omega, Hp.sorted_nil, List.Perm.refl _, h.trans ((below_new w _).mono h.size)⟩
/-- .. in the midst of a deed. -/
structure Pm (w0 w : World) (b : Nat) (F : Nat → Prop) (l : List Hp.Tm) (A : Option Addr) (n c : Nat) (L : List Hp.Tm) : Prop where
  hm : HM w b F l
  hF : ∀ k, F k → w0.heap.size ≤ k
  hh : Hp.Heap l
  row : TR w A n c L
  out : 0 < n → ∀ ad, A = some ad → ¬ F ad.block
  below : Below w0.heap.size w0 w
theorem Pm.step {w0 w w' : World} {b n c : Nat} {F : Nat → Prop} {l L : List Hp.Tm} {A : Option Addr} (h : Pm w0 w b F l A n c L) (hb : Below w.heap.size w w') : Pm w0 w' b F l A n c L :=
  ⟨h.hm.step hb, h.hF, h.hh, h.row.step hb, h.out, h.below.trans (hb.mono h.below.size)⟩
theorem Pm.cut {w0 w : World} {b n c bl ol : Nat} {F : Nat → Prop} {l t : List Hp.Tm} {x : Hp.Tm} (h : Pm w0 w b F l (some ⟨bl, ol, none⟩) n c (x :: t)) (hs : Hp.Sorted (x :: t)) (hp : t.Perm l) (hn : 1 ≤ n) : Pl w0 w b F l (if c = 1 then some ⟨bl, ol, none⟩ else some ⟨bl, ol + 1 * 3, none⟩) (n - 1) (c - 1) t := by
  refine ⟨h.hm, h.hF, h.hh, h.row.slice 1 hn, fun h0 ad e => ?_, Hp.sorted_tail hs, hp, h.below⟩
  have := h.out (by omega) _ rfl
  split at e <;> (injection e with e; subst e; exact this)
theorem pl_pop {w0 w : World} {b n c : Nat} {F : Nat → Prop} {l t : List Hp.Tm} {x : Hp.Tm} {A : Option Addr} (h : Pl w0 w b F l A n c (x :: t)) (hn : n ≤ 100000) :
    Calls Try.prog 12 #[.pointer (some ⟨b, 0, none⟩)] w fun e w' => e = .returned (.tuple #[tv x, .bool true]) ∧ ∃ l', t.Perm l' ∧ Pm w0 w' b F l' A n c (x :: t) := by
  obtain ⟨y, hy⟩ : ∃ y, l[0]? = some y := ⟨_, List.getElem?_eq_getElem (by rw [h.len, ← h.row.len]; simp)⟩
  have h0 := Hp.head_first h.hh hy h.hs h.hp
  simp at h0
  subst h0
  refine (pop_any b F l x w h.hm (Lib.hid h.hh) hy (by rw [h.len]; omega)).mono ?_
  rintro e w' ⟨rfl, l', hp, hh, hm', hk⟩
  exact ⟨rfl, l', (List.perm_cons x).1 (h.hp.trans hp.symm), hm', h.hF, hh, TR.kept' h.row hk h.out, h.out, hk.below h.below h.hF h.below.size⟩
theorem pl_none {w0 w : World} {b c : Nat} {F : Nat → Prop} {l : List Hp.Tm} {A : Option Addr} (h : Pl w0 w b F l A 0 c []) :
    Calls Try.prog 12 #[.pointer (some ⟨b, 0, none⟩)] w fun e w' => e = .returned (.tuple #[.agg #[.int .i64 0, .int .i64 0, .int .i64 0], .bool false]) ∧ Pl w0 w' b F l A 0 c [] := by
  obtain rfl : l = [] := List.length_eq_zero_iff.1 h.len
  refine (pop_empty b F w h.hm).mono ?_
  rintro e w' ⟨rfl, hb⟩
  exact ⟨rfl, h.step hb⟩
theorem pl_drop {w0 w : World} {b n c : Nat} {F : Nat → Prop} {l L : List Hp.Tm} {A : Option Addr} (h : Pl w0 w b F l A n c L) (hn : n ≤ 100000) (g q : Int) (hq : q = (n : Int) - (Hp.others L g).length) :
    Calls Try.prog 14 #[.pointer (some ⟨b, 0, none⟩), .int .i64 g] w fun e w' => e = .returned (.int .i64 q) ∧ Kept F w w' ∧ ∃ l', l'.Perm (Hp.others L g) ∧ Pm w0 w' b F l' A n c L := by
  refine (drop_any b F l g w h.hm (by rw [h.len]; omega)).mono ?_
  rintro e w' ⟨rfl, l', hp, hh, hm', hk⟩
  have hol := Hp.others_perm h.hp g
  refine ⟨by rw [hq, h.len, hol.length_eq], hk, l', hp.trans hol.symm, hm', h.hF, hh, TR.kept' h.row hk h.out, h.out, hk.below h.below h.hF h.below.size⟩
theorem pl_push {w0 w : World} {b n c : Nat} {F : Nat → Prop} {l L : List Hp.Tm} {A : Option Addr} (h : Pl w0 w b F l A n c L) (hn : n ≤ 100000) (t1 t2 t3 : Int) :
    Calls Try.prog 10 #[.pointer (some ⟨b, 0, none⟩), .agg #[.int .i64 t1, .int .i64 t2, .int .i64 t3]] w fun e w' => e = .returned (.tuple #[]) ∧ (∃ F' l', HM w' b F' l' ∧ (∀ k, F' k → w0.heap.size ≤ k) ∧ Hp.Heap l' ∧ l'.Perm (l ++ [(t1, t2, t3)])) ∧ TR w' A n c L ∧ Below w0.heap.size w0 w' ∧ Kept F w w' := by
  refine (push_any b F l t1 t2 t3 w h.hm (Lib.hid h.hh) (by rw [h.len]; exact hn)).mono ?_
  rintro e w' ⟨rfl, F', l', hp, hh, hm', hk, hf⟩
  exact ⟨rfl, ⟨F', l', hm', fun k hk' => (hf k hk').elim (h.hF k) (fun e => Nat.le_trans h.below.size e), hh, hp⟩, TR.kept' h.row hk h.out, hk.below h.below h.hF h.below.size, hk⟩
theorem len_call {w0 w : World} {b n c : Nat} {F : Nat → Prop} {l L : List Hp.Tm} {A : Option Addr} (h : Pl w0 w b F l A n c L) :
    Calls Try.prog 18 #[.pointer (some ⟨b, 0, none⟩)] w fun e w' => e = .returned (.int .i64 n) ∧ w' = w := by
  have h1 := len_any b F l w h.hm
  rwa [h.len] at h1
theorem all_call {w0 w : World} {b n c : Nat} {F : Nat → Prop} {l L : List Hp.Tm} {A : Option Addr} (h : Pl w0 w b F l A n c L) (hn : n ≤ 100000) :
    Calls Try.prog 17 #[.pointer (some ⟨b, 0, none⟩)] w fun e w' => ∃ A1 c1, e = .returned (.slice A1 n c1) ∧ TR w' A1 n c1 L ∧ Below w.heap.size w w' := by
  refine (all_any b F l w h.hm (by rw [h.len]; omega)).mono ?_
  rintro e w' ⟨A1, n1, c1, rfl, hr, _, hb⟩
  rw [h.srt] at hr
  obtain rfl : n1 = n := by rw [← hr.len]; exact h.row.len
  exact ⟨A1, c1, rfl, hr, hb⟩
set_option maxRecDepth 100000 in
set_option maxHeartbeats 8000000 in
theorem walk (A0 : Option Addr) (m0 c0 : Nat) (ds : List (Int × Hp.Tm)) (w : World) (h : ZRow w A0 m0 ds) :
    Calls Try.prog 3 #[.slice A0 m0 c0] w fun e w' => e = .returned (.bool true) ∧ Below w.heap.size w w' := by
  have hlen := h.1
  have hmx := h.2.1
  have HD := Lib.hid h.2.2
  clear h
  go_enter Try.func3, Try.ntmps3
  go_wp2_with fail
  refine (shown_any _).mono ?_
  rintro e w1 ⟨rfl, hb⟩
  have P0 := Lib.hid (Pl.new hb)
  clear hb
  go_wp2_with fail
  obtain ⟨b, hbn⟩ : ∃ b, b = w1.heap.size := ⟨_, rfl⟩
  rw [← hbn] at P0 ⊢
  generalize w1.alloc (.cells #[.slice none 0 0] 27) = V at *
  go_loopw [5, 6] (fun v i wr => ∃ (k : Nat) (A : Option Addr) (n c : Nat) (F : Nat → Prop) (l L : List Hp.Tm), v = .slice A n c ∧ i = .int .i64 k ∧ k ≤ m0 ∧ n ≤ k ∧ k ≤ 300 ∧ Hid (Pl w wr b F l A n c L)) (fun _ i _ => m0 - (intOf i).toNat)
  case atStart => exact ⟨0, none, 0, 0, _, [], [], rfl, rfl, by omega, by omega, by omega, P0⟩
  case round =>
    clear P0 hbn
    obtain ⟨k, A, n, c, F, l, L, rfl, rfl, hk, hn, hk3, P⟩ := hrel
    by_cases hlt : k < m0
    · have k1 : (k : Int) < (m0 : Int) := by omega
      by_cases h300 : k < 300
      · have k2 : (k : Int) < 300 := by omega
        obtain ⟨⟨kd, t1, t2, t3⟩, hd⟩ : ∃ d, ds[k]? = some d := ⟨_, List.getElem?_eq_getElem (by omega)⟩
        obtain ⟨bd, od, rfl, hbd, z0, z1, z2, z3⟩ := HD.out k _ hd
        simp only at z0 z1 z2 z3
        have z0 := P.out.below.cell (p := ⟨bd, _, none⟩) hbd |>.trans z0
        have z1 := P.out.below.cell (p := ⟨bd, _, none⟩) hbd |>.trans z1
        have z2 := P.out.below.cell (p := ⟨bd, _, none⟩) hbd |>.trans z2
        have z3 := P.out.below.cell (p := ⟨bd, _, none⟩) hbd |>.trans z3
        obtain ⟨W1, hW1, y0, y1, y2, _, hb1⟩ := new3v wr (.int .i64 t1) (.int .i64 t2) (.int .i64 t3) 30
        have z0 := keepcell hb1 z0
        have P1 := Lib.hid (P.out.step hb1)
        subst hW1
        have hX7 : ¬ F wr.heap.size := fun f => by have := P.out.hm.lt _ f; omega
        have hPu := Lib.hid (pl_push P1.out (by omega) t1 t2 t3)
        clear hd hb1 P
        go_upto_block 2 with fail
        generalize wr.alloc (.cells #[.int .i64 t1, .int .i64 t2, .int .i64 t3] 30) = W1 at *
        go_cut [5] (fun v wx => ∃ (A : Option Addr) (n c : Nat) (F : Nat → Prop) (l L : List Hp.Tm), v = .slice A n c ∧ n ≤ k + 1 ∧ Hid (Pl w wx b F l A n c L))
        case first =>
          by_cases hk0 : kd = 0
          · subst hk0
            go_wp2_with fail
            refine hPu.out.mono ?_
            rintro e w2 ⟨rfl, ⟨F', l', hm2, hF2, hh2, hp2⟩, hr2, hbe2, hkt⟩
            have y0 := hkt.cell y0 hX7
            have y1 := hkt.cell y1 hX7
            have y2 := hkt.cell y2 hX7
            have M2 := Lib.hid hm2
            have HRP := Lib.hid (refPush_any A n c L t1 t2 t3 w2 hr2 (Lib.hid P1.out.hs) (by omega))
            have HLP := Lib.hid ((P1.out.hp.append_right [(t1, t2, t3)]).trans hp2.symm)
            have hLn : L.length = n := P1.out.row.len
            clear hkt hm2 hr2 hp2 hPu P1
            go_wp2_with fail
            refine HRP.out.mono ?_
            rintro e w3 ⟨L', hs3, hp3, A', n', c', rfl, hr3, hf3, hb3⟩
            have hn3 : n' ≤ k + 1 := by have h1 : n' = n + 1 := (by rw [← hr3.len, hp3.length_eq]; simp [hLn]); omega
            have P3 : Hid (Pl w w3 b F' l' A' n' c' L') := Lib.hid ⟨M2.out.step hb3, hF2, hh2, hr3, fun _ ad e f => by have h1 := hf3 ad e; have h2 := M2.out.lt _ f; omega, hs3, hp3.trans HLP.out, hbe2.trans (hb3.mono hbe2.size)⟩
            clear hs3 hp3 hr3 hf3 hb3 HRP HLP M2 hF2 hh2 hbe2 y0 y1 y2
            go_wp2_with fail
            go_meet
            exact ⟨A', n', c', F', l', L', rfl, hn3, P3⟩
          · have hk1 : (kd == 0) = false := by rw [beq_eq_false_iff_ne]; exact hk0
            clear hPu
            by_cases hk2 : kd = 1
            · subst hk2
              clear y0 y1 y2
              by_cases h0 : n = 0
              · obtain rfl := List.length_eq_zero_iff.1 (P1.out.row.len.trans h0)
                subst h0
                go_wp2_with fail
                refine (pl_none P1.out).mono ?_
                rintro e w5 ⟨rfl, hP5⟩
                have P5 := Lib.hid hP5
                clear hP5 P1
                obtain ⟨W6, hW6, y0, y1, y2, _, hb6⟩ := new3v w5 (.int .i64 0) (.int .i64 0) (.int .i64 0) 30
                have P6 := Lib.hid (P5.out.step hb6)
                clear P5 hb6
                subst hW6
                go_wp2_with fail
                generalize w5.alloc (.cells #[.int .i64 0, .int .i64 0, .int .i64 0] 30) = W6 at *
                refine wp_region_held_drew (S := fun W => W.cell? ⟨w5.heap.size, 0, none⟩ = some (.int .i64 0) ∧ W.cell? ⟨w5.heap.size, 1, none⟩ = some (.int .i64 0) ∧ W.cell? ⟨w5.heap.size, 2, none⟩ = some (.int .i64 0)) (by kernel_rfl) ⟨y0, y1, y2⟩ (fun hHeld => ?_)
                have HR0 := Lib.hid (P6.out.step (show Below W6.heap.size W6 W6.drew from (Below.refl _ _).drew))
                generalize W6.drew = V9 at *
                clear P6 y0 y1 y2
                refine wpAnyH_takes (i := 0) (v := (.bool false)) (some 74) rfl rfl (by kernel_rfl) (by kernel_rfl) (by kernel_rfl) (fun _ _ _ h => h) (Or.inl ⟨by rfl, (by intro W9 hSw; obtain ⟨s0, s1, s2⟩ := hSw; go_simp; first | done | with_reducible rfl)⟩) (by assumption) ?_
                simp only [Act.put, List.setIfInBounds_toArray]
                try simp only [List.set_cons_zero, List.set_cons_succ]
                refine wpAnyH_takes (i := 1) (v := (.slice A 0 c)) (some 75) rfl rfl (by kernel_rfl) (by kernel_rfl) (by kernel_rfl) (fun _ _ _ h => h) (Or.inl ⟨by rfl, (by intro W9 hSw; obtain ⟨s0, s1, s2⟩ := hSw; go_simp; first | done | with_reducible rfl)⟩) (by assumption) ?_
                simp only [Act.put, List.setIfInBounds_toArray]
                try simp only [List.set_cons_zero, List.set_cons_succ]
                refine wpAnyH_takes (i := 2) (v := (.int .i64 0)) (some 76) rfl rfl (by kernel_rfl) (by kernel_rfl) (by kernel_rfl) (fun _ _ _ h => h) (Or.inl ⟨by rfl, (by intro W9 hSw; obtain ⟨s0, s1, s2⟩ := hSw; go_simp; first | done | with_reducible rfl)⟩) (by assumption) ?_
                simp only [Act.put, List.setIfInBounds_toArray]
                try simp only [List.set_cons_zero, List.set_cons_succ]
                refine wpAnyH_takes (i := 3) (v := (.bool false)) (some 77) rfl rfl (by kernel_rfl) (by kernel_rfl) (by kernel_rfl) (fun _ _ _ h => h) (Or.inl ⟨by rfl, (by intro W9 hSw; obtain ⟨s0, s1, s2⟩ := hSw; go_simp; first | done | with_reducible rfl)⟩) (by assumption) ?_
                simp only [Act.put, List.setIfInBounds_toArray]
                try simp only [List.set_cons_zero, List.set_cons_succ]
                refine wpAnyH_takes (i := 4) (v := (.bool false)) (some 78) rfl rfl (by kernel_rfl) (by kernel_rfl) (by kernel_rfl) (fun _ _ _ h => h) (Or.inl ⟨by rfl, (by intro W9 hSw; obtain ⟨s0, s1, s2⟩ := hSw; go_simp; first | done | with_reducible rfl)⟩) (by assumption) ?_
                simp only [Act.put, List.setIfInBounds_toArray]
                try simp only [List.set_cons_zero, List.set_cons_succ]
                refine wpAnyH_takes (i := 5) (v := (.bool false)) (some 79) rfl rfl (by kernel_rfl) (by kernel_rfl) (by kernel_rfl) (fun _ _ _ h => h) (Or.inl ⟨by rfl, (by intro W9 hSw; obtain ⟨s0, s1, s2⟩ := hSw; go_simp; first | done | with_reducible rfl)⟩) (by assumption) ?_
                simp only [Act.put, List.setIfInBounds_toArray]
                try simp only [List.set_cons_zero, List.set_cons_succ]
                refine wpAnyH_takes (i := 6) (v := (.bool false)) (some 80) rfl rfl (by kernel_rfl) (by kernel_rfl) (by kernel_rfl) (fun _ _ _ h => h) (Or.inl ⟨by rfl, (by intro W9 hSw; obtain ⟨s0, s1, s2⟩ := hSw; go_simp; first | done | with_reducible rfl)⟩) (by assumption) ?_
                simp only [Act.put, List.setIfInBounds_toArray]
                try simp only [List.set_cons_zero, List.set_cons_succ]
                refine wpAnyH_takes (i := 7) (v := (.bool false)) (some 81) rfl rfl (by kernel_rfl) (by kernel_rfl) (by kernel_rfl) (fun _ _ _ h => h) (Or.inl ⟨by rfl, (by intro W9 hSw; obtain ⟨s0, s1, s2⟩ := hSw; go_simp; first | done | with_reducible rfl)⟩) (by assumption) ?_
                simp only [Act.put, List.setIfInBounds_toArray]
                try simp only [List.set_cons_zero, List.set_cons_succ]
                refine wpAnyH_takes (i := 8) (v := undef) (some 82) rfl rfl (by kernel_rfl) (by kernel_rfl) (by kernel_rfl) (fun _ _ _ h => h) (Or.inr ⟨by rfl, rfl⟩) (by assumption) ?_
                simp only [Act.put, List.setIfInBounds_toArray]
                try simp only [List.set_cons_zero, List.set_cons_succ]
                refine wpAnyH_takes (i := 9) (v := undef) (some 83) rfl rfl (by kernel_rfl) (by kernel_rfl) (by kernel_rfl) (fun _ _ _ h => h) (Or.inr ⟨by rfl, rfl⟩) (by assumption) ?_
                simp only [Act.put, List.setIfInBounds_toArray]
                try simp only [List.set_cons_zero, List.set_cons_succ]
                refine wpAnyH_takes (i := 10) (v := undef) (some 84) rfl rfl (by kernel_rfl) (by kernel_rfl) (by kernel_rfl) (fun _ _ _ h => h) (Or.inr ⟨by rfl, rfl⟩) (by assumption) ?_
                simp only [Act.put, List.setIfInBounds_toArray]
                try simp only [List.set_cons_zero, List.set_cons_succ]
                refine wpAnyH_takes (i := 11) (v := undef) (some 85) rfl rfl (by kernel_rfl) (by kernel_rfl) (by kernel_rfl) (fun _ _ _ h => h) (Or.inr ⟨by rfl, rfl⟩) (by assumption) ?_
                simp only [Act.put, List.setIfInBounds_toArray]
                try simp only [List.set_cons_zero, List.set_cons_succ]
                refine wpAnyH_takes (i := 12) (v := undef) (some 86) rfl rfl (by kernel_rfl) (by kernel_rfl) (by kernel_rfl) (fun _ _ _ h => h) (Or.inr ⟨by rfl, rfl⟩) (by assumption) ?_
                simp only [Act.put, List.setIfInBounds_toArray]
                try simp only [List.set_cons_zero, List.set_cons_succ]
                refine wpAnyH_takes (i := 13) (v := undef) (some 87) rfl rfl (by kernel_rfl) (by kernel_rfl) (by kernel_rfl) (fun _ _ _ h => h) (Or.inr ⟨by rfl, rfl⟩) (by assumption) ?_
                simp only [Act.put, List.setIfInBounds_toArray]
                try simp only [List.set_cons_zero, List.set_cons_succ]
                refine wpAnyH_takes (i := 14) (v := (.bool false)) (some 88) rfl rfl (by kernel_rfl) (by kernel_rfl) (by kernel_rfl) (fun _ _ _ h => h) (Or.inl ⟨by rfl, (by intro W9 hSw; obtain ⟨s0, s1, s2⟩ := hSw; go_simp; first | done | with_reducible rfl)⟩) (by assumption) ?_
                simp only [Act.put, List.setIfInBounds_toArray]
                try simp only [List.set_cons_zero, List.set_cons_succ]
                refine wpAnyH_takes (i := 15) (v := (.bool false)) (some 89) rfl rfl (by kernel_rfl) (by kernel_rfl) (by kernel_rfl) (fun _ _ _ h => h) (Or.inl ⟨by rfl, (by intro W9 hSw; obtain ⟨s0, s1, s2⟩ := hSw; go_simp; first | done | with_reducible rfl)⟩) (by assumption) ?_
                simp only [Act.put, List.setIfInBounds_toArray]
                try simp only [List.set_cons_zero, List.set_cons_succ]
                refine wpAnyH_done (by kernel_rfl) ?_ _
                go_wp2_with fail
                go_meet
                exact ⟨A, 0, c, F, l, [], rfl, by omega, HR0⟩
              · obtain ⟨⟨x1, x2, x3⟩, t, rfl⟩ : ∃ x t, L = x :: t := by
                  cases L with
                  | nil => exact absurd P1.out.row.len.symm h0
                  | cons x t => exact ⟨x, t, rfl⟩
                obtain ⟨bl, ol, rfl, _, _⟩ := P1.out.row.cells (by omega)
                have hnc := P1.out.row.cap
                have hcm := P1.out.row.most
                have HS9 := Lib.hid P1.out.hs
                go_wp2_with fail
                refine (pl_pop P1.out (by omega)).mono ?_
                rintro e w5 ⟨rfl, l', hpp, hP5⟩
                have P5 := Lib.hid hP5
                have HPP := Lib.hid hpp
                clear hP5 P1 hpp
                rw [show tv (x1, x2, x3) = .agg #[.int .i64 x1, .int .i64 x2, .int .i64 x3] from rfl]
                obtain ⟨W6, hW6, y0, y1, y2, _, hb6⟩ := new3v w5 (.int .i64 x1) (.int .i64 x2) (.int .i64 x3) 30
                have P6 := Lib.hid (P5.out.step hb6)
                clear P5 hb6
                subst hW6
                go_wp2_with fail
                generalize w5.alloc (.cells #[.int .i64 x1, .int .i64 x2, .int .i64 x3] 30) = W6 at *
                have HL1 := Lib.hid (show (((x1, x2, x3) :: t).take 1 : List Hp.Tm) = [(x1, x2, x3)] from rfl)
                have n0 : (0 : Int) < (n : Int) := by omega
                have n2 : (1 : Int) ≤ (n : Int) := by omega
                have n3 : (1 : Int) ≤ (c : Int) := by omega
                have n4 : 0 < n := by omega
                clear h0
                refine wp_region_held_drew (S := fun W => W.cell? ⟨w5.heap.size, 0, none⟩ = some (.int .i64 x1) ∧ W.cell? ⟨w5.heap.size, 1, none⟩ = some (.int .i64 x2) ∧ W.cell? ⟨w5.heap.size, 2, none⟩ = some (.int .i64 x3)) (by kernel_rfl) ⟨y0, y1, y2⟩ (fun hHeld => ?_)
                have HR0 := Lib.hid (P6.out.step (show Below W6.heap.size W6 W6.drew from (Below.refl _ _).drew))
                generalize W6.drew = V9 at *
                clear P6 y0 y1 y2
                refine wpAnyH_takes (i := 0) (v := (.bool true)) (some 74) rfl rfl (by kernel_rfl) (by kernel_rfl) (by kernel_rfl) (fun _ _ _ h => h) (Or.inl ⟨by rfl, (by intro W9 hSw; obtain ⟨s0, s1, s2⟩ := hSw; go_simp; first | done | with_reducible rfl)⟩) (by assumption) ?_
                simp only [Act.put, List.setIfInBounds_toArray]
                try simp only [List.set_cons_zero, List.set_cons_succ]
                refine wpAnyH_takes (i := 1) (v := (.slice (some ⟨bl, ol, none⟩) n c)) (some 75) rfl rfl (by kernel_rfl) (by kernel_rfl) (by kernel_rfl) (fun _ _ _ h => h) (Or.inl ⟨by rfl, (by intro W9 hSw; obtain ⟨s0, s1, s2⟩ := hSw; go_simp; first | done | with_reducible rfl)⟩) (by assumption) ?_
                simp only [Act.put, List.setIfInBounds_toArray]
                try simp only [List.set_cons_zero, List.set_cons_succ]
                refine wpAnyH_takes (i := 2) (v := (.int .i64 n)) (some 76) rfl rfl (by kernel_rfl) (by kernel_rfl) (by kernel_rfl) (fun _ _ _ h => h) (Or.inl ⟨by rfl, (by intro W9 hSw; obtain ⟨s0, s1, s2⟩ := hSw; go_simp; first | done | with_reducible rfl)⟩) (by assumption) ?_
                simp only [Act.put, List.setIfInBounds_toArray]
                try simp only [List.set_cons_zero, List.set_cons_succ]
                refine wpAnyH_takes (i := 3) (v := (.bool true)) (some 77) rfl rfl (by kernel_rfl) (by kernel_rfl) (by kernel_rfl) (fun _ _ _ h => h) (Or.inl ⟨by rfl, (by intro W9 hSw; obtain ⟨s0, s1, s2⟩ := hSw; go_simp; first | done | with_reducible rfl)⟩) (by assumption) ?_
                simp only [Act.put, List.setIfInBounds_toArray]
                try simp only [List.set_cons_zero, List.set_cons_succ]
                refine wpAnyH_takes (i := 4) (v := (.bool false)) (some 78) rfl rfl (by kernel_rfl) (by kernel_rfl) (by kernel_rfl) (fun _ _ _ h => h) (Or.inl ⟨by rfl, (by intro W9 hSw; obtain ⟨s0, s1, s2⟩ := hSw; go_simp; first | done | with_reducible rfl)⟩) (by assumption) ?_
                simp only [Act.put, List.setIfInBounds_toArray]
                try simp only [List.set_cons_zero, List.set_cons_succ]
                refine wpAnyH_takes (i := 5) (v := (.bool false)) (some 79) rfl rfl (by kernel_rfl) (by kernel_rfl) (by kernel_rfl) (fun _ _ _ h => h) (Or.inl ⟨by rfl, (by intro W9 hSw; obtain ⟨s0, s1, s2⟩ := hSw; go_simp; first | done | with_reducible rfl)⟩) (by assumption) ?_
                simp only [Act.put, List.setIfInBounds_toArray]
                try simp only [List.set_cons_zero, List.set_cons_succ]
                refine wpAnyH_takes (i := 6) (v := (.bool true)) (some 80) rfl rfl (by kernel_rfl) (by kernel_rfl) (by kernel_rfl) (fun _ _ _ h => h) (Or.inl ⟨by rfl, (by intro W9 hSw; obtain ⟨s0, s1, s2⟩ := hSw; go_simp; first | done | with_reducible rfl)⟩) (by assumption) ?_
                simp only [Act.put, List.setIfInBounds_toArray]
                try simp only [List.set_cons_zero, List.set_cons_succ]
                refine wpAnyH_takes (i := 7) (v := (.bool true)) (some 81) rfl rfl (by kernel_rfl) (by kernel_rfl) (by kernel_rfl) (fun _ _ _ h => h) (Or.inl ⟨by rfl, (by intro W9 hSw; obtain ⟨s0, s1, s2⟩ := hSw; go_simp; first | done | with_reducible rfl)⟩) (by assumption) ?_
                simp only [Act.put, List.setIfInBounds_toArray]
                try simp only [List.set_cons_zero, List.set_cons_succ]
                refine wpAnyH_takes (i := 8) (v := (.agg #[.int .i64 x1, .int .i64 x2, .int .i64 x3])) (some 82) rfl rfl (by kernel_rfl) (by kernel_rfl) (by kernel_rfl) (fun _ _ _ h => h) (Or.inl ⟨by rfl, (by intro W9 hSw; obtain ⟨s0, s1, s2⟩ := hSw; go_simp; first | done | with_reducible rfl)⟩) (by assumption) ?_
                simp only [Act.put, List.setIfInBounds_toArray]
                try simp only [List.set_cons_zero, List.set_cons_succ]
                refine wpAnyH_takes (i := 10) (v := (.slice (some ⟨bl, ol, none⟩) n c)) (some 84) rfl rfl (by kernel_rfl) (by kernel_rfl) (by kernel_rfl) (fun _ _ _ h => h) (Or.inl ⟨by rfl, (by intro W9 hSw; obtain ⟨s0, s1, s2⟩ := hSw; go_simp; first | done | with_reducible rfl)⟩) (by assumption) ?_
                simp only [Act.put, List.setIfInBounds_toArray]
                try simp only [List.set_cons_zero, List.set_cons_succ]
                refine wpAnyH_takes (i := 11) (v := (.slice (some ⟨bl, ol, none⟩) 1 c)) (some 85) rfl rfl (by kernel_rfl) (by kernel_rfl) (by kernel_rfl) (fun _ _ _ h => h) (Or.inl ⟨by rfl, (by intro W9 hSw; obtain ⟨s0, s1, s2⟩ := hSw; go_simp; first | done | with_reducible rfl)⟩) (by assumption) ?_
                simp only [Act.put, List.setIfInBounds_toArray]
                try simp only [List.set_cons_zero, List.set_cons_succ]
                refine wpAnyH_ready (rs := [9]) (by kernel_rfl) (by simp) ?_
                refine AllReadyH.cons rfl (fun K hK => ?_) AllReadyH.nil
                go_simp
                have hbn := below_new V9 (.cells #[.int .i64 x1, .int .i64 x2, .int .i64 x3] 30)
                have HR3 := Lib.hid (HR0.out.step hbn)
                have HT3 := Lib.hid (tr_one V9 x1 x2 x3 30)
                refine hK.out _ _ ⟨keepcell hbn hHeld.1, keepcell hbn hHeld.2.1, keepcell hbn hHeld.2.2⟩ (fun hHeld => ?_)
                clear hK K
                try dsimp only
                clear hbn
                refine wpAnyH_ready (rs := [12]) (by kernel_rfl) (by simp) ?_
                refine AllReadyH.cons rfl (fun K hK => ?_) AllReadyH.nil
                go_simp
                refine (same_any _ (some ⟨bl, ol, none⟩) 1 1 c [(x1, x2, x3)] _ HT3.out (by have h := HR3.out.row.take 1 (by omega); rw [HL1.out] at h; exact h) (by omega)).mono ?_
                rintro e v4 ⟨rfl, hb4⟩
                have HR4 := Lib.hid (HR3.out.step hb4)
                refine hK.out _ _ ⟨keepcell hb4 hHeld.1, keepcell hb4 hHeld.2.1, keepcell hb4 hHeld.2.2⟩ (fun hHeld => ?_)
                clear hK K
                try dsimp only
                clear hb4
                refine wpAnyH_takes (i := 13) (v := (.bool false)) (some 87) rfl rfl (by kernel_rfl) (by kernel_rfl) (by kernel_rfl) (fun _ _ _ h => h) (Or.inl ⟨by rfl, (by intro W9 hSw; obtain ⟨s0, s1, s2⟩ := hSw; go_simp; first | done | with_reducible rfl)⟩) (by assumption) ?_
                simp only [Act.put, List.setIfInBounds_toArray]
                try simp only [List.set_cons_zero, List.set_cons_succ]
                refine wpAnyH_takes (i := 14) (v := (.bool false)) (some 88) rfl rfl (by kernel_rfl) (by kernel_rfl) (by kernel_rfl) (fun _ _ _ h => h) (Or.inl ⟨by rfl, (by intro W9 hSw; obtain ⟨s0, s1, s2⟩ := hSw; go_simp; first | done | with_reducible rfl)⟩) (by assumption) ?_
                simp only [Act.put, List.setIfInBounds_toArray]
                try simp only [List.set_cons_zero, List.set_cons_succ]
                refine wpAnyH_takes (i := 15) (v := (.bool false)) (some 89) rfl rfl (by kernel_rfl) (by kernel_rfl) (by kernel_rfl) (fun _ _ _ h => h) (Or.inl ⟨by rfl, (by intro W9 hSw; obtain ⟨s0, s1, s2⟩ := hSw; go_simp; first | done | with_reducible rfl)⟩) (by assumption) ?_
                simp only [Act.put, List.setIfInBounds_toArray]
                try simp only [List.set_cons_zero, List.set_cons_succ]
                have PC := Lib.hid (HR4.out.cut HS9.out HPP.out (by omega))
                by_cases hc1 : c = 1
                · subst hc1
                  rw [if_pos rfl, show n - 1 = 0 by omega] at PC
                  refine wpAnyH_done (by kernel_rfl) ?_ _
                  go_wp2_with fail
                  go_meet
                  exact ⟨_, _, _, F, l', t, rfl, by omega, PC⟩
                · rw [if_neg hc1] at PC
                  have hc2 : ¬ c - 1 = 0 := by omega
                  refine wpAnyH_done (by kernel_rfl) ?_ _
                  go_wp2_with fail
                  go_meet
                  exact ⟨_, _, _, F, l', t, rfl, by omega, PC⟩
            · have hk3' : (kd == 1) = false := by rw [beq_eq_false_iff_ne]; exact hk2
              obtain ⟨n', hn'⟩ : ∃ n', n' = (Hp.others L t3).length := ⟨_, rfl⟩
              have hnn : n' ≤ n := by rw [hn', ← P1.out.row.len]; exact Hp.others_le L t3
              obtain ⟨q, hq⟩ : ∃ q : Int, (n : Int) - (n' : Int) = q := ⟨_, rfl⟩
              have HDr := Lib.hid (pl_drop P1.out (by omega) t3 q (by rw [← hq, hn']))
              have HSo := Lib.hid (Hp.others_sorted P1.out.hs t3)
              have hqq : (q != q) = false := by simp
              have HN := Lib.hid hn'
              clear hk2 hk0 hn' P1
              go_wp2_with fail
              refine HDr.out.mono ?_
              rintro e w5 ⟨rfl, hkt, l', hpp, hP5⟩
              have P5 := Lib.hid hP5
              have HPP := Lib.hid hpp
              have HRD := Lib.hid (refDrop_any A n c L t3 w5 hP5.row (by omega))
              have y2 := hkt.cell y2 hX7
              clear hP5 hpp HDr hkt y0 y1
              go_wp2_with fail
              refine HRD.out.mono ?_
              rintro e w6 ⟨A', n1, c', rfl, hr6, hf6, hb6⟩
              obtain rfl : n1 = n' := by rw [← hr6.len, HN.out]
              have P6 : Hid (Pl w w6 b F l' A' n1 c' (Hp.others L t3)) := Lib.hid ⟨P5.out.hm.step hb6, P5.out.hF, P5.out.hh, hr6, fun _ ad e f => by have h1 := hf6 ad e; have h2 := P5.out.hm.lt _ f; omega, HSo.out, HPP.out.symm, P5.out.below.trans (hb6.mono P5.out.below.size)⟩
              clear hr6 hf6 hb6 HRD P5 HPP HSo
              go_wp2_with fail
              go_meet
              exact ⟨A', n1, c', F, l', _, rfl, by omega, P6⟩
        case rest =>
          obtain ⟨A, n, c, F, l, L, rfl, hn9, P9⟩ := hcut
          clear P1 hPu y0 y1 y2 z0 z1 z2 z3 hX7
          have HFi := Lib.hid (first_any b F l _ P9.out.hm (by rw [P9.out.len]; omega))
          go_wp2_with fail
          refine HFi.out.mono ?_
          rintro e w5 ⟨rfl, hb5⟩
          rw [P9.out.told]
          have P5 := Lib.hid (P9.out.step hb5)
          clear hb5 HFi P9
          by_cases h0 : n = 0
          · obtain rfl := List.length_eq_zero_iff.1 (P5.out.row.len.trans h0)
            subst h0
            rw [show told [] = .tuple #[.agg #[.int .i64 0, .int .i64 0, .int .i64 0], .bool false] from rfl]
            obtain ⟨W6, hW6, y0, y1, y2, _, hb6⟩ := new3v w5 (.int .i64 0) (.int .i64 0) (.int .i64 0) 30
            have P6 := Lib.hid (P5.out.step hb6)
            clear P5 hb6
            subst hW6
            go_wp2_with fail
            generalize w5.alloc (.cells #[.int .i64 0, .int .i64 0, .int .i64 0] 30) = W6 at *
            refine wp_region_held_drew (S := fun W => W.cell? ⟨w5.heap.size, 0, none⟩ = some (.int .i64 0) ∧ W.cell? ⟨w5.heap.size, 1, none⟩ = some (.int .i64 0) ∧ W.cell? ⟨w5.heap.size, 2, none⟩ = some (.int .i64 0)) (by kernel_rfl) ⟨y0, y1, y2⟩ (fun hHeld => ?_)
            have HR0 := Lib.hid (P6.out.step (show Below W6.heap.size W6 W6.drew from (Below.refl _ _).drew))
            generalize W6.drew = V9 at *
            clear P6 y0 y1 y2
            refine wpAnyH_takes (i := 0) (v := (.pointer (some ⟨b, 0, none⟩))) (some 98) rfl rfl (by kernel_rfl) (by kernel_rfl) (by kernel_rfl) (fun _ _ _ h => h) (Or.inl ⟨by rfl, (by intro W9 hSw; obtain ⟨s0, s1, s2⟩ := hSw; go_simp; first | done | with_reducible rfl)⟩) (by assumption) ?_
            simp only [Act.put, List.setIfInBounds_toArray]
            try simp only [List.set_cons_zero, List.set_cons_succ]
            refine wpAnyH_takes (i := 2) (v := (.slice A 0 c)) (some 100) rfl rfl (by kernel_rfl) (by kernel_rfl) (by kernel_rfl) (fun _ _ _ h => h) (Or.inl ⟨by rfl, (by intro W9 hSw; obtain ⟨s0, s1, s2⟩ := hSw; go_simp; first | done | with_reducible rfl)⟩) (by assumption) ?_
            simp only [Act.put, List.setIfInBounds_toArray]
            try simp only [List.set_cons_zero, List.set_cons_succ]
            refine wpAnyH_ready (rs := [1]) (by kernel_rfl) (by simp) ?_
            refine AllReadyH.cons rfl (fun K hK => ?_) AllReadyH.nil
            go_simp
            refine (all_call HR0.out (by omega)).mono ?_
            rintro e v1 ⟨A1, c1, rfl, hr1, hb1⟩
            have HR1 := Lib.hid (HR0.out.step hb1)
            have HT1 := Lib.hid hr1
            refine hK.out _ _ ⟨keepcell hb1 hHeld.1, keepcell hb1 hHeld.2.1, keepcell hb1 hHeld.2.2⟩ (fun hHeld => ?_)
            clear hK K
            try dsimp only
            clear hb1 hr1
            refine wpAnyH_ready (rs := [3]) (by kernel_rfl) (by simp) ?_
            refine AllReadyH.cons rfl (fun K hK => ?_) AllReadyH.nil
            go_simp
            refine (same_any A1 A 0 c1 c [] _ HT1.out HR1.out.row (by omega)).mono ?_
            rintro e v2 ⟨rfl, hb2⟩
            have HR2 := Lib.hid (HR1.out.step hb2)
            refine hK.out _ _ ⟨keepcell hb2 hHeld.1, keepcell hb2 hHeld.2.1, keepcell hb2 hHeld.2.2⟩ (fun hHeld => ?_)
            clear hK K
            try dsimp only
            clear hb2
            refine wpAnyH_takes (i := 4) (v := (.bool false)) (some 102) rfl rfl (by kernel_rfl) (by kernel_rfl) (by kernel_rfl) (fun _ _ _ h => h) (Or.inl ⟨by rfl, (by intro W9 hSw; obtain ⟨s0, s1, s2⟩ := hSw; go_simp; first | done | with_reducible rfl)⟩) (by assumption) ?_
            simp only [Act.put, List.setIfInBounds_toArray]
            try simp only [List.set_cons_zero, List.set_cons_succ]
            refine wpAnyH_takes (i := 5) (v := (.bool false)) (some 103) rfl rfl (by kernel_rfl) (by kernel_rfl) (by kernel_rfl) (fun _ _ _ h => h) (Or.inl ⟨by rfl, (by intro W9 hSw; obtain ⟨s0, s1, s2⟩ := hSw; go_simp; first | done | with_reducible rfl)⟩) (by assumption) ?_
            simp only [Act.put, List.setIfInBounds_toArray]
            try simp only [List.set_cons_zero, List.set_cons_succ]
            refine wpAnyH_takes (i := 6) (v := (.pointer (some ⟨b, 0, none⟩))) (some 104) rfl rfl (by kernel_rfl) (by kernel_rfl) (by kernel_rfl) (fun _ _ _ h => h) (Or.inl ⟨by rfl, (by intro W9 hSw; obtain ⟨s0, s1, s2⟩ := hSw; go_simp; first | done | with_reducible rfl)⟩) (by assumption) ?_
            simp only [Act.put, List.setIfInBounds_toArray]
            try simp only [List.set_cons_zero, List.set_cons_succ]
            refine wpAnyH_takes (i := 8) (v := (.slice A 0 c)) (some 106) rfl rfl (by kernel_rfl) (by kernel_rfl) (by kernel_rfl) (fun _ _ _ h => h) (Or.inl ⟨by rfl, (by intro W9 hSw; obtain ⟨s0, s1, s2⟩ := hSw; go_simp; first | done | with_reducible rfl)⟩) (by assumption) ?_
            simp only [Act.put, List.setIfInBounds_toArray]
            try simp only [List.set_cons_zero, List.set_cons_succ]
            refine wpAnyH_takes (i := 9) (v := (.int .i64 0)) (some 107) rfl rfl (by kernel_rfl) (by kernel_rfl) (by kernel_rfl) (fun _ _ _ h => h) (Or.inl ⟨by rfl, (by intro W9 hSw; obtain ⟨s0, s1, s2⟩ := hSw; go_simp; first | done | with_reducible rfl)⟩) (by assumption) ?_
            simp only [Act.put, List.setIfInBounds_toArray]
            try simp only [List.set_cons_zero, List.set_cons_succ]
            refine wpAnyH_ready (rs := [7]) (by kernel_rfl) (by simp) ?_
            refine AllReadyH.cons rfl (fun K hK => ?_) AllReadyH.nil
            go_simp
            refine (len_call HR2.out).mono ?_
            rintro e v3 ⟨rfl, rfl⟩
            refine hK.out _ _ hHeld (fun hHeld => ?_)
            clear hK K
            try dsimp only
            refine wpAnyH_takes (i := 10) (v := (.bool false)) (some 108) rfl rfl (by kernel_rfl) (by kernel_rfl) (by kernel_rfl) (fun _ _ _ h => h) (Or.inl ⟨by rfl, (by intro W9 hSw; obtain ⟨s0, s1, s2⟩ := hSw; go_simp; first | done | with_reducible rfl)⟩) (by assumption) ?_
            simp only [Act.put, List.setIfInBounds_toArray]
            try simp only [List.set_cons_zero, List.set_cons_succ]
            refine wpAnyH_takes (i := 11) (v := (.bool false)) (some 109) rfl rfl (by kernel_rfl) (by kernel_rfl) (by kernel_rfl) (fun _ _ _ h => h) (Or.inl ⟨by rfl, (by intro W9 hSw; obtain ⟨s0, s1, s2⟩ := hSw; go_simp; first | done | with_reducible rfl)⟩) (by assumption) ?_
            simp only [Act.put, List.setIfInBounds_toArray]
            try simp only [List.set_cons_zero, List.set_cons_succ]
            refine wpAnyH_takes (i := 12) (v := (.bool false)) (some 110) rfl rfl (by kernel_rfl) (by kernel_rfl) (by kernel_rfl) (fun _ _ _ h => h) (Or.inl ⟨by rfl, (by intro W9 hSw; obtain ⟨s0, s1, s2⟩ := hSw; go_simp; first | done | with_reducible rfl)⟩) (by assumption) ?_
            simp only [Act.put, List.setIfInBounds_toArray]
            try simp only [List.set_cons_zero, List.set_cons_succ]
            refine wpAnyH_takes (i := 13) (v := (.bool false)) (some 111) rfl rfl (by kernel_rfl) (by kernel_rfl) (by kernel_rfl) (fun _ _ _ h => h) (Or.inl ⟨by rfl, (by intro W9 hSw; obtain ⟨s0, s1, s2⟩ := hSw; go_simp; first | done | with_reducible rfl)⟩) (by assumption) ?_
            simp only [Act.put, List.setIfInBounds_toArray]
            try simp only [List.set_cons_zero, List.set_cons_succ]
            refine wpAnyH_takes (i := 14) (v := (.slice A 0 c)) (some 112) rfl rfl (by kernel_rfl) (by kernel_rfl) (by kernel_rfl) (fun _ _ _ h => h) (Or.inl ⟨by rfl, (by intro W9 hSw; obtain ⟨s0, s1, s2⟩ := hSw; go_simp; first | done | with_reducible rfl)⟩) (by assumption) ?_
            simp only [Act.put, List.setIfInBounds_toArray]
            try simp only [List.set_cons_zero, List.set_cons_succ]
            refine wpAnyH_takes (i := 15) (v := (.int .i64 0)) (some 113) rfl rfl (by kernel_rfl) (by kernel_rfl) (by kernel_rfl) (fun _ _ _ h => h) (Or.inl ⟨by rfl, (by intro W9 hSw; obtain ⟨s0, s1, s2⟩ := hSw; go_simp; first | done | with_reducible rfl)⟩) (by assumption) ?_
            simp only [Act.put, List.setIfInBounds_toArray]
            try simp only [List.set_cons_zero, List.set_cons_succ]
            refine wpAnyH_takes (i := 16) (v := (.bool false)) (some 114) rfl rfl (by kernel_rfl) (by kernel_rfl) (by kernel_rfl) (fun _ _ _ h => h) (Or.inl ⟨by rfl, (by intro W9 hSw; obtain ⟨s0, s1, s2⟩ := hSw; go_simp; first | done | with_reducible rfl)⟩) (by assumption) ?_
            simp only [Act.put, List.setIfInBounds_toArray]
            try simp only [List.set_cons_zero, List.set_cons_succ]
            refine wpAnyH_takes (i := 17) (v := (.bool false)) (some 115) rfl rfl (by kernel_rfl) (by kernel_rfl) (by kernel_rfl) (fun _ _ _ h => h) (Or.inl ⟨by rfl, (by intro W9 hSw; obtain ⟨s0, s1, s2⟩ := hSw; go_simp; first | done | with_reducible rfl)⟩) (by assumption) ?_
            simp only [Act.put, List.setIfInBounds_toArray]
            try simp only [List.set_cons_zero, List.set_cons_succ]
            refine wpAnyH_takes (i := 18) (v := (.bool false)) (some 116) rfl rfl (by kernel_rfl) (by kernel_rfl) (by kernel_rfl) (fun _ _ _ h => h) (Or.inl ⟨by rfl, (by intro W9 hSw; obtain ⟨s0, s1, s2⟩ := hSw; go_simp; first | done | with_reducible rfl)⟩) (by assumption) ?_
            simp only [Act.put, List.setIfInBounds_toArray]
            try simp only [List.set_cons_zero, List.set_cons_succ]
            refine wpAnyH_takes (i := 19) (v := (.bool false)) (some 117) rfl rfl (by kernel_rfl) (by kernel_rfl) (by kernel_rfl) (fun _ _ _ h => h) (Or.inl ⟨by rfl, (by intro W9 hSw; obtain ⟨s0, s1, s2⟩ := hSw; go_simp; first | done | with_reducible rfl)⟩) (by assumption) ?_
            simp only [Act.put, List.setIfInBounds_toArray]
            try simp only [List.set_cons_zero, List.set_cons_succ]
            refine wpAnyH_takes (i := 20) (v := (.bool false)) (some 118) rfl rfl (by kernel_rfl) (by kernel_rfl) (by kernel_rfl) (fun _ _ _ h => h) (Or.inl ⟨by rfl, (by intro W9 hSw; obtain ⟨s0, s1, s2⟩ := hSw; go_simp; first | done | with_reducible rfl)⟩) (by assumption) ?_
            simp only [Act.put, List.setIfInBounds_toArray]
            try simp only [List.set_cons_zero, List.set_cons_succ]
            refine wpAnyH_takes (i := 21) (v := (.bool false)) (some 119) rfl rfl (by kernel_rfl) (by kernel_rfl) (by kernel_rfl) (fun _ _ _ h => h) (Or.inl ⟨by rfl, (by intro W9 hSw; obtain ⟨s0, s1, s2⟩ := hSw; go_simp; first | done | with_reducible rfl)⟩) (by assumption) ?_
            simp only [Act.put, List.setIfInBounds_toArray]
            try simp only [List.set_cons_zero, List.set_cons_succ]
            refine wpAnyH_takes (i := 22) (v := undef) (some 120) rfl rfl (by kernel_rfl) (by kernel_rfl) (by kernel_rfl) (fun _ _ _ h => h) (Or.inr ⟨by rfl, rfl⟩) (by assumption) ?_
            simp only [Act.put, List.setIfInBounds_toArray]
            try simp only [List.set_cons_zero, List.set_cons_succ]
            refine wpAnyH_takes (i := 23) (v := undef) (some 121) rfl rfl (by kernel_rfl) (by kernel_rfl) (by kernel_rfl) (fun _ _ _ h => h) (Or.inr ⟨by rfl, rfl⟩) (by assumption) ?_
            simp only [Act.put, List.setIfInBounds_toArray]
            try simp only [List.set_cons_zero, List.set_cons_succ]
            refine wpAnyH_takes (i := 24) (v := undef) (some 122) rfl rfl (by kernel_rfl) (by kernel_rfl) (by kernel_rfl) (fun _ _ _ h => h) (Or.inr ⟨by rfl, rfl⟩) (by assumption) ?_
            simp only [Act.put, List.setIfInBounds_toArray]
            try simp only [List.set_cons_zero, List.set_cons_succ]
            refine wpAnyH_takes (i := 25) (v := undef) (some 123) rfl rfl (by kernel_rfl) (by kernel_rfl) (by kernel_rfl) (fun _ _ _ h => h) (Or.inr ⟨by rfl, rfl⟩) (by assumption) ?_
            simp only [Act.put, List.setIfInBounds_toArray]
            try simp only [List.set_cons_zero, List.set_cons_succ]
            refine wpAnyH_takes (i := 26) (v := undef) (some 124) rfl rfl (by kernel_rfl) (by kernel_rfl) (by kernel_rfl) (fun _ _ _ h => h) (Or.inr ⟨by rfl, rfl⟩) (by assumption) ?_
            simp only [Act.put, List.setIfInBounds_toArray]
            try simp only [List.set_cons_zero, List.set_cons_succ]
            refine wpAnyH_takes (i := 27) (v := undef) (some 125) rfl rfl (by kernel_rfl) (by kernel_rfl) (by kernel_rfl) (fun _ _ _ h => h) (Or.inr ⟨by rfl, rfl⟩) (by assumption) ?_
            simp only [Act.put, List.setIfInBounds_toArray]
            try simp only [List.set_cons_zero, List.set_cons_succ]
            refine wpAnyH_takes (i := 28) (v := (.bool false)) (some 126) rfl rfl (by kernel_rfl) (by kernel_rfl) (by kernel_rfl) (fun _ _ _ h => h) (Or.inl ⟨by rfl, (by intro W9 hSw; obtain ⟨s0, s1, s2⟩ := hSw; go_simp; first | done | with_reducible rfl)⟩) (by assumption) ?_
            simp only [Act.put, List.setIfInBounds_toArray]
            try simp only [List.set_cons_zero, List.set_cons_succ]
            refine wpAnyH_takes (i := 29) (v := (.bool false)) (some 127) rfl rfl (by kernel_rfl) (by kernel_rfl) (by kernel_rfl) (fun _ _ _ h => h) (Or.inl ⟨by rfl, (by intro W9 hSw; obtain ⟨s0, s1, s2⟩ := hSw; go_simp; first | done | with_reducible rfl)⟩) (by assumption) ?_
            simp only [Act.put, List.setIfInBounds_toArray]
            try simp only [List.set_cons_zero, List.set_cons_succ]
            refine wpAnyH_done (by kernel_rfl) ?_ _
            go_wp2_with fail
            go_roundw
            case rel => exact ⟨k + 1, _, _, _, _, _, _, rfl, by go_num, by omega, by omega, by omega, HR2⟩
            case measure => simp [intOf]; omega
          · obtain ⟨⟨x1, x2, x3⟩, t, rfl⟩ : ∃ x t, L = x :: t := by
              cases L with
              | nil => exact absurd P5.out.row.len.symm h0
              | cons x t => exact ⟨x, t, rfl⟩
            have hnc := P5.out.row.cap
            have hcm := P5.out.row.most
            rw [show told ((x1, x2, x3) :: t) = .tuple #[.agg #[.int .i64 x1, .int .i64 x2, .int .i64 x3], .bool true] by simp [told, tv]]
            obtain ⟨W6, hW6, y0, y1, y2, _, hb6⟩ := new3v w5 (.int .i64 x1) (.int .i64 x2) (.int .i64 x3) 30
            have P6 := Lib.hid (P5.out.step hb6)
            clear P5 hb6
            subst hW6
            go_wp2_with fail
            generalize w5.alloc (.cells #[.int .i64 x1, .int .i64 x2, .int .i64 x3] 30) = W6 at *
            have HL1 := Lib.hid (show (((x1, x2, x3) :: t).take 1 : List Hp.Tm) = [(x1, x2, x3)] from rfl)
            have n0 : (0 : Int) < (n : Int) := by omega
            have n1 : ((n : Int) != (n : Int)) = false := by simp
            have n2 : (1 : Int) ≤ (n : Int) := by omega
            have n3 : (1 : Int) ≤ (c : Int) := by omega
            have n4 : 0 < n := by omega
            clear h0
            refine wp_region_held_drew (S := fun W => W.cell? ⟨w5.heap.size, 0, none⟩ = some (.int .i64 x1) ∧ W.cell? ⟨w5.heap.size, 1, none⟩ = some (.int .i64 x2) ∧ W.cell? ⟨w5.heap.size, 2, none⟩ = some (.int .i64 x3)) (by kernel_rfl) ⟨y0, y1, y2⟩ (fun hHeld => ?_)
            have HR0 := Lib.hid (P6.out.step (show Below W6.heap.size W6 W6.drew from (Below.refl _ _).drew))
            generalize W6.drew = V9 at *
            clear P6 y0 y1 y2
            refine wpAnyH_takes (i := 0) (v := (.pointer (some ⟨b, 0, none⟩))) (some 98) rfl rfl (by kernel_rfl) (by kernel_rfl) (by kernel_rfl) (fun _ _ _ h => h) (Or.inl ⟨by rfl, (by intro W9 hSw; obtain ⟨s0, s1, s2⟩ := hSw; go_simp; first | done | with_reducible rfl)⟩) (by assumption) ?_
            simp only [Act.put, List.setIfInBounds_toArray]
            try simp only [List.set_cons_zero, List.set_cons_succ]
            refine wpAnyH_takes (i := 2) (v := (.slice A n c)) (some 100) rfl rfl (by kernel_rfl) (by kernel_rfl) (by kernel_rfl) (fun _ _ _ h => h) (Or.inl ⟨by rfl, (by intro W9 hSw; obtain ⟨s0, s1, s2⟩ := hSw; go_simp; first | done | with_reducible rfl)⟩) (by assumption) ?_
            simp only [Act.put, List.setIfInBounds_toArray]
            try simp only [List.set_cons_zero, List.set_cons_succ]
            refine wpAnyH_ready (rs := [1]) (by kernel_rfl) (by simp) ?_
            refine AllReadyH.cons rfl (fun K hK => ?_) AllReadyH.nil
            go_simp
            refine (all_call HR0.out (by omega)).mono ?_
            rintro e v1 ⟨A1, c1, rfl, hr1, hb1⟩
            have HR1 := Lib.hid (HR0.out.step hb1)
            have HT1 := Lib.hid hr1
            refine hK.out _ _ ⟨keepcell hb1 hHeld.1, keepcell hb1 hHeld.2.1, keepcell hb1 hHeld.2.2⟩ (fun hHeld => ?_)
            clear hK K
            try dsimp only
            clear hb1 hr1
            refine wpAnyH_ready (rs := [3]) (by kernel_rfl) (by simp) ?_
            refine AllReadyH.cons rfl (fun K hK => ?_) AllReadyH.nil
            go_simp
            refine (same_any A1 A n c1 c ((x1,x2,x3)::t) _ HT1.out HR1.out.row (by omega)).mono ?_
            rintro e v2 ⟨rfl, hb2⟩
            have HR2 := Lib.hid (HR1.out.step hb2)
            refine hK.out _ _ ⟨keepcell hb2 hHeld.1, keepcell hb2 hHeld.2.1, keepcell hb2 hHeld.2.2⟩ (fun hHeld => ?_)
            clear hK K
            try dsimp only
            clear hb2
            refine wpAnyH_takes (i := 4) (v := (.bool false)) (some 102) rfl rfl (by kernel_rfl) (by kernel_rfl) (by kernel_rfl) (fun _ _ _ h => h) (Or.inl ⟨by rfl, (by intro W9 hSw; obtain ⟨s0, s1, s2⟩ := hSw; go_simp; first | done | with_reducible rfl)⟩) (by assumption) ?_
            simp only [Act.put, List.setIfInBounds_toArray]
            try simp only [List.set_cons_zero, List.set_cons_succ]
            refine wpAnyH_takes (i := 5) (v := (.bool false)) (some 103) rfl rfl (by kernel_rfl) (by kernel_rfl) (by kernel_rfl) (fun _ _ _ h => h) (Or.inl ⟨by rfl, (by intro W9 hSw; obtain ⟨s0, s1, s2⟩ := hSw; go_simp; first | done | with_reducible rfl)⟩) (by assumption) ?_
            simp only [Act.put, List.setIfInBounds_toArray]
            try simp only [List.set_cons_zero, List.set_cons_succ]
            refine wpAnyH_takes (i := 6) (v := (.pointer (some ⟨b, 0, none⟩))) (some 104) rfl rfl (by kernel_rfl) (by kernel_rfl) (by kernel_rfl) (fun _ _ _ h => h) (Or.inl ⟨by rfl, (by intro W9 hSw; obtain ⟨s0, s1, s2⟩ := hSw; go_simp; first | done | with_reducible rfl)⟩) (by assumption) ?_
            simp only [Act.put, List.setIfInBounds_toArray]
            try simp only [List.set_cons_zero, List.set_cons_succ]
            refine wpAnyH_takes (i := 8) (v := (.slice A n c)) (some 106) rfl rfl (by kernel_rfl) (by kernel_rfl) (by kernel_rfl) (fun _ _ _ h => h) (Or.inl ⟨by rfl, (by intro W9 hSw; obtain ⟨s0, s1, s2⟩ := hSw; go_simp; first | done | with_reducible rfl)⟩) (by assumption) ?_
            simp only [Act.put, List.setIfInBounds_toArray]
            try simp only [List.set_cons_zero, List.set_cons_succ]
            refine wpAnyH_takes (i := 9) (v := (.int .i64 n)) (some 107) rfl rfl (by kernel_rfl) (by kernel_rfl) (by kernel_rfl) (fun _ _ _ h => h) (Or.inl ⟨by rfl, (by intro W9 hSw; obtain ⟨s0, s1, s2⟩ := hSw; go_simp; first | done | with_reducible rfl)⟩) (by assumption) ?_
            simp only [Act.put, List.setIfInBounds_toArray]
            try simp only [List.set_cons_zero, List.set_cons_succ]
            refine wpAnyH_ready (rs := [7]) (by kernel_rfl) (by simp) ?_
            refine AllReadyH.cons rfl (fun K hK => ?_) AllReadyH.nil
            go_simp
            refine (len_call HR2.out).mono ?_
            rintro e v3 ⟨rfl, rfl⟩
            refine hK.out _ _ hHeld (fun hHeld => ?_)
            clear hK K
            try dsimp only
            refine wpAnyH_takes (i := 10) (v := (.bool false)) (some 108) rfl rfl (by kernel_rfl) (by kernel_rfl) (by kernel_rfl) (fun _ _ _ h => h) (Or.inl ⟨by rfl, (by intro W9 hSw; obtain ⟨s0, s1, s2⟩ := hSw; go_simp; first | done | with_reducible rfl)⟩) (by assumption) ?_
            simp only [Act.put, List.setIfInBounds_toArray]
            try simp only [List.set_cons_zero, List.set_cons_succ]
            refine wpAnyH_takes (i := 11) (v := (.bool false)) (some 109) rfl rfl (by kernel_rfl) (by kernel_rfl) (by kernel_rfl) (fun _ _ _ h => h) (Or.inl ⟨by rfl, (by intro W9 hSw; obtain ⟨s0, s1, s2⟩ := hSw; go_simp; first | done | with_reducible rfl)⟩) (by assumption) ?_
            simp only [Act.put, List.setIfInBounds_toArray]
            try simp only [List.set_cons_zero, List.set_cons_succ]
            refine wpAnyH_takes (i := 12) (v := (.bool false)) (some 110) rfl rfl (by kernel_rfl) (by kernel_rfl) (by kernel_rfl) (fun _ _ _ h => h) (Or.inl ⟨by rfl, (by intro W9 hSw; obtain ⟨s0, s1, s2⟩ := hSw; go_simp; first | done | with_reducible rfl)⟩) (by assumption) ?_
            simp only [Act.put, List.setIfInBounds_toArray]
            try simp only [List.set_cons_zero, List.set_cons_succ]
            refine wpAnyH_takes (i := 13) (v := (.bool true)) (some 111) rfl rfl (by kernel_rfl) (by kernel_rfl) (by kernel_rfl) (fun _ _ _ h => h) (Or.inl ⟨by rfl, (by intro W9 hSw; obtain ⟨s0, s1, s2⟩ := hSw; go_simp; first | done | with_reducible rfl)⟩) (by assumption) ?_
            simp only [Act.put, List.setIfInBounds_toArray]
            try simp only [List.set_cons_zero, List.set_cons_succ]
            refine wpAnyH_takes (i := 14) (v := (.slice A n c)) (some 112) rfl rfl (by kernel_rfl) (by kernel_rfl) (by kernel_rfl) (fun _ _ _ h => h) (Or.inl ⟨by rfl, (by intro W9 hSw; obtain ⟨s0, s1, s2⟩ := hSw; go_simp; first | done | with_reducible rfl)⟩) (by assumption) ?_
            simp only [Act.put, List.setIfInBounds_toArray]
            try simp only [List.set_cons_zero, List.set_cons_succ]
            refine wpAnyH_takes (i := 15) (v := (.int .i64 n)) (some 113) rfl rfl (by kernel_rfl) (by kernel_rfl) (by kernel_rfl) (fun _ _ _ h => h) (Or.inl ⟨by rfl, (by intro W9 hSw; obtain ⟨s0, s1, s2⟩ := hSw; go_simp; first | done | with_reducible rfl)⟩) (by assumption) ?_
            simp only [Act.put, List.setIfInBounds_toArray]
            try simp only [List.set_cons_zero, List.set_cons_succ]
            refine wpAnyH_takes (i := 16) (v := (.bool true)) (some 114) rfl rfl (by kernel_rfl) (by kernel_rfl) (by kernel_rfl) (fun _ _ _ h => h) (Or.inl ⟨by rfl, (by intro W9 hSw; obtain ⟨s0, s1, s2⟩ := hSw; go_simp; first | done | with_reducible rfl)⟩) (by assumption) ?_
            simp only [Act.put, List.setIfInBounds_toArray]
            try simp only [List.set_cons_zero, List.set_cons_succ]
            refine wpAnyH_takes (i := 17) (v := (.bool false)) (some 115) rfl rfl (by kernel_rfl) (by kernel_rfl) (by kernel_rfl) (fun _ _ _ h => h) (Or.inl ⟨by rfl, (by intro W9 hSw; obtain ⟨s0, s1, s2⟩ := hSw; go_simp; first | done | with_reducible rfl)⟩) (by assumption) ?_
            simp only [Act.put, List.setIfInBounds_toArray]
            try simp only [List.set_cons_zero, List.set_cons_succ]
            refine wpAnyH_takes (i := 18) (v := (.bool false)) (some 116) rfl rfl (by kernel_rfl) (by kernel_rfl) (by kernel_rfl) (fun _ _ _ h => h) (Or.inl ⟨by rfl, (by intro W9 hSw; obtain ⟨s0, s1, s2⟩ := hSw; go_simp; first | done | with_reducible rfl)⟩) (by assumption) ?_
            simp only [Act.put, List.setIfInBounds_toArray]
            try simp only [List.set_cons_zero, List.set_cons_succ]
            refine wpAnyH_takes (i := 19) (v := (.bool false)) (some 117) rfl rfl (by kernel_rfl) (by kernel_rfl) (by kernel_rfl) (fun _ _ _ h => h) (Or.inl ⟨by rfl, (by intro W9 hSw; obtain ⟨s0, s1, s2⟩ := hSw; go_simp; first | done | with_reducible rfl)⟩) (by assumption) ?_
            simp only [Act.put, List.setIfInBounds_toArray]
            try simp only [List.set_cons_zero, List.set_cons_succ]
            refine wpAnyH_takes (i := 20) (v := (.bool true)) (some 118) rfl rfl (by kernel_rfl) (by kernel_rfl) (by kernel_rfl) (fun _ _ _ h => h) (Or.inl ⟨by rfl, (by intro W9 hSw; obtain ⟨s0, s1, s2⟩ := hSw; go_simp; first | done | with_reducible rfl)⟩) (by assumption) ?_
            simp only [Act.put, List.setIfInBounds_toArray]
            try simp only [List.set_cons_zero, List.set_cons_succ]
            refine wpAnyH_takes (i := 21) (v := (.bool true)) (some 119) rfl rfl (by kernel_rfl) (by kernel_rfl) (by kernel_rfl) (fun _ _ _ h => h) (Or.inl ⟨by rfl, (by intro W9 hSw; obtain ⟨s0, s1, s2⟩ := hSw; go_simp; first | done | with_reducible rfl)⟩) (by assumption) ?_
            simp only [Act.put, List.setIfInBounds_toArray]
            try simp only [List.set_cons_zero, List.set_cons_succ]
            refine wpAnyH_takes (i := 22) (v := (.agg #[.int .i64 x1, .int .i64 x2, .int .i64 x3])) (some 120) rfl rfl (by kernel_rfl) (by kernel_rfl) (by kernel_rfl) (fun _ _ _ h => h) (Or.inl ⟨by rfl, (by intro W9 hSw; obtain ⟨s0, s1, s2⟩ := hSw; go_simp; first | done | with_reducible rfl)⟩) (by assumption) ?_
            simp only [Act.put, List.setIfInBounds_toArray]
            try simp only [List.set_cons_zero, List.set_cons_succ]
            refine wpAnyH_takes (i := 24) (v := (.slice A n c)) (some 122) rfl rfl (by kernel_rfl) (by kernel_rfl) (by kernel_rfl) (fun _ _ _ h => h) (Or.inl ⟨by rfl, (by intro W9 hSw; obtain ⟨s0, s1, s2⟩ := hSw; go_simp; first | done | with_reducible rfl)⟩) (by assumption) ?_
            simp only [Act.put, List.setIfInBounds_toArray]
            try simp only [List.set_cons_zero, List.set_cons_succ]
            refine wpAnyH_takes (i := 25) (v := (.slice A 1 c)) (some 123) rfl rfl (by kernel_rfl) (by kernel_rfl) (by kernel_rfl) (fun _ _ _ h => h) (Or.inl ⟨by rfl, (by intro W9 hSw; obtain ⟨s0, s1, s2⟩ := hSw; go_simp; first | done | with_reducible rfl)⟩) (by assumption) ?_
            simp only [Act.put, List.setIfInBounds_toArray]
            try simp only [List.set_cons_zero, List.set_cons_succ]
            refine wpAnyH_ready (rs := [23]) (by kernel_rfl) (by simp) ?_
            refine AllReadyH.cons rfl (fun K hK => ?_) AllReadyH.nil
            go_simp
            have hbn := below_new v3 (.cells #[.int .i64 x1, .int .i64 x2, .int .i64 x3] 30)
            have HR3 := Lib.hid (HR2.out.step hbn)
            have HT3 := Lib.hid (tr_one v3 x1 x2 x3 30)
            refine hK.out _ _ ⟨keepcell hbn hHeld.1, keepcell hbn hHeld.2.1, keepcell hbn hHeld.2.2⟩ (fun hHeld => ?_)
            clear hK K
            try dsimp only
            clear hbn
            refine wpAnyH_ready (rs := [26]) (by kernel_rfl) (by simp) ?_
            refine AllReadyH.cons rfl (fun K hK => ?_) AllReadyH.nil
            go_simp
            refine (same_any _ A 1 1 c [(x1, x2, x3)] _ HT3.out (by have h := HR3.out.row.take 1 (by omega); rw [HL1.out] at h; exact h) (by omega)).mono ?_
            rintro e v4 ⟨rfl, hb4⟩
            have HR4 := Lib.hid (HR3.out.step hb4)
            refine hK.out _ _ ⟨keepcell hb4 hHeld.1, keepcell hb4 hHeld.2.1, keepcell hb4 hHeld.2.2⟩ (fun hHeld => ?_)
            clear hK K
            try dsimp only
            clear hb4
            refine wpAnyH_takes (i := 27) (v := (.bool false)) (some 125) rfl rfl (by kernel_rfl) (by kernel_rfl) (by kernel_rfl) (fun _ _ _ h => h) (Or.inl ⟨by rfl, (by intro W9 hSw; obtain ⟨s0, s1, s2⟩ := hSw; go_simp; first | done | with_reducible rfl)⟩) (by assumption) ?_
            simp only [Act.put, List.setIfInBounds_toArray]
            try simp only [List.set_cons_zero, List.set_cons_succ]
            refine wpAnyH_takes (i := 28) (v := (.bool false)) (some 126) rfl rfl (by kernel_rfl) (by kernel_rfl) (by kernel_rfl) (fun _ _ _ h => h) (Or.inl ⟨by rfl, (by intro W9 hSw; obtain ⟨s0, s1, s2⟩ := hSw; go_simp; first | done | with_reducible rfl)⟩) (by assumption) ?_
            simp only [Act.put, List.setIfInBounds_toArray]
            try simp only [List.set_cons_zero, List.set_cons_succ]
            refine wpAnyH_takes (i := 29) (v := (.bool false)) (some 127) rfl rfl (by kernel_rfl) (by kernel_rfl) (by kernel_rfl) (fun _ _ _ h => h) (Or.inl ⟨by rfl, (by intro W9 hSw; obtain ⟨s0, s1, s2⟩ := hSw; go_simp; first | done | with_reducible rfl)⟩) (by assumption) ?_
            simp only [Act.put, List.setIfInBounds_toArray]
            try simp only [List.set_cons_zero, List.set_cons_succ]
            refine wpAnyH_done (by kernel_rfl) ?_ _
            go_wp2_with fail
            go_roundw
            case rel => exact ⟨k + 1, _, _, _, _, _, _, rfl, by go_num, by omega, by omega, by omega, HR4⟩
            case measure => simp [intOf]; omega
      · obtain rfl : k = 300 := by omega
        go_wp2_with fail
        go_ret
        exact ⟨rfl, P.out.below⟩
    · obtain rfl : k = m0 := by omega
      go_wp2_with fail
      go_ret
      exact ⟨rfl, P.out.below⟩
set_option maxRecDepth 100000 in
theorem lifted (os : Os) (started : os.Started) (H : Type) (enc : TypeId × Value → H) :
    ReturnsInHanded {} Try.checked os 3 .any (Rows.heapPlaysSpec.pre6 enc Try.prog Try.f3 Rows.heapPlaysRow.domain false) (Rows.heapPlaysSpec.post enc Try.prog Try.f3 false true false false) := by
  refine returnsInHanded_of_change (C := Try.checked) own started (by kernel_rfl) Try.func3
    (ChangeSpec.witness6 (enc := enc) (C := Try.checked) false ⟨#[], #[.slice none 0 0], []⟩ 8 (by kernel_rfl) (by kernel_rfl) (by kernel_rfl) (by kernel_rfl)) ?_
  intro W base args ds gs before hval0 hW hcnd _
  have hval : ∀ (j : Nat) t v, Try.f3.params[j]? = some t → args[j]? = some v → Value.okWide Try.prog W .any base t v := hval0
  have hW' := hW
  obtain ⟨p, q, hA0, hV, rfl, hfz, hnd⟩ := hW
  have hA : DataW.TrodAll enc Try.prog W 0 (fun _ => true) true Try.f3.params.toList args.toList ds p := hA0
  rw [Try.params3] at hA hval
  obtain ⟨v0, vs0, d0, ds0, p0, q0, hargs, rfl, rfl, h0, r0⟩ := trodAll_cons hA
  obtain ⟨rfl, rfl, rfl⟩ := trodAll_nil r0
  obtain rfl : args = #[v0] := by cases args; simp_all
  obtain ⟨rfl, rfl⟩ := trodVars_none hV
  have k0 := h0
  have lt0 : ∀ x ∈ p0, x.block < W.heap.size := by obtain ⟨m, hm⟩ := k0; exact DataW.trod_lt m _ _ _ hm
  obtain ⟨a0, len0, cap0, rfl⟩ := okWide_slice Try.underlying22 (hval 0 22 v0 rfl rfl)
  obtain ⟨aa0, ll0, cc0, z0, ev0, hr0⟩ : ∃ A n c zs, Value.slice a0 len0 cap0 = .slice A n c ∧ ZRow W A n zs := by
    obtain ⟨fuel, hf⟩ := h0
    exact open_hdeeds (by simpa [Value.cells] using hf)
  injection ev0 with ea0 eb0 ec0
  subst ea0 eb0 ec0
  clear hA0 hval0
  refine (walk a0 len0 cap0 z0 W hr0).mono fun e W' ⟨he, bel⟩ => ?_
  subst he
  exact ⟨_, rfl, _, _, _, [], _, [], hW', trodAll_mk1 (shut_bool Try.underlying4 _), (trodAll_cons_mk (Below.trod laidOut (by kernel_rfl) (of_decide_eq_true (by kernel_rfl)) k0 bel lt0) trodAll_mk0), rfl, bel.frame _, fun h => by cases h⟩
theorem over : Rows.heapPlaysRow.holds Try.pinned (OpenSpec.ofChange Rows.heapPlaysSpec) :=
  OpenClaim.holds_of_wide 3 Try.f3 rfl rfl rfl rfl rfl rfl rfl ⟨rfl, rfl, rfl, rfl, rfl⟩ rfl rfl rfl rfl rfl (by kernel_rfl) Try.func3 (by kernel_rfl)
    (of_decide_eq_true (by kernel_rfl)) (by unfold Func.isWrapper; first | (rw [if_pos (by decide +kernel)]; kernel_rfl) | (rw [if_neg (by decide +kernel)]; exact ⟨rfl, rfl⟩))
    (fun os started H enc _ => lifted os started H enc)
theorem proved : Rows.HeapPlaysSaid := over
end Go.Proofs.Ytjcljdehhckaeaa.heapPlays

