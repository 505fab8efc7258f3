/- BoxPlays: what is sent first is received first, by whoever came first; nothing is lost; and the mailbox may be all along: the call answers true and changes nothing that was there; for every input. -/
import Derived.Test.YtjpnfjiccckaiaaOShown
import Derived.Test.YtjpnfjiccckaiaaOFrame
import Derived.Test.YtjpnfjiccckaiaaOTail
import Derived.Test.YtjpnfjiccckaiaaOMay
import Derived.Deep.RegionHeld3
import Derived.Deep.DeepCutAuto
namespace Go.Proofs.Ytjpnfjiccckaiaa.boxPlays
open Go.ChangeShapes Go.WideShapes Go.ChangeAt Go.RowKit
open Mp (Bo)
set_option linter.unusedVariables false

/-- One is taken first; its place written out. -/
theorem wpAnyH_takes {P : Program} {ops : Array Oper} {Q : Exit → Act → World → Prop} {md : Region.Mode} {S : World → Prop} {i : Nat} {oi : Oper} {v : Value} {fuel : Nat} {listed : Array Bool} {a : Act} {w : World} (d : Option Tmp) (hi : ops[i]? = some oi) (hd : oi.dst = d)
    (hs : Region.noSelect ops = true) (hf : Region.free md ops listed i = true) (hr : (Region.ready md ops listed).contains i = true)
    (hQ : ∀ c a w, Q (.panic c) (a.put d v) w → Q (.panic c) a w) (hy : YieldsIf P ops S oi v a) (hS : S w)
    (h : wpAnyH P md ops Q S fuel (listed.setIfInBounds i true) (a.put d v) w) : wpAnyH P md ops Q S (fuel + 1) listed a w := by
  subst hd
  exact wpAnyH_take hi hs hf hr hQ hy hS h
theorem apart_tk {w : World} {b1 b2 n1 n c : Nat} {v1 : Value} {x1 : List Value} {A : Option Addr} {l : List Int} (h1 : w.ownsRow b1 2 1 v1 n1 x1) (h2 : Tk w b2 A n c l) : ∀ ad, A = some ad → some ad.block ≠ v1.ownBlock := by
  intro ad e h
  obtain ⟨_, cur, h3⟩ := h2.typ ad e
  rcases h1.2 with ⟨rfl, _⟩ | ⟨g1, c1, cur1, rfl, _, k1, _⟩
  · cases h
  · injection h with h
    rw [h] at h3
    simp only at h3
    rw [k1] at h3
    injection h3 with h3
    injection h3 with _ h3
    exact absurd h3 (by decide)
/-- A row of the call's own, carried on. -/
structure Ow (w : World) (base : Nat) (S : Option Addr) (n c : Nat) (zs : List Int) : Prop where
  own : w.ownsRow base 2 1 (.slice S n c) n (zs.map (Value.int .i64))
theorem Ow.step {w w' : World} {base n c : Nat} {S : Option Addr} {zs : List Int} (h : Ow w base S n c zs) (hb : Below w.heap.size w w') : Ow w' base S n c zs := ⟨own_below h.own hb⟩
theorem Ow.put {w : World} {base b n c : Nat} {S : Option Addr} {zs : List Int} {u v x y : Value} (h : Ow w base S n c zs) (hb : b < base) : Ow ((((w.setCell ⟨b, 0, none⟩ u).setCell ⟨b, 1, none⟩ v).setCell ⟨b, 2, none⟩ x).setCell ⟨b, 3, none⟩ y) base S n c zs :=
  ⟨ownsRow_setCell_below (ownsRow_setCell_below (ownsRow_setCell_below (ownsRow_setCell_below h.own hb u) hb v) hb x) hb y⟩
/-- The other row is appended to, and this one stands. -/
theorem Ow.aside {w w' : World} {b1 b2 n c m ct : Nat} {S A : Option Addr} {zs l : List Int} {foot : Option Nat} (h : Ow w b1 S n c zs) (ht : Tk w b2 A m ct l) (hg : w.grownBy w' foot) (hf : ∀ k, foot = some k → 0 < ct ∧ ∃ off, A = some ⟨k, off, none⟩) : Ow w' b1 S n c zs := by
  refine ⟨h.own.kept hg ?_⟩
  cases S with
  | none => exact .inl rfl
  | some ad =>
    refine .inr (fun e => ?_)
    obtain ⟨_, off, h2⟩ := hf ad.block e.symm
    exact apart_tk h.own ht _ h2 rfl
set_option maxHeartbeats 8000000 in
set_option maxRecDepth 100000 in
theorem walk (z : Int) (A : Option Addr) (n c : Nat) (zs : List Int) (w : World) (hz : (Lit.int .u8 z).wf = true) (hA : Row w A n c zs) :
    Calls Try.prog 4 #[.int .u8 z, .slice A n c] w fun e w' => e = .returned (.bool true) ∧ Below w.heap.size w w' := by
  have hz' : 0 ≤ z ∧ z ≤ 255 := by simpa [Lit.wf, IntKind.min, IntKind.max, IntKind.signed, IntKind.bits] using hz
  obtain ⟨r, m1, m2, hr⟩ := mod_nat 9 hz'.1 (by omega)
  have m1 : z.tmod 9 = (r : Int) := m1
  have m2 : z % 9 = (r : Int) := m2
  have hcn := hA.cap
  have hmx := hA.most
  have hlen := Lib.hid hA.len
  have HD := Lib.hid hA
  clear hz hz' hA
  go_enter Try.func4, Try.ntmps4
  go_wp2_with fail
  refine (shown_any _).mono ?_
  rintro e w1 ⟨rfl, hb1⟩
  have B1 := Lib.hid hb1
  clear hb1
  go_wp2_with fail
  clear m1 m2
  have hbw : w.heap.size ≤ w1.heap.size := B1.out.size
  have R1 := Lib.hid (BI.new (x := ⟨(r : Int), [], [], []⟩) 31 (Tri.nothing w1 r))
  have L1 := Lib.hid (Bl.mk (B1.out.alloc B1.out.size (.cells #[.int .i64 (r : Int), .slice none 0 0, .slice none 0 0, .slice none 0 0] 31)))
  generalize w1.heap.size = b at R1 hbw ⊢
  have T1 := Lib.hid (Tk.nothing (w1.alloc (.cells #[.int .i64 (r : Int), .slice none 0 0, .slice none 0 0, .slice none 0 0] 31)) (b + 1))
  have S1 := Lib.hid (Ow.mk (w := w1.alloc (.cells #[.int .i64 (r : Int), .slice none 0 0, .slice none 0 0, .slice none 0 0] 31)) (base := b + 1) (S := none) (n := 0) (c := 0) (zs := []) (World.ownsRow_nil _ _ _ _))
  have P1 := Lib.hid (Mp.Play.start (r : Int) (by omega) (by omega))
  clear B1 hr
  go_loopw [7, 8, 9, 10] (fun st wt gt i wr => ∃ (k got : Nat) (S : Option Addr) (ns cs : Nat) (T : Option Addr) (m ct : Nat) (x : Bo) (A1 : Option Addr) (n1 c1 : Nat) (A2 : Option Addr) (n2 c2 : Nat) (A3 : Option Addr) (n3 c3 : Nat) (sent wait : List Int), k ≤ n ∧ k ≤ 300 ∧ ns ≤ k ∧ m ≤ k ∧ i = .int .i64 (k : Int) ∧ gt = .int .i64 (got : Int) ∧ st = .slice S ns cs ∧ wt = .slice T m ct ∧ Hid (BI wr b A1 n1 c1 A2 n2 c2 A3 n3 c3 x) ∧ Hid (Ow wr (b + 1) S ns cs sent) ∧ Hid (Tk wr (b + 1) T m ct wait) ∧ Hid (Mp.Play x k sent got wait) ∧ Hid (Bl w wr)) (fun _ _ _ i _ => 300 - (intOf i).toNat)
  case atStart => exact ⟨0, 0, none, 0, 0, none, 0, 0, _, _, _, _, _, _, _, _, _, _, _, _, Nat.zero_le _, by omega, Nat.le_refl _, Nat.le_refl _, rfl, rfl, rfl, rfl, R1, S1, T1, P1, L1⟩
  case round =>
    obtain ⟨k, got, S, ns, cs, T, m, ct, x, A1, n1, c1, A2, n2, c2, A3, n3, c3, sent, wait, hk, hk3, hns, hmk, rfl, rfl, rfl, rfl, HR, HS, HT, HP, HB⟩ := hrel
    clear R1 S1 T1 P1 L1
    have p0 := HR.out.cel.c0
    have p1 := HR.out.cel.c1
    have p2 := HR.out.cel.c2
    have p3 := HR.out.cel.c3
    have hb0 : b < wr.heap.size := HR.out.cel.lt
    by_cases hgo : k < n ∧ k < 300
    · obtain ⟨hkn, hk4⟩ := hgo
      have t1 : (k : Int) < (n : Int) := by omega
      have t2 : (k : Int) < 300 := by omega
      have t3 : (0 : Int) ≤ (k : Int) := by omega
      obtain ⟨y, hy⟩ : ∃ y, zs[k]? = some y := ⟨_, List.getElem?_eq_getElem (by have := hlen.out; omega)⟩
      obtain ⟨bd, od, rfl, hbd, hcd⟩ := HD.out.cells (by omega)
      have hcy := keepcell HB.out.b (hcd k y hy)
      have s1 : IntKind.i64.wrap ((k : Int) + 1) = (k : Int) + 1 := IntWalk.i64_in _ (by omega)
      clear hy hcd
      have hn1 : n1 ≤ 300 ∧ n2 ≤ 300 ∧ n3 ≤ 300 := by
        have u1 := HR.out.tri.m.len
        have u2 := HR.out.tri.s.len
        have u3 := HR.out.tri.r.len
        have u4 := HT.out.row.len
        have u5 := own_len HS.out.own
        have u6 := HP.out.len
        rw [HP.out.wait] at u3
        omega
      obtain ⟨hn1, hn2, hn3⟩ := hn1
      by_cases hy0 : y = 0
      · subst hy0
        go_wp2_with fail
        refine (recv_any x A1 A2 A3 n1 n2 n3 c1 c2 c3 ((k : Int) + 1) _ HR.out.tri (by omega) (by omega) (by omega)).mono ?_
        rintro e w2 ⟨bv, rfl, P1, q1, d1, P2, q2, d2, P3, q3, d3, rfl, ht, f1, f2, f3, hb⟩
        obtain ⟨⟨x', v, g, is⟩, hE⟩ : ∃ r, Mp.rcv x ((k : Int) + 1) = r := ⟨_, rfl⟩
        have hrec := HP.out.recvs
        rw [hE] at ht hrec ⊢
        dsimp only at ht hrec ⊢
        have hb' := below_then hb (.cells #[.int .i64 x'.room, .slice P1 q1 d1, .slice P2 q2 d2, .slice P3 q3 d3] 31)
        have N2 := BI.new 31 ht
        have u5 := own_len HS.out.own
        have hs2 : wr.heap.size ≤ w2.heap.size := hb.size
        rcases hrec with ⟨hg, rfl, hP2⟩ | ⟨zz, hz, rfl, rfl, hP2⟩
        · have HP2 := Lib.hid hP2
          have t5 : decide (got < ns) = false := by simp; omega
          have t5' : ¬ got < ns := by omega
          have HT0 := HT
          clear hP2 hE HP hg u5 ht hb
          have C2 := HR.out.cel.step hb'
          have B2 := Lib.hid (HB.out.step hb')
          have T2 := Lib.hid (HT.out.step hb')
          have S2 := Lib.hid (HS.out.step hb')
          have e0 := C2.c0
          have e1 := C2.c1
          have e2 := C2.c2
          have e3 := C2.c3
          have e4 := C2.f0
          have e5 := C2.f1
          have e6 := C2.f2
          have e7 := C2.f3
          have e8 := N2.cel.c0
          have e9 := N2.cel.c1
          have e10 := N2.cel.c2
          have e11 := N2.cel.c3
          have R4 := Lib.hid (BI.put (b := b) C2 N2.tri (f1.mono hb0) (f2.mono hb0) (f3.mono hb0))
          have B4 := Lib.hid (Bl.mk (put4_below (b := b) (x := .int .i64 x'.room) (y := .slice P1 q1 d1) (z := .slice P2 q2 d2) (u := .slice P3 q3 d3) B2.out.b hbw))
          have T4 := Lib.hid (T2.out.put (u := .int .i64 x'.room) (v := .slice P1 q1 d1) (x := .slice P2 q2 d2) (y := .slice P3 q3 d3) (Nat.lt_succ_self b))
          have S4 := Lib.hid (S2.out.put (u := .int .i64 x'.room) (v := .slice P1 q1 d1) (x := .slice P2 q2 d2) (y := .slice P3 q3 d3) (Nat.lt_succ_self b))
          have F1 := Lib.hid f1
          have F2 := Lib.hid f2
          have F3 := Lib.hid f3
          clear f1 f2 f3 hb' HR HB HT HS C2 N2 B2 T2 S2 p0 p1 p2 p3
          go_wp2_with (at_builtin; refine wpList_append_tk rfl _ _ rfl (b + 1) T m ct wait ((k : Int) + 1) rfl ?c1 _ rfl ?c2 (by omega) ?c3 ?_)
          case c1 => exact T4.out.below (below_new _ _)
          case c2 => rw [World.cell?_alloc_at _ _ _ _ (by simp)]; rfl
          case c3 => simp; omega
          intro A5 c5 w5 foot hT5 hg5 hfoot
          have hft : ∀ x, foot = some x → b + 1 ≤ x ∧ x < wr.heap.size := fun x e => by
            obtain ⟨h1, off, h2⟩ := hfoot x e
            subst h2
            exact HT0.out.lt h1
          have hn5 := below_new (((((w2.alloc (.cells #[.int .i64 x'.room, .slice P1 q1 d1, .slice P2 q2 d2, .slice P3 q3 d3] 31)).setCell ⟨b, 0, none⟩ (.int .i64 x'.room)).setCell ⟨b, 1, none⟩ (.slice P1 q1 d1)).setCell ⟨b, 2, none⟩ (.slice P2 q2 d2)).setCell ⟨b, 3, none⟩ (.slice P3 q3 d3)) (.cells #[.int .i64 ((k : Int) + 1)] 3)
          have R6 := R4.out.step hn5
          have B6 := B4.out.step hn5
          have S6 := S4.out.step hn5
          have T6 := T4.out.step hn5
          have R5 := Lib.hid (BI.mk (R6.cel.grown hg5 (fun x e => by have := (hft x e).1; omega)) (R6.tri.grown hg5 F1.out F2.out F3.out (fun x e => (hft x e).2)))
          have B5 := Lib.hid (Bl.mk (B6.b.grown hg5 B6.b.size (fun x e => by have := (hft x e).1; omega)))
          have S5 := Lib.hid (S6.aside T6 hg5 hfoot)
          clear R4 B4 T4 S4 HT0 R6 B6 S6 T6 hg5 hfoot hft hn5
          have R4 := R5
          have B4 := B5
          have S4 := S5
          have T4 := Lib.hid hT5
          clear R5 B5 S5 hT5 F1 F2 F3 e0 e1 e2 e3 e4 e5 e6 e7 e8 e9 e10 e11
          have f0 := R4.out.cel.c0
          have f1 := R4.out.cel.c1
          have f2 := R4.out.cel.c2
          have f3 := R4.out.cel.c3
          have hw := HP2.out.wait
          have u1 := R4.out.tri.m.len
          have u2 := R4.out.tri.s.len
          have u3 := R4.out.tri.r.len
          have u4 := T4.out.row.len
          have u5 := own_len S4.out.own
          have u6 := HP2.out.len
          rw [hw] at u3
          obtain rfl : (m + 1) = q3 := by rw [← u3, ← u4]
          have u7 : q1 + q2 = ns - got := by rw [← u1, ← u2, ← u5]; exact u6
          have u8 := HP2.out.le
          rw [u5] at u8
          have v1 : q1 ≤ 400 := by omega
          have v2 : q2 ≤ 400 := by omega
          have s5 : IntKind.i64.wrap ((q1 : Int) + (q2 : Int)) = (q1 : Int) + (q2 : Int) := IntWalk.i64_in _ (by omega)
          have s6 : IntKind.i64.wrap ((ns : Int) - (got : Int)) = (ns : Int) - (got : Int) := IntWalk.i64_in _ (by omega)
          have t9 : ((q1 : Int) + (q2 : Int) != (ns : Int) - (got : Int)) = false := by rw [bne_eq_false_iff_eq]; omega
          clear hw u1 u2 u3 u4 u5 u6 u7 u8
          go_wp2_with fail
          refine (may_any x' P1 P2 P3 q1 q2 ((m + 1)) d1 d2 d3 _ R4.out.tri (by omega) (by omega) (by omega)).mono ?_
          rintro e w5 ⟨rfl, hb5⟩
          rw [decide_eq_true HP2.out.may]
          replace R4 := Lib.hid (R4.out.step hb5)
          replace T4 := Lib.hid (T4.out.step hb5)
          replace B4 := Lib.hid (B4.out.step hb5)
          replace S4 := Lib.hid (S4.out.step hb5)
          clear f0 f1 f2 f3 hb5
          have f0 := R4.out.cel.c0
          have f1 := R4.out.cel.c1
          have f2 := R4.out.cel.c2
          have f3 := R4.out.cel.c3
          go_wp2_with fail
          refine (ints_same P3 A5 ((m + 1)) d3 c5 (wait ++ [(k : Int) + 1]) _ (Lib.hid T4.out.row.len) (by omega) (by rw [← HP2.out.wait]; exact R4.out.tri.r.row) T4.out.row.row).mono ?_
          rintro e w6 ⟨rfl, hb6⟩
          replace R4 := Lib.hid (R4.out.step hb6)
          replace T4 := Lib.hid (T4.out.step hb6)
          replace B4 := Lib.hid (B4.out.step hb6)
          replace S4 := Lib.hid (S4.out.step hb6)
          clear f0 f1 f2 f3 hb6
          go_wp2_with fail
          go_roundw
          case rel => exact ⟨k + 1, got, S, ns, cs, A5, (m + 1), c5, x', P1, q1, d1, P2, q2, d2, P3, (m + 1), d3, sent, (wait ++ [(k : Int) + 1]), by omega, by omega, by omega, by omega, by go_num, by go_num, rfl, rfl, R4, S4, T4, HP2, B4⟩
          case measure => simp [intOf]; omega
        · have HP2 := Lib.hid hP2
          have hgl := (List.getElem?_eq_some_iff.1 hz).1
          have t5 : decide (got < ns) = true := by simp; omega
          have t5' : got < ns := by omega
          have t6 : (got : Int) < (ns : Int) := by omega
          have t7 : (0 : Int) ≤ (got : Int) := by omega
          have z2 : (v != v) = false := by simp
          have s7 : IntKind.i64.wrap ((got : Int) + 1) = (got : Int) + 1 := IntWalk.i64_in _ (by omega)
          clear hP2 hE HP ht hb
          have C2 := HR.out.cel.step hb'
          have B2 := Lib.hid (HB.out.step hb')
          have T2 := Lib.hid (HT.out.step hb')
          have S2 := Lib.hid (HS.out.step hb')
          have e0 := C2.c0
          have e1 := C2.c1
          have e2 := C2.c2
          have e3 := C2.c3
          have e4 := C2.f0
          have e5 := C2.f1
          have e6 := C2.f2
          have e7 := C2.f3
          have e8 := N2.cel.c0
          have e9 := N2.cel.c1
          have e10 := N2.cel.c2
          have e11 := N2.cel.c3
          have R4 := Lib.hid (BI.put (b := b) C2 N2.tri (f1.mono hb0) (f2.mono hb0) (f3.mono hb0))
          have B4 := Lib.hid (Bl.mk (put4_below (b := b) (x := .int .i64 x'.room) (y := .slice P1 q1 d1) (z := .slice P2 q2 d2) (u := .slice P3 q3 d3) B2.out.b hbw))
          have T4 := Lib.hid (T2.out.put (u := .int .i64 x'.room) (v := .slice P1 q1 d1) (x := .slice P2 q2 d2) (y := .slice P3 q3 d3) (Nat.lt_succ_self b))
          have S4 := Lib.hid (S2.out.put (u := .int .i64 x'.room) (v := .slice P1 q1 d1) (x := .slice P2 q2 d2) (y := .slice P3 q3 d3) (Nat.lt_succ_self b))
          have F1 := Lib.hid f1
          have F2 := Lib.hid f2
          have F3 := Lib.hid f3
          clear f1 f2 f3 hb' HR HB HT HS C2 N2 B2 T2 S2 p0 p1 p2 p3
          obtain ⟨S', cs', hS', hSr, _⟩ := Row.of_own' S4.out.own
          injection hS' with hS1 _ hS2
          subst hS1 hS2
          obtain ⟨gs, os, rfl, hgs, hcs⟩ := hSr.cells (by omega)
          have hcz := hcs got v hz
          have hcap := hSr.cap
          have hcm := hSr.most
          clear hcs hz hSr u5
          have f0 := R4.out.cel.c0
          have f1 := R4.out.cel.c1
          have f2 := R4.out.cel.c2
          have f3 := R4.out.cel.c3
          have hw := HP2.out.wait
          have u1 := R4.out.tri.m.len
          have u2 := R4.out.tri.s.len
          have u3 := R4.out.tri.r.len
          have u4 := T4.out.row.len
          have u5 := own_len S4.out.own
          have u6 := HP2.out.len
          rw [hw] at u3
          obtain rfl : m = q3 := by rw [← u3, ← u4]
          have u7 : q1 + q2 = ns - (got + 1) := by rw [← u1, ← u2, ← u5]; exact u6
          have u8 := HP2.out.le
          rw [u5] at u8
          have v1 : q1 ≤ 400 := by omega
          have v2 : q2 ≤ 400 := by omega
          have s5 : IntKind.i64.wrap ((q1 : Int) + (q2 : Int)) = (q1 : Int) + (q2 : Int) := IntWalk.i64_in _ (by omega)
          have s6 : IntKind.i64.wrap ((ns : Int) - ((got : Int) + 1)) = (ns : Int) - ((got : Int) + 1) := IntWalk.i64_in _ (by omega)
          have t9 : ((q1 : Int) + (q2 : Int) != (ns : Int) - ((got : Int) + 1)) = false := by rw [bne_eq_false_iff_eq]; omega
          clear hw u1 u2 u3 u4 u5 u6 u7 u8
          go_wp2_with fail
          refine (may_any x' P1 P2 P3 q1 q2 (m) d1 d2 d3 _ R4.out.tri (by omega) (by omega) (by omega)).mono ?_
          rintro e w5 ⟨rfl, hb5⟩
          rw [decide_eq_true HP2.out.may]
          replace R4 := Lib.hid (R4.out.step hb5)
          replace T4 := Lib.hid (T4.out.step hb5)
          replace B4 := Lib.hid (B4.out.step hb5)
          replace S4 := Lib.hid (S4.out.step hb5)
          clear f0 f1 f2 f3 hb5
          have f0 := R4.out.cel.c0
          have f1 := R4.out.cel.c1
          have f2 := R4.out.cel.c2
          have f3 := R4.out.cel.c3
          go_wp2_with fail
          refine (ints_same P3 T (m) d3 ct wait _ (Lib.hid T4.out.row.len) (by omega) (by rw [← HP2.out.wait]; exact R4.out.tri.r.row) T4.out.row.row).mono ?_
          rintro e w6 ⟨rfl, hb6⟩
          replace R4 := Lib.hid (R4.out.step hb6)
          replace T4 := Lib.hid (T4.out.step hb6)
          replace B4 := Lib.hid (B4.out.step hb6)
          replace S4 := Lib.hid (S4.out.step hb6)
          clear f0 f1 f2 f3 hb6
          go_wp2_with fail
          go_roundw
          case rel => exact ⟨k + 1, (got + 1), (some ⟨gs, os, none⟩), ns, cs, T, m, ct, x', P1, q1, d1, P2, q2, d2, P3, m, d3, sent, wait, by omega, by omega, by omega, by omega, by go_num, by go_num, rfl, rfl, R4, S4, T4, HP2, B4⟩
          case measure => simp [intOf]; omega
      · have hy1 : (y == 0) = false := by rw [beq_eq_false_iff_ne]; exact hy0
        go_upto_region 17 with fail
        obtain ⟨⟨x', tg, is⟩, hE⟩ : ∃ r, Mp.snd x ((k : Int) + 1) y = r := ⟨_, rfl⟩
        have hbd' : bd < wr.heap.size := Nat.lt_of_lt_of_le hbd HB.out.b.size
        have HQ := Lib.hid HR.out.cel
        have HY := Lib.hid hcy
        go_cut [15, 16, 17] (fun p t bb wx => ∃ (yb : Nat) (P1 : Option Addr) (q1 d1 : Nat) (P2 : Option Addr) (q2 d2 : Nat) (P3 : Option Addr) (q3 d3 : Nat), p = .pointer (some ⟨yb, 0, none⟩) ∧ t = .int .i64 tg ∧ bb = .bool is ∧ Hid (Q4 wx yb (.int .i64 x'.room) (.slice P1 q1 d1) (.slice P2 q2 d2) (.slice P3 q3 d3)) ∧ Hid (Tri wx P1 q1 d1 P2 q2 d2 P3 q3 d3 x') ∧ Hid (From wr.heap.size P1 ∧ From wr.heap.size P2 ∧ From wr.heap.size P3) ∧ Hid (wr.heap.size ≤ yb) ∧ Hid (Below wr.heap.size wr wx))
        case first =>
          go_wp2_with fail
          refine wp_region_held_drew (S := fun W => Q4 W b (.int .i64 x.room) (.slice A1 n1 c1) (.slice A2 n2 c2) (.slice A3 n3 c3) ∧ W.cell? ⟨bd, od + k, none⟩ = some (.int .i64 y)) (by kernel_rfl) ⟨HQ.out.drew, HY.out⟩ (fun hHeld => ?_)
          have HV := Lib.hid (show Below wr.heap.size wr wr.drew from (Below.refl _ _).drew)
          have HVs := Lib.hid (show wr.drew.heap.size = wr.heap.size from rfl)
          generalize wr.drew = V at *
          refine wpAnyH_takes (i := 0) (v := (.agg #[.int .i64 x.room, .slice A1 n1 c1, .slice A2 n2 c2, .slice A3 n3 c3])) (some 74) rfl rfl (by kernel_rfl) (by kernel_rfl) (by kernel_rfl) (fun _ _ _ h => h) (Or.inl ⟨by rfl, (by intro W9 hSw; have s0 := hSw.1.c0; have s1 := hSw.1.c1; have s2 := hSw.1.c2; have s3 := hSw.1.c3; have s4 := hSw.2; clear hSw; go_simp; first | done | with_reducible rfl)⟩) (by assumption) ?_
          simp only [Act.put, List.setIfInBounds_toArray, List.set_cons_zero, List.set_cons_succ]
          refine wpAnyH_takes (i := 1) (v := (.int .i64 k)) (some 75) rfl rfl (by kernel_rfl) (by kernel_rfl) (by kernel_rfl) (fun _ _ _ h => h) (Or.inl ⟨by rfl, (by intro W9 hSw; have s0 := hSw.1.c0; have s1 := hSw.1.c1; have s2 := hSw.1.c2; have s3 := hSw.1.c3; have s4 := hSw.2; clear hSw; go_simp; first | done | with_reducible rfl)⟩) (by assumption) ?_
          simp only [Act.put, List.setIfInBounds_toArray, List.set_cons_zero, List.set_cons_succ]
          refine wpAnyH_takes (i := 2) (v := (.int .i64 (k + 1))) (some 76) rfl rfl (by kernel_rfl) (by kernel_rfl) (by kernel_rfl) (fun _ _ _ h => h) (Or.inl ⟨by rfl, (by intro W9 hSw; have s0 := hSw.1.c0; have s1 := hSw.1.c1; have s2 := hSw.1.c2; have s3 := hSw.1.c3; have s4 := hSw.2; clear hSw; go_simp; first | done | with_reducible rfl)⟩) (by assumption) ?_
          simp only [Act.put, List.setIfInBounds_toArray, List.set_cons_zero, List.set_cons_succ]
          refine wpAnyH_takes (i := 3) (v := (.slice (some ⟨bd, od, none⟩) n c)) (some 77) rfl rfl (by kernel_rfl) (by kernel_rfl) (by kernel_rfl) (fun _ _ _ h => h) (Or.inl ⟨by rfl, (by intro W9 hSw; have s0 := hSw.1.c0; have s1 := hSw.1.c1; have s2 := hSw.1.c2; have s3 := hSw.1.c3; have s4 := hSw.2; clear hSw; go_simp; first | done | with_reducible rfl)⟩) (by assumption) ?_
          simp only [Act.put, List.setIfInBounds_toArray, List.set_cons_zero, List.set_cons_succ]
          refine wpAnyH_takes (i := 4) (v := (.int .i64 k)) (some 78) rfl rfl (by kernel_rfl) (by kernel_rfl) (by kernel_rfl) (fun _ _ _ h => h) (Or.inl ⟨by rfl, (by intro W9 hSw; have s0 := hSw.1.c0; have s1 := hSw.1.c1; have s2 := hSw.1.c2; have s3 := hSw.1.c3; have s4 := hSw.2; clear hSw; go_simp; first | done | with_reducible rfl)⟩) (by assumption) ?_
          simp only [Act.put, List.setIfInBounds_toArray, List.set_cons_zero, List.set_cons_succ]
          refine wpAnyH_takes (i := 5) (v := (.pointer (some ⟨bd, od + k, none⟩))) (some 79) rfl rfl (by kernel_rfl) (by kernel_rfl) (by kernel_rfl) (fun _ _ _ h => h) (Or.inl ⟨by rfl, (by intro W9 hSw; have s0 := hSw.1.c0; have s1 := hSw.1.c1; have s2 := hSw.1.c2; have s3 := hSw.1.c3; have s4 := hSw.2; clear hSw; go_simp; first | done | with_reducible rfl)⟩) (by assumption) ?_
          simp only [Act.put, List.setIfInBounds_toArray, List.set_cons_zero, List.set_cons_succ]
          refine wpAnyH_takes (i := 6) (v := (.int .i64 y)) (some 80) rfl rfl (by kernel_rfl) (by kernel_rfl) (by kernel_rfl) (fun _ _ _ h => h) (Or.inl ⟨by rfl, (by intro W9 hSw; have s0 := hSw.1.c0; have s1 := hSw.1.c1; have s2 := hSw.1.c2; have s3 := hSw.1.c3; have s4 := hSw.2; clear hSw; go_simp; first | done | with_reducible rfl)⟩) (by assumption) ?_
          simp only [Act.put, List.setIfInBounds_toArray, List.set_cons_zero, List.set_cons_succ]
          refine wpAnyH_ready (rs := [7, 12]) (by kernel_rfl) (by simp) ?_
          refine AllReadyH.cons rfl (fun K hK => ?_) (AllReadyH.cons rfl (fun K hK => ?_) AllReadyH.nil)
          · go_simp
            go_at_call_of 13 (Value.slice A1 n1 c1)
            refine (send_any x A1 A2 A3 n1 n2 n3 c1 c2 c3 ((k : Int) + 1) y _ (HR.out.tri.step HV.out) (by omega) (by omega) (by omega)).mono ?_
            rintro e w2 ⟨bv, rfl, P1, q1, d1, P2, q2, d2, P3, q3, d3, rfl, ht, f1, f2, f3, hb⟩
            rw [hE] at ht ⊢
            dsimp only at ht ⊢
            refine hK.out _ _ ⟨hHeld.1.step hb, keepcell hb hHeld.2⟩ (fun hHeld => ?_)
            clear hK K
            try dsimp only
            refine wpAnyH_takes (i := 8) (v := (.tuple #[.agg #[.int .i64 x'.room, .slice P1 q1 d1, .slice P2 q2 d2, .slice P3 q3 d3], .int .i64 tg, .bool is])) (some 73) rfl rfl (by kernel_rfl) (by kernel_rfl) (by kernel_rfl) (fun _ _ _ h => h) (Or.inl ⟨by rfl, (by intro W9 hSw; clear hSw; go_simp; first | done | with_reducible rfl)⟩) (by assumption) ?_
            simp only [Act.put, List.setIfInBounds_toArray]
            refine wpAnyH_takes (i := 9) (v := (.agg #[.int .i64 x'.room, .slice P1 q1 d1, .slice P2 q2 d2, .slice P3 q3 d3])) (some 82) rfl rfl (by kernel_rfl) (by kernel_rfl) (by kernel_rfl) (fun _ _ _ h => h) (Or.inl ⟨by rfl, (by intro W9 hSw; clear hSw; go_simp; first | done | with_reducible rfl)⟩) (by assumption) ?_
            simp only [Act.put, List.setIfInBounds_toArray]
            refine wpAnyH_takes (i := 10) (v := (.int .i64 tg)) (some 83) rfl rfl (by kernel_rfl) (by kernel_rfl) (by kernel_rfl) (fun _ _ _ h => h) (Or.inl ⟨by rfl, (by intro W9 hSw; clear hSw; go_simp; first | done | with_reducible rfl)⟩) (by assumption) ?_
            simp only [Act.put, List.setIfInBounds_toArray]
            refine wpAnyH_takes (i := 11) (v := (.bool is)) (some 84) rfl rfl (by kernel_rfl) (by kernel_rfl) (by kernel_rfl) (fun _ _ _ h => h) (Or.inl ⟨by rfl, (by intro W9 hSw; clear hSw; go_simp; first | done | with_reducible rfl)⟩) (by assumption) ?_
            simp only [Act.put, List.setIfInBounds_toArray]
            refine wpAnyH_ready (rs := [12]) (by kernel_rfl) (by simp) ?_
            refine AllReadyH.cons rfl (fun K hK => ?_) AllReadyH.nil
            go_simp
            have hq := Q4.new w2 (.int .i64 0) (.slice none 0 0) (.slice none 0 0) (.slice none 0 0) 31
            have hnw := below_new w2 (.cells #[.int .i64 0, .slice none 0 0, .slice none 0 0, .slice none 0 0] 31)
            refine hK.out _ _ ⟨hHeld.1.step hnw, keepcell hnw hHeld.2⟩ (fun hHeld => ?_)
            clear hK K
            try dsimp only
            generalize w2.alloc (.cells #[.int .i64 0, .slice none 0 0, .slice none 0 0, .slice none 0 0] 31) = V2 at *
            have y0 := hq.c0
            have y1 := hq.c1
            have y2 := hq.c2
            have y3 := hq.c3
            have y4 := hq.f0
            have y5 := hq.f1
            have y6 := hq.f2
            have y7 := hq.f3
            refine wpAnyH_ready (rs := [13]) (by kernel_rfl) (by simp) ?_
            refine AllReadyH.cons rfl (fun K hK => ?_) AllReadyH.nil
            go_simp
            have hs2 : wr.heap.size ≤ w2.heap.size := by have := hb.size; have := HVs.out; omega
            have hpw : Below w2.heap.size w2 ((((V2.setCell ⟨w2.heap.size, 0, none⟩ (.int .i64 x'.room)).setCell ⟨w2.heap.size, 1, none⟩ (.slice P1 q1 d1)).setCell ⟨w2.heap.size, 2, none⟩ (.slice P2 q2 d2)).setCell ⟨w2.heap.size, 3, none⟩ (.slice P3 q3 d3)) := put4_below hnw (Nat.le_refl _)
            have HB3 := Lib.hid ((HV.out.trans (hb.mono (by have := HVs.out; omega))).trans (hpw.mono hs2))
            have HT3 := Lib.hid (ht.step hpw)
            have HQ3 := Lib.hid (hq.put (.int .i64 x'.room) (.slice P1 q1 d1) (.slice P2 q2 d2) (.slice P3 q3 d3))
            have HF3 := Lib.hid (show From wr.heap.size P1 ∧ From wr.heap.size P2 ∧ From wr.heap.size P3 from ⟨f1.mono (by have := HVs.out; omega), f2.mono (by have := HVs.out; omega), f3.mono (by have := HVs.out; omega)⟩)
            have HS3 := Lib.hid hs2
            refine hK.out _ _ ⟨hHeld.1.off (by omega) _ _ _ _, (keepcell hpw (keepcell hb (by first | exact HY.out | exact keepcell HV.out HY.out)))⟩ (fun hHeld => ?_)
            clear hK K ht f1 f2 f3 hb hq hnw hpw y0 y1 y2 y3 y4 y5 y6 y7
            try dsimp only
            refine wpAnyH_takes (i := 14) (v := (.int .i64 tg)) (some 16) rfl rfl (by kernel_rfl) (by kernel_rfl) (by kernel_rfl) (fun _ _ _ h => h) (Or.inl ⟨by rfl, (by intro W9 hSw; clear hSw; go_simp; first | done | with_reducible rfl)⟩) (by assumption) ?_
            simp only [Act.put, List.setIfInBounds_toArray]
            refine wpAnyH_takes (i := 15) (v := (.bool is)) (some 17) rfl rfl (by kernel_rfl) (by kernel_rfl) (by kernel_rfl) (fun _ _ _ h => h) (Or.inl ⟨by rfl, (by intro W9 hSw; clear hSw; go_simp; first | done | with_reducible rfl)⟩) (by assumption) ?_
            simp only [Act.put, List.setIfInBounds_toArray]
            refine wpAnyH_done (by kernel_rfl) ?_ _
            go_wp2_with fail
            go_meet
            exact ⟨w2.heap.size, P1, q1, d1, P2, q2, d2, P3, q3, d3, rfl, rfl, rfl, HQ3, HT3, HF3, HS3, HB3⟩
          · go_simp
            have hq := Q4.new V (.int .i64 0) (.slice none 0 0) (.slice none 0 0) (.slice none 0 0) 31
            have hnw := below_new V (.cells #[.int .i64 0, .slice none 0 0, .slice none 0 0, .slice none 0 0] 31)
            have hsz : (V.alloc (.cells #[.int .i64 0, .slice none 0 0, .slice none 0 0, .slice none 0 0] 31)).heap.size = V.heap.size + 1 := by simp
            refine hK.out _ _ ⟨hHeld.1.step hnw, keepcell hnw hHeld.2⟩ (fun hHeld => ?_)
            clear hK K
            try dsimp only
            have HSZ := Lib.hid hsz
            clear hsz
            generalize V.alloc (.cells #[.int .i64 0, .slice none 0 0, .slice none 0 0, .slice none 0 0] 31) = V2 at *
            refine wpAnyH_ready (rs := [7]) (by kernel_rfl) (by simp) ?_
            refine AllReadyH.cons rfl (fun K hK => ?_) AllReadyH.nil
            go_simp
            have HTV := Lib.hid ((HR.out.tri.step HV.out).step hnw)
            go_at_call_of 13 (Value.slice A1 n1 c1)
            refine (send_any x A1 A2 A3 n1 n2 n3 c1 c2 c3 ((k : Int) + 1) y _ HTV.out (by omega) (by omega) (by omega)).mono ?_
            rintro e w2 ⟨bv, rfl, P1, q1, d1, P2, q2, d2, P3, q3, d3, rfl, ht, f1, f2, f3, hb⟩
            rw [hE] at ht ⊢
            dsimp only at ht ⊢
            refine hK.out _ _ ⟨hHeld.1.step hb, keepcell hb hHeld.2⟩ (fun hHeld => ?_)
            clear hK K
            try dsimp only
            have hq2 := hq.step hb
            have y0 := hq2.c0
            have y1 := hq2.c1
            have y2 := hq2.c2
            have y3 := hq2.c3
            have y4 := hq2.f0
            have y5 := hq2.f1
            have y6 := hq2.f2
            have y7 := hq2.f3
            refine wpAnyH_takes (i := 8) (v := (.tuple #[.agg #[.int .i64 x'.room, .slice P1 q1 d1, .slice P2 q2 d2, .slice P3 q3 d3], .int .i64 tg, .bool is])) (some 73) rfl rfl (by kernel_rfl) (by kernel_rfl) (by kernel_rfl) (fun _ _ _ h => h) (Or.inl ⟨by rfl, (by intro W9 hSw; clear hSw; go_simp; first | done | with_reducible rfl)⟩) (by assumption) ?_
            simp only [Act.put, List.setIfInBounds_toArray]
            refine wpAnyH_takes (i := 9) (v := (.agg #[.int .i64 x'.room, .slice P1 q1 d1, .slice P2 q2 d2, .slice P3 q3 d3])) (some 82) rfl rfl (by kernel_rfl) (by kernel_rfl) (by kernel_rfl) (fun _ _ _ h => h) (Or.inl ⟨by rfl, (by intro W9 hSw; clear hSw; go_simp; first | done | with_reducible rfl)⟩) (by assumption) ?_
            simp only [Act.put, List.setIfInBounds_toArray]
            refine wpAnyH_takes (i := 10) (v := (.int .i64 tg)) (some 83) rfl rfl (by kernel_rfl) (by kernel_rfl) (by kernel_rfl) (fun _ _ _ h => h) (Or.inl ⟨by rfl, (by intro W9 hSw; clear hSw; go_simp; first | done | with_reducible rfl)⟩) (by assumption) ?_
            simp only [Act.put, List.setIfInBounds_toArray]
            refine wpAnyH_takes (i := 11) (v := (.bool is)) (some 84) rfl rfl (by kernel_rfl) (by kernel_rfl) (by kernel_rfl) (fun _ _ _ h => h) (Or.inl ⟨by rfl, (by intro W9 hSw; clear hSw; go_simp; first | done | with_reducible rfl)⟩) (by assumption) ?_
            simp only [Act.put, List.setIfInBounds_toArray]
            refine wpAnyH_ready (rs := [13]) (by kernel_rfl) (by simp) ?_
            refine AllReadyH.cons rfl (fun K hK => ?_) AllReadyH.nil
            go_simp
            have hz2 := HSZ.out
            have hz3 := HVs.out
            have hpw : Below wr.heap.size w2 ((((w2.setCell ⟨V.heap.size, 0, none⟩ (.int .i64 x'.room)).setCell ⟨V.heap.size, 1, none⟩ (.slice P1 q1 d1)).setCell ⟨V.heap.size, 2, none⟩ (.slice P2 q2 d2)).setCell ⟨V.heap.size, 3, none⟩ (.slice P3 q3 d3)) := put4_below (Below.refl _ _) (by omega)
            have hbw2 : Below wr.heap.size wr w2 := (HV.out.trans (hnw.mono (by omega))).trans (hb.mono (by omega))
            have HB3 := Lib.hid (hbw2.trans hpw)
            have HT3 := Lib.hid (ht.put (X := V.heap.size) (x := .int .i64 x'.room) (y := .slice P1 q1 d1) (z := .slice P2 q2 d2) (u := .slice P3 q3 d3) (f1.mono (by omega)) (f2.mono (by omega)) (f3.mono (by omega)))
            have HQ3 := Lib.hid (hq2.put (.int .i64 x'.room) (.slice P1 q1 d1) (.slice P2 q2 d2) (.slice P3 q3 d3))
            have HF3 := Lib.hid (show From wr.heap.size P1 ∧ From wr.heap.size P2 ∧ From wr.heap.size P3 from ⟨f1.mono (by omega), f2.mono (by omega), f3.mono (by omega)⟩)
            have HS3 := Lib.hid (show wr.heap.size ≤ V.heap.size by omega)
            refine hK.out _ _ ⟨hHeld.1.off (by omega) _ _ _ _, keepcell (hbw2.trans hpw) (by first | exact HY.out | exact keepcell HV.out HY.out)⟩ (fun hHeld => ?_)
            clear hK K ht f1 f2 f3 hb hq hq2 hnw hpw hbw2 y0 y1 y2 y3 y4 y5 y6 y7 hz2 hz3
            try dsimp only
            refine wpAnyH_takes (i := 14) (v := (.int .i64 tg)) (some 16) rfl rfl (by kernel_rfl) (by kernel_rfl) (by kernel_rfl) (fun _ _ _ h => h) (Or.inl ⟨by rfl, (by intro W9 hSw; clear hSw; go_simp; first | done | with_reducible rfl)⟩) (by assumption) ?_
            simp only [Act.put, List.setIfInBounds_toArray]
            refine wpAnyH_takes (i := 15) (v := (.bool is)) (some 17) rfl rfl (by kernel_rfl) (by kernel_rfl) (by kernel_rfl) (fun _ _ _ h => h) (Or.inl ⟨by rfl, (by intro W9 hSw; clear hSw; go_simp; first | done | with_reducible rfl)⟩) (by assumption) ?_
            simp only [Act.put, List.setIfInBounds_toArray]
            refine wpAnyH_done (by kernel_rfl) ?_ _
            go_wp2_with fail
            go_meet
            exact ⟨V.heap.size, P1, q1, d1, P2, q2, d2, P3, q3, d3, rfl, rfl, rfl, HQ3, HT3, HF3, HS3, HB3⟩
        case rest =>
          obtain ⟨yb, P1, q1, d1, P2, q2, d2, P3, q3, d3, rfl, rfl, rfl, HQ3, HT3, HF3, HS3, HB3⟩ := hcut
          have hb' := HB3.out
          have N2 : BI wc yb P1 q1 d1 P2 q2 d2 P3 q3 d3 x' := ⟨HQ3.out, HT3.out⟩
          obtain ⟨f1, f2, f3⟩ := HF3.out
          have hs2 : wr.heap.size ≤ wc.heap.size := hb'.size
          have hcy2 := keepcell hb' hcy
          have hcyp : ((((wc.setCell ⟨b, 0, none⟩ (.int .i64 x'.room)).setCell ⟨b, 1, none⟩ (.slice P1 q1 d1)).setCell ⟨b, 2, none⟩ (.slice P2 q2 d2)).setCell ⟨b, 3, none⟩ (.slice P3 q3 d3)).cell? ⟨bd, od + k, none⟩ = some (.int .i64 y) := by
            rw [World.cell?_setCell_other _ _ _ _ (fun e => by injection e with e; omega), World.cell?_setCell_other _ _ _ _ (fun e => by injection e with e; omega), World.cell?_setCell_other _ _ _ _ (fun e => by injection e with e; omega), World.cell?_setCell_other _ _ _ _ (fun e => by injection e with e; omega)]
            exact hcy2
          have hsnd := HP.out.sends (n := y)
          rw [hE] at hsnd
          dsimp only at hsnd
          have HS0 := HS
          clear hE HQ HY HQ3 HT3 HF3 HS3 HB3 HP hcy
          rcases hsnd with ⟨rfl, rfl, hP2⟩ | ⟨zz, tt, rfl, hz1, hzt, hP2⟩
          · have HP2 := Lib.hid hP2
            obtain rfl : m = 0 := HT.out.row.len.symm
            clear hP2
            have C2 := HR.out.cel.step hb'
            have B2 := Lib.hid (HB.out.step hb')
            have T2 := Lib.hid (HT.out.step hb')
            have S2 := Lib.hid (HS.out.step hb')
            have e0 := C2.c0
            have e1 := C2.c1
            have e2 := C2.c2
            have e3 := C2.c3
            have e4 := C2.f0
            have e5 := C2.f1
            have e6 := C2.f2
            have e7 := C2.f3
            have e8 := N2.cel.c0
            have e9 := N2.cel.c1
            have e10 := N2.cel.c2
            have e11 := N2.cel.c3
            have R4 := Lib.hid (BI.put (b := b) C2 N2.tri (f1.mono hb0) (f2.mono hb0) (f3.mono hb0))
            have B4 := Lib.hid (Bl.mk (put4_below (b := b) (x := .int .i64 x'.room) (y := .slice P1 q1 d1) (z := .slice P2 q2 d2) (u := .slice P3 q3 d3) B2.out.b hbw))
            have T4 := Lib.hid (T2.out.put (u := .int .i64 x'.room) (v := .slice P1 q1 d1) (x := .slice P2 q2 d2) (y := .slice P3 q3 d3) (Nat.lt_succ_self b))
            have S4 := Lib.hid (S2.out.put (u := .int .i64 x'.room) (v := .slice P1 q1 d1) (x := .slice P2 q2 d2) (y := .slice P3 q3 d3) (Nat.lt_succ_self b))
            have F1 := Lib.hid f1
            have F2 := Lib.hid f2
            have F3 := Lib.hid f3
            clear f1 f2 f3 hb' HR HB HT HS C2 N2 B2 T2 S2 p0 p1 p2 p3
            have hn5 := below_new ((((wc.setCell ⟨b, 0, none⟩ (.int .i64 x'.room)).setCell ⟨b, 1, none⟩ (.slice P1 q1 d1)).setCell ⟨b, 2, none⟩ (.slice P2 q2 d2)).setCell ⟨b, 3, none⟩ (.slice P3 q3 d3)) (.cells #[.int .i64 y] 2)
            have hY5 := row_at64 ((((wc.setCell ⟨b, 0, none⟩ (.int .i64 x'.room)).setCell ⟨b, 1, none⟩ (.slice P1 q1 d1)).setCell ⟨b, 2, none⟩ (.slice P2 q2 d2)).setCell ⟨b, 3, none⟩ (.slice P3 q3 d3)) y wc.heap.size (by simp)
            have R6 := Lib.hid (R4.out.step hn5)
            have B6 := Lib.hid (B4.out.step hn5)
            have S6 := Lib.hid (S4.out.step hn5)
            have T6 := Lib.hid (T4.out.step hn5)
            have Y6 := Lib.hid hY5
            clear hn5 hY5
            go_wp2_with (at_builtin; refine wpList_append_row64 rfl _ _ rfl (b + 1) (.slice S ns cs) ns sent rfl S6.out.own _ 1 1 [y] rfl Y6.out (by omega) ?c3 ?_)
            case c3 => simp; omega
            intro v5 w5 ho5 hg5
            obtain ⟨S5, c5, rfl⟩ := own_form ho5
            have hlt5 : ∀ j, (Value.slice S ns cs).ownBlock = some j → b + 1 ≤ j ∧ j < wr.heap.size := fun j e => HS0.out.own.lt j e
            have R5 := Lib.hid (BI.mk (R6.out.cel.grown hg5 (fun j e => by have := (hlt5 j e).1; omega)) (R6.out.tri.grown hg5 F1.out F2.out F3.out (fun j e => (hlt5 j e).2)))
            have B5 := Lib.hid (Bl.mk (B6.out.b.grown hg5 B6.out.b.size (fun j e => by have := (hlt5 j e).1; omega)))
            have T5 := Lib.hid (T6.out.grown hg5 (apart_tk S6.out.own T6.out))
            have S7 := Lib.hid (show Ow w5 (b + 1) S5 (ns + 1) c5 (sent ++ [y]) from ⟨by rw [List.map_append]; exact ho5⟩)
            clear R4 B4 T4 S4 R6 B6 S6 T6 Y6 hg5 ho5 hlt5 HS0
            have R4 := R5
            have B4 := B5
            have S4 := S7
            have T4 := T5
            clear R5 B5 S7 T5 F1 F2 F3 e0 e1 e2 e3 e4 e5 e6 e7 e8 e9 e10 e11
            have f0 := R4.out.cel.c0
            have f1 := R4.out.cel.c1
            have f2 := R4.out.cel.c2
            have f3 := R4.out.cel.c3
            have hw := HP2.out.wait
            have u1 := R4.out.tri.m.len
            have u2 := R4.out.tri.s.len
            have u3 := R4.out.tri.r.len
            have u4 := T4.out.row.len
            have u5 := own_len S4.out.own
            have u6 := HP2.out.len
            rw [hw] at u3
            obtain rfl : 0 = q3 := by rw [← u3, ← u4]
            have u7 : q1 + q2 = (ns + 1) - got := by rw [← u1, ← u2, ← u5]; exact u6
            have u8 := HP2.out.le
            rw [u5] at u8
            have v1 : q1 ≤ 400 := by omega
            have v2 : q2 ≤ 400 := by omega
            have s5 : IntKind.i64.wrap ((q1 : Int) + (q2 : Int)) = (q1 : Int) + (q2 : Int) := IntWalk.i64_in _ (by omega)
            have s6 : IntKind.i64.wrap (((ns : Int) + 1) - (got : Int)) = ((ns : Int) + 1) - (got : Int) := IntWalk.i64_in _ (by omega)
            have t9 : ((q1 : Int) + (q2 : Int) != ((ns : Int) + 1) - (got : Int)) = false := by rw [bne_eq_false_iff_eq]; omega
            clear hw u1 u2 u3 u4 u5 u6 u7 u8
            go_wp2_with fail
            refine (may_any x' P1 P2 P3 q1 q2 (0) d1 d2 d3 _ R4.out.tri (by omega) (by omega) (by omega)).mono ?_
            rintro e w5 ⟨rfl, hb5⟩
            rw [decide_eq_true HP2.out.may]
            replace R4 := Lib.hid (R4.out.step hb5)
            replace T4 := Lib.hid (T4.out.step hb5)
            replace B4 := Lib.hid (B4.out.step hb5)
            replace S4 := Lib.hid (S4.out.step hb5)
            clear f0 f1 f2 f3 hb5
            have f0 := R4.out.cel.c0
            have f1 := R4.out.cel.c1
            have f2 := R4.out.cel.c2
            have f3 := R4.out.cel.c3
            go_wp2_with fail
            refine (ints_same P3 T (0) d3 ct [] _ (Lib.hid T4.out.row.len) (by omega) (by rw [← HP2.out.wait]; exact R4.out.tri.r.row) T4.out.row.row).mono ?_
            rintro e w6 ⟨rfl, hb6⟩
            replace R4 := Lib.hid (R4.out.step hb6)
            replace T4 := Lib.hid (T4.out.step hb6)
            replace B4 := Lib.hid (B4.out.step hb6)
            replace S4 := Lib.hid (S4.out.step hb6)
            clear f0 f1 f2 f3 hb6
            go_wp2_with fail
            go_roundw
            case rel => exact ⟨k + 1, got, S5, (ns + 1), c5, T, 0, ct, x', P1, q1, d1, P2, q2, d2, P3, 0, d3, (sent ++ [y]), [], by omega, by omega, by omega, by omega, by go_num, by go_num, rfl, rfl, R4, S4, T4, HP2, B4⟩
            case measure => simp [intOf]; omega
          · subst hzt
            have HP2 := Lib.hid hP2
            have hm1 : (tg :: tt).length = m := HT.out.row.len
            have hm2 : 0 < m := by simp at hm1; omega
            have hm3 : (0 : Int) < (m : Int) := by omega
            have z2 : (tg != tg) = false := by simp
            have z3 : (tg != 0) = true := by rw [bne_iff_ne]; omega
            have z4 : (tg == 0) = false := by rw [beq_eq_false_iff_ne]; omega
            clear hP2 HS0 hm1
            have C2 := HR.out.cel.step hb'
            have B2 := Lib.hid (HB.out.step hb')
            have T2 := Lib.hid (HT.out.step hb')
            have S2 := Lib.hid (HS.out.step hb')
            have e0 := C2.c0
            have e1 := C2.c1
            have e2 := C2.c2
            have e3 := C2.c3
            have e4 := C2.f0
            have e5 := C2.f1
            have e6 := C2.f2
            have e7 := C2.f3
            have e8 := N2.cel.c0
            have e9 := N2.cel.c1
            have e10 := N2.cel.c2
            have e11 := N2.cel.c3
            have R4 := Lib.hid (BI.put (b := b) C2 N2.tri (f1.mono hb0) (f2.mono hb0) (f3.mono hb0))
            have B4 := Lib.hid (Bl.mk (put4_below (b := b) (x := .int .i64 x'.room) (y := .slice P1 q1 d1) (z := .slice P2 q2 d2) (u := .slice P3 q3 d3) B2.out.b hbw))
            have T4 := Lib.hid (T2.out.put (u := .int .i64 x'.room) (v := .slice P1 q1 d1) (x := .slice P2 q2 d2) (y := .slice P3 q3 d3) (Nat.lt_succ_self b))
            have S4 := Lib.hid (S2.out.put (u := .int .i64 x'.room) (v := .slice P1 q1 d1) (x := .slice P2 q2 d2) (y := .slice P3 q3 d3) (Nat.lt_succ_self b))
            have F1 := Lib.hid f1
            have F2 := Lib.hid f2
            have F3 := Lib.hid f3
            clear f1 f2 f3 hb' HR HB HT HS C2 N2 B2 T2 S2 p0 p1 p2 p3
            obtain ⟨g1, o1, rfl, hg1, hcs⟩ := T4.out.row.cells hm2
            have hc4 := hcs 0 tg rfl
            rw [Nat.add_zero] at hc4
            have hcap := T4.out.row.cap
            have hcm := T4.out.row.most
            have k1 : (1 : Int) ≤ (ct : Int) := by omega
            have k2 : (1 : Int) ≤ (m : Int) := by omega
            have k3 : 1 ≤ ct := by omega
            have k4 : (m : Int) ≤ (ct : Int) := by omega
            have T5 := T4.out.slice 1 hm2
            clear hcs
            by_cases hct : ct = 1
            · subst hct
              rw [if_pos rfl] at T5
              obtain rfl : m = 1 := by omega
              have T4 := Lib.hid (show Tk _ (b + 1) (some ⟨g1, o1, none⟩) 0 0 tt from T5)
              clear T5
              have f0 := R4.out.cel.c0
              have f1 := R4.out.cel.c1
              have f2 := R4.out.cel.c2
              have f3 := R4.out.cel.c3
              have hw := HP2.out.wait
              have u1 := R4.out.tri.m.len
              have u2 := R4.out.tri.s.len
              have u3 := R4.out.tri.r.len
              have u4 := T4.out.row.len
              have u5 := own_len S4.out.own
              have u6 := HP2.out.len
              rw [hw] at u3
              obtain rfl : 0 = q3 := by rw [← u3, ← u4]
              have u7 : q1 + q2 = ns - got := by rw [← u1, ← u2, ← u5]; exact u6
              have u8 := HP2.out.le
              rw [u5] at u8
              have v1 : q1 ≤ 400 := by omega
              have v2 : q2 ≤ 400 := by omega
              have s5 : IntKind.i64.wrap ((q1 : Int) + (q2 : Int)) = (q1 : Int) + (q2 : Int) := IntWalk.i64_in _ (by omega)
              have s6 : IntKind.i64.wrap ((ns : Int) - (got : Int)) = (ns : Int) - (got : Int) := IntWalk.i64_in _ (by omega)
              have t9 : ((q1 : Int) + (q2 : Int) != (ns : Int) - (got : Int)) = false := by rw [bne_eq_false_iff_eq]; omega
              clear hw u1 u2 u3 u4 u5 u6 u7 u8
              go_wp2_with fail
              refine (may_any x' P1 P2 P3 q1 q2 (0) d1 d2 d3 _ R4.out.tri (by omega) (by omega) (by omega)).mono ?_
              rintro e w5 ⟨rfl, hb5⟩
              rw [decide_eq_true HP2.out.may]
              replace R4 := Lib.hid (R4.out.step hb5)
              replace T4 := Lib.hid (T4.out.step hb5)
              replace B4 := Lib.hid (B4.out.step hb5)
              replace S4 := Lib.hid (S4.out.step hb5)
              clear f0 f1 f2 f3 hb5
              have f0 := R4.out.cel.c0
              have f1 := R4.out.cel.c1
              have f2 := R4.out.cel.c2
              have f3 := R4.out.cel.c3
              go_wp2_with fail
              refine (ints_same P3 (some ⟨g1, o1, none⟩) (0) d3 0 tt _ (Lib.hid T4.out.row.len) (by omega) (by rw [← HP2.out.wait]; exact R4.out.tri.r.row) T4.out.row.row).mono ?_
              rintro e w6 ⟨rfl, hb6⟩
              replace R4 := Lib.hid (R4.out.step hb6)
              replace T4 := Lib.hid (T4.out.step hb6)
              replace B4 := Lib.hid (B4.out.step hb6)
              replace S4 := Lib.hid (S4.out.step hb6)
              clear f0 f1 f2 f3 hb6
              go_wp2_with fail
              go_roundw
              case rel => exact ⟨k + 1, got, S, ns, cs, (some ⟨g1, o1, none⟩), 0, 0, x', P1, q1, d1, P2, q2, d2, P3, 0, d3, sent, tt, by omega, by omega, by omega, by omega, by go_num, by go_num, rfl, rfl, R4, S4, T4, HP2, B4⟩
              case measure => simp [intOf]; omega
            · rw [if_neg hct] at T5
              have T4 := Lib.hid (show Tk _ (b + 1) (some ⟨g1, o1 + 1, none⟩) (m - 1) (ct - 1) tt from T5)
              clear T5
              have f0 := R4.out.cel.c0
              have f1 := R4.out.cel.c1
              have f2 := R4.out.cel.c2
              have f3 := R4.out.cel.c3
              have hw := HP2.out.wait
              have u1 := R4.out.tri.m.len
              have u2 := R4.out.tri.s.len
              have u3 := R4.out.tri.r.len
              have u4 := T4.out.row.len
              have u5 := own_len S4.out.own
              have u6 := HP2.out.len
              rw [hw] at u3
              obtain rfl : (m - 1) = q3 := by rw [← u3, ← u4]
              have u7 : q1 + q2 = ns - got := by rw [← u1, ← u2, ← u5]; exact u6
              have u8 := HP2.out.le
              rw [u5] at u8
              have v1 : q1 ≤ 400 := by omega
              have v2 : q2 ≤ 400 := by omega
              have s5 : IntKind.i64.wrap ((q1 : Int) + (q2 : Int)) = (q1 : Int) + (q2 : Int) := IntWalk.i64_in _ (by omega)
              have s6 : IntKind.i64.wrap ((ns : Int) - (got : Int)) = (ns : Int) - (got : Int) := IntWalk.i64_in _ (by omega)
              have t9 : ((q1 : Int) + (q2 : Int) != (ns : Int) - (got : Int)) = false := by rw [bne_eq_false_iff_eq]; omega
              clear hw u1 u2 u3 u4 u5 u6 u7 u8
              go_wp2_with fail
              refine (may_any x' P1 P2 P3 q1 q2 ((m - 1)) d1 d2 d3 _ R4.out.tri (by omega) (by omega) (by omega)).mono ?_
              rintro e w5 ⟨rfl, hb5⟩
              rw [decide_eq_true HP2.out.may]
              replace R4 := Lib.hid (R4.out.step hb5)
              replace T4 := Lib.hid (T4.out.step hb5)
              replace B4 := Lib.hid (B4.out.step hb5)
              replace S4 := Lib.hid (S4.out.step hb5)
              clear f0 f1 f2 f3 hb5
              have f0 := R4.out.cel.c0
              have f1 := R4.out.cel.c1
              have f2 := R4.out.cel.c2
              have f3 := R4.out.cel.c3
              go_wp2_with fail
              refine (ints_same P3 (some ⟨g1, o1 + 1, none⟩) ((m - 1)) d3 (ct - 1) tt _ (Lib.hid T4.out.row.len) (by omega) (by rw [← HP2.out.wait]; exact R4.out.tri.r.row) T4.out.row.row).mono ?_
              rintro e w6 ⟨rfl, hb6⟩
              replace R4 := Lib.hid (R4.out.step hb6)
              replace T4 := Lib.hid (T4.out.step hb6)
              replace B4 := Lib.hid (B4.out.step hb6)
              replace S4 := Lib.hid (S4.out.step hb6)
              clear f0 f1 f2 f3 hb6
              go_wp2_with fail
              go_roundw
              case rel => exact ⟨k + 1, got, S, ns, cs, (some ⟨g1, o1 + 1, none⟩), (m - 1), (ct - 1), x', P1, q1, d1, P2, q2, d2, P3, (m - 1), d3, sent, tt, by omega, by omega, by omega, by omega, by go_num, by go_num, rfl, rfl, R4, S4, T4, HP2, B4⟩
              case measure => simp [intOf]; omega
    · by_cases hkn : k < n
      · obtain rfl : k = 300 := by omega
        have p1 : ((300 : Nat) : Int) < (n : Int) := by omega
        have p2 : (300 : Int) < (n : Int) := by omega
        go_wp2_with fail
        go_ret
        exact ⟨rfl, HB.out.b⟩
      · have p1 : ¬ (k : Int) < (n : Int) := by omega
        have p2 : decide ((k : Int) < (n : Int)) = false := by simpa using p1
        go_wp2_with fail
        go_ret
        exact ⟨rfl, HB.out.b⟩
set_option maxRecDepth 100000 in
theorem lifted (os : Os) (started : os.Started) (H : Type) (enc : TypeId × Value → H) :
    ReturnsInHanded {} Try.checked os 4 .any (Rows.boxPlaysSpec.pre6 enc Try.prog Try.f4 Rows.boxPlaysRow.domain false) (Rows.boxPlaysSpec.post enc Try.prog Try.f4 false true false false) := by
  refine returnsInHanded_of_change (C := Try.checked) own started (by kernel_rfl) Try.func4
    (ChangeSpec.witness6 (enc := enc) (C := Try.checked) false ⟨#[], #[.int .u8 0, .slice none 0 0], []⟩ 8 (by kernel_rfl) (by kernel_rfl) (by kernel_rfl) (by kernel_rfl)) ?_
  intro W base args ds gs before hval0 hW hcnd _
  have hval : ∀ (j : Nat) t v, Try.f4.params[j]? = some t → args[j]? = some v → Value.okWide Try.prog W .any base t v := hval0
  have hW' := hW
  obtain ⟨p, q, hA0, hV, rfl, hfz, hnd⟩ := hW
  have hA : DataW.TrodAll enc Try.prog W 0 (fun _ => true) true Try.f4.params.toList args.toList ds p := hA0
  rw [Try.params4] at hA hval
  obtain ⟨v0, vs0, d0, ds0, p0, q0, hargs, rfl, rfl, h0, r0⟩ := trodAll_cons hA
  obtain ⟨v1, vs1, d1, ds1, p1, q1, rfl, rfl, rfl, h1, r1⟩ := trodAll_cons r0
  obtain ⟨rfl, rfl, rfl⟩ := trodAll_nil r1
  obtain rfl : args = #[v0, v1] := by cases args; simp_all
  obtain ⟨rfl, rfl⟩ := trodVars_none hV
  obtain ⟨a0, rfl, rfl, rfl, w0⟩ := open_int Try.underlying5 (hval 0 5 v0 rfl rfl) h0
  have k1 := h1
  have lt1 : ∀ x ∈ p1, x.block < W.heap.size := by obtain ⟨m, hm⟩ := k1; exact DataW.trod_lt m _ _ _ hm
  obtain ⟨a1, len1, cap1, rfl⟩ := okWide_slice Try.underlying22 (hval 1 22 v1 rfl rfl)
  obtain ⟨aa1, ll1, cc1, z1, ev1, hr1⟩ : ∃ A n c zs, Value.slice a1 len1 cap1 = .slice A n c ∧ Row W A n c zs ∧ ∀ z ∈ zs, In64 z := by
    obtain ⟨fuel, hf⟩ := h1
    exact open_row64 (by simpa [Value.cells] using hf)
  injection ev1 with ea1 eb1 ec1
  subst ea1 eb1 ec1
  clear hA0 hval0
  refine (walk a0 a1 len1 cap1 z1 W w0 hr1.1).mono fun e W' ⟨he, bel⟩ => ?_
  subst he
  exact ⟨_, rfl, _, _, _, [], _, [], hW', trodAll_mk1 (shut_bool Try.underlying4 _), (trodAll_cons_mk (shut_int Try.underlying5 w0) (trodAll_cons_mk (Below.trod laidOut (by kernel_rfl) (of_decide_eq_true (by kernel_rfl)) k1 bel lt1) trodAll_mk0)), rfl, bel.frame _, fun h => by cases h⟩
theorem over : Rows.boxPlaysRow.holds Try.pinned (OpenSpec.ofChange Rows.boxPlaysSpec) :=
  OpenClaim.holds_of_wide 4 Try.f4 rfl rfl rfl rfl rfl rfl rfl ⟨rfl, rfl, rfl, rfl, rfl⟩ rfl rfl rfl rfl rfl (by kernel_rfl) Try.func4 (by kernel_rfl)
    (of_decide_eq_true (by kernel_rfl)) (by unfold Func.isWrapper; first | (rw [if_pos (by decide +kernel)]; kernel_rfl) | (rw [if_neg (by decide +kernel)]; exact ⟨rfl, rfl⟩))
    (fun os started H enc _ => lifted os started H enc)
theorem proved : Rows.BoxPlaysSaid := over
end Go.Proofs.Ytjpnfjiccckaiaa.boxPlays

