/- RingLoses: nothing is lost, and nothing comes twice, whatever is put, added, taken, or halved: the call answers true and changes nothing that was there; for every input. -/
import Derived.Test.YthbofkhlbkdboaaRCel
import Derived.Test.YthbofkhlbkdboaaRHalf
import Derived.Test.YthbofkhlbkdboaaRBag
namespace Go.Proofs.Ythbofkhlbkdboaa.ringLoses
open Go.ChangeShapes Go.WideShapes Go.ChangeAt Go.RowKit
set_option linter.unusedVariables false

theorem has_mem {l : List Int} {z : Int} (h : Tp.has l z = false) : z ∉ l := by
  unfold Tp.has at h
  rw [← Bool.not_eq_true, List.contains_iff_mem] at h
  exact h
theorem wpList_append_row_g {w : World} {ops : Array Oper} {rest : List Oper} {o : Oper} {a : Act} {Q : Exit → Act → World → Prop} (s x : Operand)
    (ho : o.op = .call { callee := .builtin .append, args := #[s, x], argTypes := #[22, 22] })
    (hw : Region.wanted o (yielded ops a.tmps) = true)
    (base : Nat) (v : Value) (n : Nat) (xs : List Int) (hs : a.eval s = v) (hown : w.ownsRow base 3 1 v n (xs.map (Value.int .i64)))
    (A : Option Addr) (m c : Nat) (zs : List Int) (hx : a.eval x = .slice A m c) (h : Row w A m c zs) (hb : n + m ≤ 1000000) (hbase : base ≤ w.heap.size)
    (hK : ∀ v' w', w'.ownsRow base 3 1 v' (n + m) ((xs ++ zs).map (Value.int .i64)) → w.grownBy w' v.ownBlock → wpList Try.prog ops Q rest (a.put o.dst v') w') : wpList Try.prog ops Q (o :: rest) a w := by
  obtain ⟨v', w', hr, h2, h3⟩ := run_append_row w o.type base v n xs hown A m c zs h hb hbase
  refine wpList_step fun K hK' => ?_
  rw [if_pos hw]
  unfold Oper.wp
  simp [execOp, ho, resolve, invoke, builtin, hs, hx, hr, Result.andThen]
  exact hK' _ _ (hK v' w' h2 h3)
theorem few {y : Int} {l t m : List Int} {N a b : Nat} (h : (Rp.all (y, l) ++ t).Perm m) (hm : m.length ≤ N) (ha : l.length = a) (hb : t.length = b) : a ≤ N ∧ b ≤ N := by
  have h1 := h.length_eq
  rw [List.length_append] at h1
  have h6 : l.length ≤ (Rp.all (y, l)).length := by unfold Rp.all; split <;> simp
  omega
theorem bag_row (A B : Option Addr) (n m c d : Nat) (a b : List Int) (w : World) (hp : a.Perm b) (h : Row w A n c a) (hB : Row w B m d b) (hn : n ≤ 1000000) :
    Calls Try.prog 28 #[.slice A n c, .slice B m d] w fun e w' => e = .returned (.bool true) ∧ Below w.heap.size w w' := by
  have h1 := h.len
  have h2 := hB.len
  have h3 := hp.length_eq
  obtain rfl : n = m := by omega
  exact bag_any A B n c d a b w (Lib.hid hp) h hB hn
set_option maxHeartbeats 8000000 in
set_option maxRecDepth 100000 in
theorem walk (x : Int) (A : Option Addr) (n c : Nat) (zs : List Int) (g s : Int) (w : World) (h : Row w A n c zs) :
    Calls Try.prog 4 #[.agg #[.int .i64 x, .slice A n c], .int .i64 g, .int .i64 s] w fun e w' => e = .returned (.bool true) ∧ Below w.heap.size w w' := by
  have H := Lib.hid h
  have hlen := Lib.hid h.len
  have hA1 := h.cap
  have hA2 := h.most
  have P := Lib.hid (RI.new (y := x) 24 h)
  have B : Hid (Bl w _) := Lib.hid ⟨below_new w (.cells #[.int .i64 x, .slice A n c] 24)⟩
  clear h
  go_enter Try.func4, Try.ntmps4
  go_wp2_with fail
  refine (shown_any _).mono ?_
  rintro e w1 ⟨rfl, hb⟩
  replace P := Lib.hid (P.out.step hb)
  replace B := Lib.hid (B.out.step hb)
  have p0 := P.out.cel.c0
  have p1 := P.out.cel.c1
  clear hb
  by_cases h200 : 200 < n
  · have i1 : (200 : Int) < (n : Int) := by omega
    have i2 : decide ((200 : Int) < (n : Int)) = true := by simpa using i1
    go_wp2_with fail
    go_ret
    exact ⟨rfl, B.out.b⟩
  · have i1 : ¬ (200 : Int) < (n : Int) := by omega
    have i2 : decide ((200 : Int) < (n : Int)) = false := by simpa using i1
    have h3 : n ≤ 200 := by omega
    by_cases hg : g = 0
    · have i3 : (g == 0) = true := by simpa using hg
      subst hg
      go_wp2_with fail
      go_ret
      exact ⟨rfl, B.out.b⟩
    · have i3 : (g == 0) = false := by rw [beq_eq_false_iff_ne]; exact hg
      go_wp2_with fail
      refine (made_any x A n c zs _ P.out.row (by omega)).mono ?_
      rintro e w2 ⟨A2, n2, c2, rfl, hr2, hb2⟩
      obtain rfl : n = n2 := by have h1 : zs.length = n2 := hr2.len; have h2 := hlen.out; omega
      have hb := below_then hb2 (.cells #[.int .i64 x, .slice A2 n c2] 26)
      replace P := Lib.hid (P.out.step hb)
      replace B := Lib.hid (B.out.step hb)
      have X := Lib.hid (RI.new (y := x) 26 hr2)
      clear p0 p1 hb hb2 hr2
      go_wp2_with fail
      refine (all_any x A2 n c2 zs _ X.out.row (by omega)).mono ?_
      rintro e w3 ⟨A3, n3, c3, rfl, hr, _, hb⟩
      have hn3 : n3 ≤ 201 := by have h1 := hr.len; have h2 := Rp.all_length (x, zs); have h4 := hlen.out; simp only at h2; omega
      have AL := Lib.hid hr
      replace P := Lib.hid (P.out.step hb)
      replace B := Lib.hid (B.out.step hb)
      replace X := Lib.hid (X.out.step hb)
      have hown := Lib.hid (World.ownsRow_made (w := w3) (base := w3.heap.size) (e := 3) (size := 1) #[] 0 (Nat.le_refl _) (by unfold maxLen; omega) rfl)
      have hbn := Lib.hid (below_new w3 (.cells #[] 3))
      clear hr hb
      go_wp2_with (at_builtin; refine wpList_append_row rfl (.tmp 35) (.tmp 36) rfl w3.heap.size (.slice (some ⟨w3.heap.size, 0, none⟩) 0 0) 0 [] rfl ?c1 A3 n3 c3 (Rp.all (x, zs)) rfl ?c2 (by omega) ?c3 ?_)
      case c1 => exact hown.out
      case c2 => exact AL.out.below hbn.out
      case c3 => simp
      intro v4 w4 ho4 hg4
      have O4 := Lib.hid (show w4.ownsRow w3.heap.size 3 1 v4 n3 ((Rp.all (x, zs)).map (Value.int .i64)) from by simpa using ho4)
      have hb4 : Below w3.heap.size w3 w4 := ((Below.refl _ _).alloc (Nat.le_refl _) _).grown hg4 (by simp) (fun k e => by simp [Value.ownBlock] at e; omega)
      have hs4 : w3.heap.size ≤ w4.heap.size := hb4.size
      clear ho4 hg4
      go_wp2_with (at_builtin; refine wpList_append_row rfl (.tmp 37) (.tmp 39) rfl w3.heap.size v4 n3 (Rp.all (x, zs)) rfl ?c1 _ 1 1 [g] rfl ?c2 (by omega) ?c3 ?_)
      case c1 => exact O4.out.alloc _
      case c2 => exact row_at w4 g _ rfl
      case c3 => simp; omega
      intro v5 w5 ho5 hg5
      have O5 : w5.ownsRow w3.heap.size 3 1 v5 (n3 + 1) ((Rp.all (x, zs) ++ [g]).map (Value.int .i64)) := by simpa using ho5
      have hb : Below w3.heap.size w3 w5 := (hb4.alloc hs4 _).grown hg5 (by simp; omega) (fun k e => (O4.out.lt k e).1)
      replace P := Lib.hid (P.out.step hb)
      replace B := Lib.hid (B.out.step hb)
      replace X := Lib.hid (X.out.step hb)
      replace AL := Lib.hid (AL.out.step hb)
      obtain ⟨A5, c5, hv5, hr5⟩ := Row.of_own O5
      subst hv5
      have MO := Lib.hid hr5
      have x0 := X.out.cel.c0
      have x1 := X.out.cel.c1
      clear ho5 hg5 hb hb4 hs4 O5 hr5 hown hbn O4
      go_wp2_with fail
      refine (put_any x A2 n c2 zs g s _ X.out.row (by omega)).mono ?_
      rintro e w6 ⟨A6, n6, c6, B6, m6, d6, rfl, hr, _, hq, _, hb0⟩
      obtain ⟨y6, hy⟩ : ∃ y, y = ((Rp.put (x, zs) g s)).1.1 := ⟨_, rfl⟩
      obtain ⟨l6, hl⟩ : ∃ l, l = ((Rp.put (x, zs) g s)).1.2 := ⟨_, rfl⟩
      obtain ⟨t6, ht⟩ : ∃ t, t = ((Rp.put (x, zs) g s)).2 := ⟨_, rfl⟩
      have e1 : (Rp.put (x, zs) g s) = ((y6, l6), t6) := by rw [hy, hl, ht]
      rw [← hy]
      rw [← hl] at hr
      rw [← ht] at hq
      have hk := (Rp.perm_put (x, zs) g s hg)
      rw [e1] at hk
      obtain ⟨hnA6, hnB6⟩ := few hk (N := 202) (by have h5 := AL.out.len; first | (rw [List.length_append, List.length_singleton]; omega) | omega) hr.len hq.len
      have K6 := Lib.hid hk
      have hb := below_then hb0 (.cells #[.int .i64 y6, .slice A6 n6 c6] 26)
      have I6 := Lib.hid (RI.new (y := y6) 26 hr)
      have T6 := Lib.hid (hq.below_alloc (.cells #[.int .i64 y6, .slice A6 n6 c6] 26))
      replace P := Lib.hid (P.out.step hb)
      replace B := Lib.hid (B.out.step hb)
      replace X := Lib.hid (X.out.step hb)
      replace AL := Lib.hid (AL.out.step hb)
      replace MO := Lib.hid (MO.out.step hb)
      clear hr hq hb0 hk hy hl ht e1 x0 x1
      have x0 := X.out.cel.c0
      have x1 := X.out.cel.c1
      clear hb
      go_wp2_with fail
      refine (add_any x A2 n c2 zs g s _ X.out.row (by omega)).mono ?_
      rintro e w7 ⟨A7, n7, c7, B7, m7, d7, rfl, hr, _, hq, _, hb0⟩
      obtain ⟨y7, hy⟩ : ∃ y, y = ((Rp.add (x, zs) g s)).1.1 := ⟨_, rfl⟩
      obtain ⟨l7, hl⟩ : ∃ l, l = ((Rp.add (x, zs) g s)).1.2 := ⟨_, rfl⟩
      obtain ⟨t7, ht⟩ : ∃ t, t = ((Rp.add (x, zs) g s)).2 := ⟨_, rfl⟩
      have e1 : (Rp.add (x, zs) g s) = ((y7, l7), t7) := by rw [hy, hl, ht]
      rw [← hy]
      rw [← hl] at hr
      rw [← ht] at hq
      have hk := (Rp.perm_add (x, zs) g s)
      rw [e1] at hk
      obtain ⟨hnA7, hnB7⟩ := few hk (N := 202) (by have h5 := AL.out.len; first | (rw [List.length_append, List.length_singleton]; omega) | omega) hr.len hq.len
      have K7 := Lib.hid hk
      have hb := below_then hb0 (.cells #[.int .i64 y7, .slice A7 n7 c7] 26)
      have I7 := Lib.hid (RI.new (y := y7) 26 hr)
      have T7 := Lib.hid (hq.below_alloc (.cells #[.int .i64 y7, .slice A7 n7 c7] 26))
      replace P := Lib.hid (P.out.step hb)
      replace B := Lib.hid (B.out.step hb)
      replace X := Lib.hid (X.out.step hb)
      replace AL := Lib.hid (AL.out.step hb)
      replace MO := Lib.hid (MO.out.step hb)
      clear hr hq hb0 hk hy hl ht e1 x0 x1
      have x0 := X.out.cel.c0
      have x1 := X.out.cel.c1
      replace I6 := Lib.hid (I6.out.step hb)
      replace T6 := Lib.hid (T6.out.step hb)
      clear hb
      go_wp2_with fail
      refine (take_any x A2 n c2 zs _ X.out.row (by omega)).mono ?_
      rintro e w8 ⟨A8, n8, c8, rfl, hr, _, hb0⟩
      obtain ⟨y8, hy⟩ : ∃ y, y = (Rp.take (x, zs)).1.1 := ⟨_, rfl⟩
      obtain ⟨l8, hl⟩ : ∃ l, l = (Rp.take (x, zs)).1.2 := ⟨_, rfl⟩
      obtain ⟨f8, hf⟩ : ∃ f, f = (Rp.take (x, zs)).2 := ⟨_, rfl⟩
      have hk := Rp.told_all (x, zs)
      unfold Rp.told at hk
      rw [show (Rp.take (x, zs)).1 = (y8, l8) by rw [hy, hl], ← hf] at hk
      rw [← hy, ← hf]
      rw [← hl] at hr
      have K8 := Lib.hid hk
      have hl8 : l8.length ≤ 200 := by
        rw [hl]
        have := hlen.out
        unfold Rp.take
        split
        · simp; omega
        · simp; omega
      have hn8 : n8 ≤ 200 := by have := hr.len; omega
      have hb := below_then hb0 (.cells #[.int .i64 y8, .slice A8 n8 c8] 26)
      have I8 := Lib.hid (RI.new (y := y8) 26 hr)
      replace P := Lib.hid (P.out.step hb)
      replace B := Lib.hid (B.out.step hb)
      replace X := Lib.hid (X.out.step hb)
      replace AL := Lib.hid (AL.out.step hb)
      replace MO := Lib.hid (MO.out.step hb)
      replace I6 := Lib.hid (I6.out.step hb)
      replace T6 := Lib.hid (T6.out.step hb)
      replace I7 := Lib.hid (I7.out.step hb)
      replace T7 := Lib.hid (T7.out.step hb)
      clear hr hb0 hb hk hy hl hf x0 x1
      have x0 := X.out.cel.c0
      have x1 := X.out.cel.c1
      go_wp2_with fail
      refine (half_any x A2 n c2 zs _ X.out.row (by omega)).mono ?_
      rintro e w9 ⟨A9, n9, c9, B9, m9, d9, rfl, hr, _, hq, _, hb0⟩
      obtain ⟨y9, hy⟩ : ∃ y, y = ((Rp.half (x, zs))).1.1 := ⟨_, rfl⟩
      obtain ⟨l9, hl⟩ : ∃ l, l = ((Rp.half (x, zs))).1.2 := ⟨_, rfl⟩
      obtain ⟨t9, ht⟩ : ∃ t, t = ((Rp.half (x, zs))).2 := ⟨_, rfl⟩
      have e1 : (Rp.half (x, zs)) = ((y9, l9), t9) := by rw [hy, hl, ht]
      rw [← hy]
      rw [← hl] at hr
      rw [← ht] at hq
      have hk := (Rp.perm_half (x, zs))
      rw [e1] at hk
      obtain ⟨hnA9, hnB9⟩ := few hk (N := 202) (by have h5 := AL.out.len; first | (rw [List.length_append, List.length_singleton]; omega) | omega) hr.len hq.len
      have K9 := Lib.hid hk
      have hb := below_then hb0 (.cells #[.int .i64 y9, .slice A9 n9 c9] 26)
      have I9 := Lib.hid (RI.new (y := y9) 26 hr)
      have T9 := Lib.hid (hq.below_alloc (.cells #[.int .i64 y9, .slice A9 n9 c9] 26))
      replace P := Lib.hid (P.out.step hb)
      replace B := Lib.hid (B.out.step hb)
      replace X := Lib.hid (X.out.step hb)
      replace AL := Lib.hid (AL.out.step hb)
      replace MO := Lib.hid (MO.out.step hb)
      clear hr hq hb0 hk hy hl ht e1 x0 x1
      have x0 := X.out.cel.c0
      have x1 := X.out.cel.c1
      replace I6 := Lib.hid (I6.out.step hb)
      replace T6 := Lib.hid (T6.out.step hb)
      replace I7 := Lib.hid (I7.out.step hb)
      replace T7 := Lib.hid (T7.out.step hb)
      replace I8 := Lib.hid (I8.out.step hb)
      clear hb x0 x1
      have x0 := I8.out.cel.c0
      have x1 := I8.out.cel.c1
      go_wp2_with fail
      refine (all_any y8 A8 n8 c8 l8 _ I8.out.row (by omega)).mono ?_
      rintro e wa ⟨Aa, na, ca, rfl, hr, _, hb⟩
      have hna : na ≤ 201 := by have h1 := hr.len; have h2 := Rp.all_length (y8, l8); simp only at h2; omega
      replace P := Lib.hid (P.out.step hb)
      replace B := Lib.hid (B.out.step hb)
      replace AL := Lib.hid (AL.out.step hb)
      replace MO := Lib.hid (MO.out.step hb)
      replace I6 := Lib.hid (I6.out.step hb)
      replace T6 := Lib.hid (T6.out.step hb)
      replace I7 := Lib.hid (I7.out.step hb)
      replace T7 := Lib.hid (T7.out.step hb)
      replace I9 := Lib.hid (I9.out.step hb)
      replace T9 := Lib.hid (T9.out.step hb)
      clear hb x0 x1
      have TR := Lib.hid hr
      clear hr
      go_upto_if 68 with (fail)
      go_cut [19] (fun s19 wx => ∃ (Ak : Option Addr) (nk ck : Nat) (lk : List Int), s19 = .slice Ak nk ck ∧ Row wx Ak nk ck lk ∧ (Tp.has zs 0 = false → lk = Rp.all (x, zs)) ∧ Below wa.heap.size wa wx)
      case first =>
        by_cases hf : f8 = 0
        · have f1 : (f8 != 0) = false := by simpa using hf
          have KE : Tp.has zs 0 = false → Rp.all (y8, l8) = Rp.all (x, zs) := fun hz => by have := K8.out (has_mem hz); rw [if_pos hf] at this; exact this
          have KH := Lib.hid KE
          clear KE
          go_wp2_with fail
          go_meet
          exact ⟨_, _, _, _, rfl, TR.out, KH.out, Below.refl _ _⟩
        · have f1 : (f8 != 0) = true := by simpa using hf
          have KE : Tp.has zs 0 = false → [f8] ++ Rp.all (y8, l8) = Rp.all (x, zs) := fun hz => by have := K8.out (has_mem hz); rw [if_neg hf] at this; exact this
          have KH := Lib.hid KE
          clear KE
          have hown := Lib.hid (own_lit wa [f8] wa.heap.size (Nat.le_refl _) (by simp))
          have hbn := Lib.hid (below_new wa (.cells #[.int .i64 f8] 3))
          go_wp2_with (at_builtin; refine wpList_append_row rfl (.tmp 70) (.tmp 71) rfl wa.heap.size (.slice (some ⟨wa.heap.size, 0, none⟩) 1 1) 1 [f8] rfl ?c1 Aa na ca (Rp.all (y8, l8)) rfl ?c2 (by omega) ?c3 ?_)
          case c1 => simpa using hown.out
          case c2 => exact TR.out.below hbn.out
          case c3 => simp
          intro vc wd hoc hgc
          have OC : wd.ownsRow wa.heap.size 3 1 vc (1 + na) (([f8] ++ Rp.all (y8, l8)).map (Value.int .i64)) := by simpa using hoc
          have hb := hbn.out.grown hgc (by simp) (fun q e => by simp [Value.ownBlock] at e; omega)
          obtain ⟨Ac, cc, hvc, hrc⟩ := Row.of_own OC
          subst hvc
          have RC := Lib.hid hrc
          have HB := Lib.hid hb
          clear hoc hgc hrc OC hb
          go_wp2_with fail
          go_meet
          exact ⟨_, _, _, _, rfl, RC.out, KH.out, HB.out⟩
      case rest =>
        obtain ⟨Ak, nk, ck, lk, rfl, hrk, hke, hb⟩ := hcut
        have TK := Lib.hid hrk
        have KE := Lib.hid hke
        replace P := Lib.hid (P.out.step hb)
        replace B := Lib.hid (B.out.step hb)
        replace AL := Lib.hid (AL.out.step hb)
        replace MO := Lib.hid (MO.out.step hb)
        replace I6 := Lib.hid (I6.out.step hb)
        replace T6 := Lib.hid (T6.out.step hb)
        replace I7 := Lib.hid (I7.out.step hb)
        replace T7 := Lib.hid (T7.out.step hb)
        replace I9 := Lib.hid (I9.out.step hb)
        replace T9 := Lib.hid (T9.out.step hb)
        clear hrk hke hb TR
        have z0 := P.out.cel.c0
        have z1 := P.out.cel.c1
        go_wp2_with fail
        refine (in_any A n c zs 0 _ _ hlen (by omega) P.out.row.row).mono ?_
        rintro e wi ⟨rfl, rfl⟩
        clear z0 z1
        have J0 := I7.out.cel.c0
        have J1 := I7.out.cel.c1
        have J2 := I9.out.cel.c0
        have J3 := I9.out.cel.c1
        clear J0 J1 J2 J3
        have j0 := I6.out.cel.c0
        have j1 := I6.out.cel.c1
        have hbn := Lib.hid (below_new wi (.cells #[] 3))
        have j2 := keepcell hbn.out j0
        have j3 := keepcell hbn.out j1
        have hown := Lib.hid (World.ownsRow_made (w := wi) (base := wi.heap.size) (e := 3) (size := 1) #[] 0 (Nat.le_refl _) (by unfold maxLen; omega) rfl)
        go_wp2_with fail
        refine (all_any y6 A6 n6 c6 l6 _ (I6.out.row.below hbn.out) (by omega)).mono ?_
        rintro e u1 ⟨Aa, na, ca, rfl, hra, _, hba⟩
        have hna : na ≤ 203 := by have h1 := hra.len; have h2 := Rp.all_length (y6, l6); have h4 := I6.out.row.len; simp only at h2; omega
        have RA := Lib.hid hra
        have OA := Lib.hid (own_below hown.out hba)
        have hbu := Lib.hid (hbn.out.trans (hba.mono hbn.out.size))
        have hsu : wi.heap.size ≤ u1.heap.size := hbu.out.size
        clear hra hba j0 j1 j2 j3
        go_wp2_with (at_builtin; refine wpList_append_row_g (.tmp 78) (.tmp 80) rfl (by simp [Region.wanted, yielded]) wi.heap.size (.slice (some ⟨wi.heap.size, 0, none⟩) 0 0) 0 [] rfl ?c1 Aa na ca (Rp.all (y6, l6)) rfl ?c2 (by omega) ?c3 ?_)
        case c1 => exact OA.out
        case c2 => exact RA.out
        case c3 => exact hsu
        intro va u2 hoa hga
        have OB := Lib.hid (show u2.ownsRow wi.heap.size 3 1 va na ((Rp.all (y6, l6)).map (Value.int .i64)) from by simpa using hoa)
        have hbu2 := Lib.hid (hbu.out.grown hga hsu (fun q e => by simp [Value.ownBlock] at e; omega))
        have hsu2 : wi.heap.size ≤ u2.heap.size := hbu2.out.size
        clear hoa hga
        go_wp2_with (at_builtin; refine wpList_append_row_g (.tmp 81) (.tmp 82) rfl (by simp [Region.wanted, yielded]) wi.heap.size va na (Rp.all (y6, l6)) rfl ?c1 B6 m6 d6 t6 rfl ?c2 (by omega) ?c3 ?_)
        case c1 => exact OB.out
        case c2 => exact T6.out.below hbu2.out
        case c3 => exact hsu2
        intro vb u3 hob hgb
        have OC : u3.ownsRow wi.heap.size 3 1 vb (na + m6) ((Rp.all (y6, l6) ++ t6).map (Value.int .i64)) := by simpa using hob
        have hb := hbu2.out.grown hgb hsu2 (fun q e => (OB.out.lt q e).1)
        obtain ⟨Ab, cb, hvb, hrb⟩ := Row.of_own OC
        subst hvb
        have RB := Lib.hid hrb
        replace B := Lib.hid (B.out.step hb)
        replace I7 := Lib.hid (I7.out.step hb)
        replace T7 := Lib.hid (T7.out.step hb)
        replace I9 := Lib.hid (I9.out.step hb)
        replace T9 := Lib.hid (T9.out.step hb)
        replace AL := Lib.hid (AL.out.step hb)
        replace MO := Lib.hid (MO.out.step hb)
        replace TK := Lib.hid (TK.out.step hb)
        clear hob hgb OC hrb hb
        go_wp2_with fail
        refine (bag_row _ _ _ _ _ _ _ _ _ K6.out RB.out MO.out (by omega)).mono ?_
        rintro e u4 ⟨rfl, hb⟩
        replace B := Lib.hid (B.out.step hb)
        replace I7 := Lib.hid (I7.out.step hb)
        replace T7 := Lib.hid (T7.out.step hb)
        replace I9 := Lib.hid (I9.out.step hb)
        replace T9 := Lib.hid (T9.out.step hb)
        replace AL := Lib.hid (AL.out.step hb)
        replace MO := Lib.hid (MO.out.step hb)
        replace TK := Lib.hid (TK.out.step hb)
        clear hb
        have j0 := I7.out.cel.c0
        have j1 := I7.out.cel.c1
        have hbn := Lib.hid (below_new u4 (.cells #[] 3))
        have j2 := keepcell hbn.out j0
        have j3 := keepcell hbn.out j1
        have hown := Lib.hid (World.ownsRow_made (w := u4) (base := u4.heap.size) (e := 3) (size := 1) #[] 0 (Nat.le_refl _) (by unfold maxLen; omega) rfl)
        go_wp2_with fail
        refine (all_any y7 A7 n7 c7 l7 _ (I7.out.row.below hbn.out) (by omega)).mono ?_
        rintro e u5 ⟨Aa, na, ca, rfl, hra, _, hba⟩
        have hna : na ≤ 203 := by have h1 := hra.len; have h2 := Rp.all_length (y7, l7); have h4 := I7.out.row.len; simp only at h2; omega
        have RA := Lib.hid hra
        have OA := Lib.hid (own_below hown.out hba)
        have hbu := Lib.hid (hbn.out.trans (hba.mono hbn.out.size))
        have hsu : u4.heap.size ≤ u5.heap.size := hbu.out.size
        clear hra hba j0 j1 j2 j3
        go_wp2_with (at_builtin; refine wpList_append_row_g (.tmp 88) (.tmp 90) rfl (by simp [Region.wanted, yielded]) u4.heap.size (.slice (some ⟨u4.heap.size, 0, none⟩) 0 0) 0 [] rfl ?c1 Aa na ca (Rp.all (y7, l7)) rfl ?c2 (by omega) ?c3 ?_)
        case c1 => exact OA.out
        case c2 => exact RA.out
        case c3 => exact hsu
        intro va u6 hoa hga
        have OB := Lib.hid (show u6.ownsRow u4.heap.size 3 1 va na ((Rp.all (y7, l7)).map (Value.int .i64)) from by simpa using hoa)
        have hbu2 := Lib.hid (hbu.out.grown hga hsu (fun q e => by simp [Value.ownBlock] at e; omega))
        have hsu2 : u4.heap.size ≤ u6.heap.size := hbu2.out.size
        clear hoa hga
        go_wp2_with (at_builtin; refine wpList_append_row_g (.tmp 91) (.tmp 92) rfl (by simp [Region.wanted, yielded]) u4.heap.size va na (Rp.all (y7, l7)) rfl ?c1 B7 m7 d7 t7 rfl ?c2 (by omega) ?c3 ?_)
        case c1 => exact OB.out
        case c2 => exact T7.out.below hbu2.out
        case c3 => exact hsu2
        intro vb u7 hob hgb
        have OC : u7.ownsRow u4.heap.size 3 1 vb (na + m7) ((Rp.all (y7, l7) ++ t7).map (Value.int .i64)) := by simpa using hob
        have hb := hbu2.out.grown hgb hsu2 (fun q e => (OB.out.lt q e).1)
        obtain ⟨Ab, cb, hvb, hrb⟩ := Row.of_own OC
        subst hvb
        have RB := Lib.hid hrb
        replace B := Lib.hid (B.out.step hb)
        replace I9 := Lib.hid (I9.out.step hb)
        replace T9 := Lib.hid (T9.out.step hb)
        replace AL := Lib.hid (AL.out.step hb)
        replace MO := Lib.hid (MO.out.step hb)
        replace TK := Lib.hid (TK.out.step hb)
        clear hob hgb OC hrb hb
        go_wp2_with fail
        refine (bag_row _ _ _ _ _ _ _ _ _ K7.out RB.out MO.out (by omega)).mono ?_
        rintro e u8 ⟨rfl, hb⟩
        replace B := Lib.hid (B.out.step hb)
        replace I9 := Lib.hid (I9.out.step hb)
        replace T9 := Lib.hid (T9.out.step hb)
        replace AL := Lib.hid (AL.out.step hb)
        replace MO := Lib.hid (MO.out.step hb)
        replace TK := Lib.hid (TK.out.step hb)
        clear hb
        cases hz : Tp.has zs 0
        · have TKE := Lib.hid (KE.out hz)
          go_wp2_with fail
          refine (ints_row _ _ _ _ _ _ _ _ _ TKE.out TK.out AL.out).mono ?_
          rintro e u9 ⟨rfl, hb⟩
          replace B := Lib.hid (B.out.step hb)
          replace I9 := Lib.hid (I9.out.step hb)
          replace T9 := Lib.hid (T9.out.step hb)
          replace AL := Lib.hid (AL.out.step hb)
          clear hb
          have j0 := I9.out.cel.c0
          have j1 := I9.out.cel.c1
          have hbn := Lib.hid (below_new u9 (.cells #[] 3))
          have j2 := keepcell hbn.out j0
          have j3 := keepcell hbn.out j1
          have hown := Lib.hid (World.ownsRow_made (w := u9) (base := u9.heap.size) (e := 3) (size := 1) #[] 0 (Nat.le_refl _) (by unfold maxLen; omega) rfl)
          go_wp2_with fail
          refine (all_any y9 A9 n9 c9 l9 _ (I9.out.row.below hbn.out) (by omega)).mono ?_
          rintro e u10 ⟨Aa, na, ca, rfl, hra, _, hba⟩
          have hna : na ≤ 203 := by have h1 := hra.len; have h2 := Rp.all_length (y9, l9); have h4 := I9.out.row.len; simp only at h2; omega
          have RA := Lib.hid hra
          have OA := Lib.hid (own_below hown.out hba)
          have hbu := Lib.hid (hbn.out.trans (hba.mono hbn.out.size))
          have hsu : u9.heap.size ≤ u10.heap.size := hbu.out.size
          clear hra hba j0 j1 j2 j3
          go_wp2_with (at_builtin; refine wpList_append_row_g (.tmp 106) (.tmp 108) rfl (by simp [Region.wanted, yielded]) u9.heap.size (.slice (some ⟨u9.heap.size, 0, none⟩) 0 0) 0 [] rfl ?c1 Aa na ca (Rp.all (y9, l9)) rfl ?c2 (by omega) ?c3 ?_)
          case c1 => exact OA.out
          case c2 => exact RA.out
          case c3 => exact hsu
          intro va u11 hoa hga
          have OB := Lib.hid (show u11.ownsRow u9.heap.size 3 1 va na ((Rp.all (y9, l9)).map (Value.int .i64)) from by simpa using hoa)
          have hbu2 := Lib.hid (hbu.out.grown hga hsu (fun q e => by simp [Value.ownBlock] at e; omega))
          have hsu2 : u9.heap.size ≤ u11.heap.size := hbu2.out.size
          clear hoa hga
          go_wp2_with (at_builtin; refine wpList_append_row_g (.tmp 109) (.tmp 110) rfl (by simp [Region.wanted, yielded]) u9.heap.size va na (Rp.all (y9, l9)) rfl ?c1 B9 m9 d9 t9 rfl ?c2 (by omega) ?c3 ?_)
          case c1 => exact OB.out
          case c2 => exact T9.out.below hbu2.out
          case c3 => exact hsu2
          intro vb u12 hob hgb
          have OC : u12.ownsRow u9.heap.size 3 1 vb (na + m9) ((Rp.all (y9, l9) ++ t9).map (Value.int .i64)) := by simpa using hob
          have hb := hbu2.out.grown hgb hsu2 (fun q e => (OB.out.lt q e).1)
          obtain ⟨Ab, cb, hvb, hrb⟩ := Row.of_own OC
          subst hvb
          have RB := Lib.hid hrb
          replace B := Lib.hid (B.out.step hb)
          replace AL := Lib.hid (AL.out.step hb)
          clear hob hgb OC hrb hb
          go_wp2_with fail
          refine (bag_row _ _ _ _ _ _ _ _ _ K9.out RB.out AL.out (by omega)).mono ?_
          rintro e u13 ⟨rfl, hb⟩
          replace B := Lib.hid (B.out.step hb)
          replace AL := Lib.hid (AL.out.step hb)
          clear hb
          go_wp2_with fail
          go_ret
          exact ⟨rfl, B.out.b⟩
        · skip
          have j0 := I9.out.cel.c0
          have j1 := I9.out.cel.c1
          have hbn := Lib.hid (below_new u8 (.cells #[] 3))
          have j2 := keepcell hbn.out j0
          have j3 := keepcell hbn.out j1
          have hown := Lib.hid (World.ownsRow_made (w := u8) (base := u8.heap.size) (e := 3) (size := 1) #[] 0 (Nat.le_refl _) (by unfold maxLen; omega) rfl)
          go_wp2_with fail
          refine (all_any y9 A9 n9 c9 l9 _ (I9.out.row.below hbn.out) (by omega)).mono ?_
          rintro e u10 ⟨Aa, na, ca, rfl, hra, _, hba⟩
          have hna : na ≤ 203 := by have h1 := hra.len; have h2 := Rp.all_length (y9, l9); have h4 := I9.out.row.len; simp only at h2; omega
          have RA := Lib.hid hra
          have OA := Lib.hid (own_below hown.out hba)
          have hbu := Lib.hid (hbn.out.trans (hba.mono hbn.out.size))
          have hsu : u8.heap.size ≤ u10.heap.size := hbu.out.size
          clear hra hba j0 j1 j2 j3
          go_wp2_with (at_builtin; refine wpList_append_row_g (.tmp 106) (.tmp 108) rfl (by simp [Region.wanted, yielded]) u8.heap.size (.slice (some ⟨u8.heap.size, 0, none⟩) 0 0) 0 [] rfl ?c1 Aa na ca (Rp.all (y9, l9)) rfl ?c2 (by omega) ?c3 ?_)
          case c1 => exact OA.out
          case c2 => exact RA.out
          case c3 => exact hsu
          intro va u11 hoa hga
          have OB := Lib.hid (show u11.ownsRow u8.heap.size 3 1 va na ((Rp.all (y9, l9)).map (Value.int .i64)) from by simpa using hoa)
          have hbu2 := Lib.hid (hbu.out.grown hga hsu (fun q e => by simp [Value.ownBlock] at e; omega))
          have hsu2 : u8.heap.size ≤ u11.heap.size := hbu2.out.size
          clear hoa hga
          go_wp2_with (at_builtin; refine wpList_append_row_g (.tmp 109) (.tmp 110) rfl (by simp [Region.wanted, yielded]) u8.heap.size va na (Rp.all (y9, l9)) rfl ?c1 B9 m9 d9 t9 rfl ?c2 (by omega) ?c3 ?_)
          case c1 => exact OB.out
          case c2 => exact T9.out.below hbu2.out
          case c3 => exact hsu2
          intro vb u12 hob hgb
          have OC : u12.ownsRow u8.heap.size 3 1 vb (na + m9) ((Rp.all (y9, l9) ++ t9).map (Value.int .i64)) := by simpa using hob
          have hb := hbu2.out.grown hgb hsu2 (fun q e => (OB.out.lt q e).1)
          obtain ⟨Ab, cb, hvb, hrb⟩ := Row.of_own OC
          subst hvb
          have RB := Lib.hid hrb
          replace B := Lib.hid (B.out.step hb)
          replace AL := Lib.hid (AL.out.step hb)
          clear hob hgb OC hrb hb
          go_wp2_with fail
          refine (bag_row _ _ _ _ _ _ _ _ _ K9.out RB.out AL.out (by omega)).mono ?_
          rintro e u13 ⟨rfl, hb⟩
          replace B := Lib.hid (B.out.step hb)
          replace AL := Lib.hid (AL.out.step hb)
          clear hb
          go_wp2_with fail
          go_ret
          exact ⟨rfl, B.out.b⟩
set_option maxRecDepth 100000 in
theorem lifted (os : Os) (started : os.Started) (H : Type) (enc : TypeId × Value → H) :
    ReturnsInHanded {} Try.checked os 4 .any (Rows.ringLosesSpec.pre6 enc Try.prog Try.f4 Rows.ringLosesRow.domain false) (Rows.ringLosesSpec.post enc Try.prog Try.f4 false true false false) := by
  refine returnsInHanded_of_change (C := Try.checked) own started (by kernel_rfl) Try.func4
    (ChangeSpec.witness6 (enc := enc) (C := Try.checked) false ⟨#[], #[.agg #[.int .i64 0, .slice none 0 0], .int .i64 0, .int .i64 0], []⟩ 8 (by kernel_rfl) (by kernel_rfl) (by kernel_rfl) (by kernel_rfl)) ?_
  intro W base args ds gs before hval0 hW hcnd _
  have hval : ∀ (j : Nat) t v, Try.f4.params[j]? = some t → args[j]? = some v → Value.okWide Try.prog W .any base t v := hval0
  have hW' := hW
  obtain ⟨p, q, hA0, hV, rfl, hfz, hnd⟩ := hW
  have hA : DataW.TrodAll enc Try.prog W 0 (fun _ => true) true Try.f4.params.toList args.toList ds p := hA0
  rw [Try.params4] at hA hval
  obtain ⟨v0, vs0, d0, ds0, p0, q0, hargs, rfl, rfl, h0, r0⟩ := trodAll_cons hA
  obtain ⟨v1, vs1, d1, ds1, p1, q1, rfl, rfl, rfl, h1, r1⟩ := trodAll_cons r0
  obtain ⟨v2, vs2, d2, ds2, p2, q2, rfl, rfl, rfl, h2, r2⟩ := trodAll_cons r1
  obtain ⟨rfl, rfl, rfl⟩ := trodAll_nil r2
  obtain rfl : args = #[v0, v1, v2] := by cases args; simp_all
  obtain ⟨rfl, rfl⟩ := trodVars_none hV
  have k0 := h0
  have lt0 : ∀ x ∈ p0, x.block < W.heap.size := by obtain ⟨m, hm⟩ := k0; exact DataW.trod_lt m _ _ _ hm
  obtain ⟨x0, a0, len0, cap0, z0, rfl, hr0⟩ := open_ring (hval 0 24 v0 rfl rfl) h0
  obtain ⟨a1, rfl, rfl, rfl, w1⟩ := open_int Try.underlying3 (hval 1 3 v1 rfl rfl) h1
  obtain ⟨a2, rfl, rfl, rfl, w2⟩ := open_int Try.underlying3 (hval 2 3 v2 rfl rfl) h2
  clear hA0 hval0
  refine (walk x0 a0 len0 cap0 z0 a1 a2 W hr0).mono fun e W' ⟨he, bel⟩ => ?_
  subst he
  exact ⟨_, rfl, _, _, _, [], _, [], hW', trodAll_mk1 (shut_bool Try.underlying4 _), (trodAll_cons_mk (Below.trod laidOut (by kernel_rfl) (of_decide_eq_true (by kernel_rfl)) k0 bel lt0) (trodAll_cons_mk (shut_int Try.underlying3 w1) (trodAll_cons_mk (shut_int Try.underlying3 w2) trodAll_mk0))), rfl, bel.frame _, fun h => by cases h⟩
theorem over : Rows.ringLosesRow.holds Try.pinned (OpenSpec.ofChange Rows.ringLosesSpec) :=
  OpenClaim.holds_of_wide 4 Try.f4 rfl rfl rfl rfl rfl rfl rfl ⟨rfl, rfl, rfl, rfl, rfl⟩ rfl rfl rfl rfl rfl (by kernel_rfl) Try.func4 (by kernel_rfl)
    (of_decide_eq_true (by kernel_rfl)) (by unfold Func.isWrapper; first | (rw [if_pos (by decide +kernel)]; kernel_rfl) | (rw [if_neg (by decide +kernel)]; exact ⟨rfl, rfl⟩))
    (fun os started H enc _ => lifted os started H enc)
theorem proved : Rows.RingLosesSaid := over
end Go.Proofs.Ythbofkhlbkdboaa.ringLoses

