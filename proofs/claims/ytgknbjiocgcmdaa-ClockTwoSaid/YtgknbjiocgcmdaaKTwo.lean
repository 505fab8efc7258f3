/- ClockTwo: two ticks wake whom one of both together wakes, in the same turn: the call answers true and changes nothing that was there; for every input. -/
import Derived.Test.YtgknbjiocgcmdaaKTw
import Derived.Test.YtgknbjiocgcmdaaFrame
namespace Go.Proofs.Ytgknbjiocgcmdaa.clockTwo
open Go.ChangeShapes Go.WideShapes Go.ChangeAt Go.RowKit
set_option linter.unusedVariables false

theorem wpList_append_row_g {w : World} {ops : Array Oper} {rest : List Oper} {o : Oper} {a : Act} {Q : Exit → Act → World → Prop} (s x : Operand)
    (ho : o.op = .call { callee := .builtin .append, args := #[s, x], argTypes := #[39, 39] })
    (hw : Region.wanted o (yielded ops a.tmps) = true)
    (base : Nat) (v : Value) (n : Nat) (xs : List Int) (hs : a.eval s = v) (hown : w.ownsRow base 3 1 v n (xs.map (Value.int .i64)))
    (A : Option Addr) (m c : Nat) (zs : List Int) (hx : a.eval x = .slice A m c) (h : Row w A m c zs) (hb : n + m ≤ 1000000) (hbase : base ≤ w.heap.size)
    (hK : ∀ v' w', w'.ownsRow base 3 1 v' (n + m) ((xs ++ zs).map (Value.int .i64)) → w.grownBy w' v.ownBlock → wpList Try.prog ops Q rest (a.put o.dst v') w') : wpList Try.prog ops Q (o :: rest) a w := by
  obtain ⟨v', w', hr, h2, h3⟩ := run_append_row w o.type base v n xs hown A m c zs h hb hbase
  refine wpList_step fun K hK' => ?_
  rw [if_pos hw]
  unfold Oper.wp
  simp [execOp, ho, resolve, invoke, builtin, hs, hx, hr, Result.andThen]
  exact hK' _ _ (hK v' w' h2 h3)
theorem two_math {S : List Kp.On} (h : Kp.Ends S) (a b : Int) (a0 : 0 ≤ a) (a1 : a ≤ 255) (b0 : 0 ≤ b) (b1 : b ≤ 255) :
    (Kp.tcode 0 a = 0 ∧ Kp.tnow 0 a = a ∧ Kp.tcode a b = 0 ∧ Kp.tnow a b = a + b ∧ Kp.tcode 0 (a + b) = 0 ∧ Kp.tnow 0 (a + b) = a + b) ∧ Kp.ids (Kp.twoke S 0 a) ++ Kp.ids (Kp.twoke (Kp.trest S 0 a) a b) = Kp.ids (Kp.twoke S 0 (a + b)) ∧ Kp.trest (Kp.trest S 0 a) a b = Kp.trest S 0 (a + b) := by
  obtain ⟨p1, p2, p3, p4⟩ := Kp.tick_ok S (now := 0) (n := a) a0 (by omega)
  obtain ⟨r1, r2, r3, r4⟩ := Kp.tick_ok S (now := 0) (n := a + b) (by omega) (by omega)
  rw [Int.zero_add] at p2 p3 p4 r2 r3 r4
  rw [p4]
  obtain ⟨q1, q2, q3, q4⟩ := Kp.tick_ok (Kp.beyond S a) (now := a) (n := b) b0 (by omega)
  obtain ⟨e1, e2⟩ := Kp.two h (s := a) (t := a + b) (by omega)
  refine ⟨⟨p1, p2, q1, q2, r1, r2⟩, ?_, ?_⟩
  · rw [p3, q3, r3, ← Kp.ids_append, e1]
  · rw [q4, r4, e2]
set_option maxRecDepth 100000 in
set_option maxHeartbeats 2000000 in
theorem walk (A : Option Addr) (n c : Nat) (zs : List Int) (a b : Int) (w : World) (hn : Hid (zs.length = n)) (hl : n ≤ 9223372036854775807) (hr : BRow w A zs) (hu : (Lit.int .u8 a).wf = true) (hv : (Lit.int .u8 b).wf = true) :
    Calls Try.prog 4 #[.slice A n c, .int .u8 a, .int .u8 b] w fun e w' => e = .returned (.bool true) ∧ Below w.heap.size w w' := by
  have hu' : 0 ≤ a ∧ a ≤ 255 := by simpa [Lit.wf, IntKind.min, IntKind.max, IntKind.signed, IntKind.bits] using hu
  have hv' : 0 ≤ b ∧ b ≤ 255 := by simpa [Lit.wf, IntKind.min, IntKind.max, IntKind.signed, IntKind.bits] using hv
  obtain ⟨a0, a1⟩ := hu'
  obtain ⟨b0, b1⟩ := hv'
  have HR := Lib.hid hr
  obtain ⟨p, hp⟩ : ∃ p, p = min n 64 := ⟨_, rfl⟩
  have HP := Lib.hid hp
  obtain ⟨S, hS⟩ : ∃ S, S = Kp.sl zs p := ⟨_, rfl⟩
  have HS := Lib.hid hS
  have hends := (Kp.sl_all hr.bytes p (by have := hn.out; omega)).ends
  rw [← hS] at hends
  have hlenS : S.length ≤ 64 := by rw [hS, (Kp.sl_all hr.bytes p (by have := hn.out; omega)).len]; omega
  obtain ⟨⟨k1, k2, k3, k4, k5, k6⟩, e1, e2⟩ := two_math hends a b a0 a1 b0 b1
  have K1 := Lib.hid k1
  have K2 := Lib.hid k2
  have K3 := Lib.hid k3
  have K4 := Lib.hid k4
  have K5 := Lib.hid k5
  have K6 := Lib.hid k6
  have E1 := Lib.hid e1
  have E2 := Lib.hid e2
  have wa : IntKind.i64.wrap a = a := IntWalk.i64_in _ (by omega)
  have wb : IntKind.i64.wrap b = b := IntWalk.i64_in _ (by omega)
  have wab : IntKind.i64.wrap (a + b) = a + b := IntWalk.i64_in _ (by omega)
  clear hr hu hv hp hS hends k1 k2 k3 k4 k5 k6 e1 e2
  go_enter Try.func4, Try.ntmps4
  go_wp2_with fail
  refine (shown_any _).mono ?_
  rintro e w1 ⟨rfl, hb1⟩
  have B1 := Lib.hid hb1
  have HR1 := Lib.hid (HR.out.below hb1)
  clear hb1
  go_wp2_with fail
  refine (slept_any A n c zs w1 hn hl HR1.out p HP).mono ?_
  rintro e w2 ⟨bc, F, rfl, h2⟩
  rw [← HS.out] at h2
  have C2 := Lib.hid (h2.elder B1.out)
  have HR2 := Lib.hid (HR1.out.below (h2.below.mono (Nat.le_refl _)))
  clear h2 B1
  go_wp2_with fail
  refine (slept_any A n c zs w2 hn hl HR2.out p HP).mono ?_
  rintro e w3 ⟨bd, G, rfl, h3⟩
  rw [← HS.out] at h3
  have T3 := Lib.hid (show Tw w w3 bc bd F G 0 0 S S from ⟨C2.out.step h3.below, h3.elder C2.out.below, fun j f g => by have := C2.out.ck.lt j f; have := h3.ge j g; omega⟩)
  clear h3 C2 HR2 HR1
  go_wp2_with fail
  refine (co_tick T3.out.c a).mono ?_
  rintro e w4 ⟨⟨Ax, nx, cx, rfl, hrx, hfx⟩, h4, hk4⟩
  rw [K1.out]
  rw [K2.out] at h4
  have RX := Lib.hid (show Rw F G w4 Ax nx cx _ from ⟨hrx, T3.out.out hfx⟩)
  have T4 := Lib.hid (show Tw w w4 bc bd F G a 0 _ S from ⟨h4, T3.out.d.kept hk4 T3.out.c.ge (fun j g f => T3.out.apart j f g), T3.out.apart⟩)
  clear hrx hfx h4 hk4 T3
  go_wp2_with fail
  refine (co_tick T4.out.c b).mono ?_
  rintro e w5 ⟨⟨Ay, ny, cy, rfl, hry, hfy⟩, h5, hk5⟩
  rw [K3.out]
  rw [K4.out] at h5
  have RY := Lib.hid (show Rw F G w5 Ay ny cy _ from ⟨hry, T4.out.out hfy⟩)
  have RX5 := Lib.hid (show Rw F G w5 Ax nx cx _ from ⟨RX.out.row.kept hk5 RX.out.out.1, RX.out.out⟩)
  have T5 := Lib.hid (show Tw w w5 bc bd F G (a + b) 0 _ S from ⟨h5, T4.out.d.kept hk5 T4.out.c.ge (fun j g f => T4.out.apart j f g), T4.out.apart⟩)
  clear hry hfy h5 hk5 T4 RX
  go_wp2_with fail
  refine (co_tick T5.out.d (a + b)).mono ?_
  rintro e w6 ⟨⟨Az, nz, cz, rfl, hrz, hfz⟩, h6, hk6⟩
  rw [K5.out]
  rw [K6.out] at h6
  have RZ := Lib.hid (show Rw F G w6 Az nz cz _ from ⟨hrz, T5.out.out hfz⟩)
  have RX6 := Lib.hid (show Rw F G w6 Ax nx cx _ from ⟨RX5.out.row.kept hk6 RX5.out.out.2, RX5.out.out⟩)
  have RY6 := Lib.hid (show Rw F G w6 Ay ny cy _ from ⟨RY.out.row.kept hk6 RY.out.out.2, RY.out.out⟩)
  have T6 := Lib.hid (show Tw w w6 bc bd F G (a + b) (a + b) _ _ from ⟨T5.out.c.kept hk6 T5.out.d.ge T5.out.apart, h6, T5.out.apart⟩)
  have hnx : nx ≤ 64 := by rw [← RX6.out.row.len, Kp.ids_length]; exact Nat.le_trans (Kp.twoke_le _ _ _) hlenS
  clear hrz hfz h6 hk6 T5 RX5 RY K1 K2 K3 K4 K5 K6
  obtain ⟨X, hX⟩ : ∃ X, X = Kp.ids (Kp.twoke S 0 a) := ⟨_, rfl⟩
  obtain ⟨Y, hY⟩ : ∃ Y, Y = Kp.ids (Kp.twoke (Kp.trest S 0 a) a b) := ⟨_, rfl⟩
  obtain ⟨Z, hZ⟩ : ∃ Z, Z = Kp.ids (Kp.twoke S 0 (a + b)) := ⟨_, rfl⟩
  obtain ⟨U, hU⟩ : ∃ U, U = Kp.trest S 0 (a + b) := ⟨_, rfl⟩
  rw [E2.out] at T6
  rw [← hX, ← hY, ← hZ] at E1
  rw [← hX] at RX6
  rw [← hY] at RY6
  rw [← hZ] at RZ
  rw [← hU] at T6
  have hny : ny ≤ 64 := by rw [← RY6.out.row.len, hY, Kp.ids_length]; exact Nat.le_trans (Nat.le_trans (Kp.twoke_le _ _ _) (Kp.trest_le _ _ _)) hlenS
  clear hX hY hZ hU E2
  have hbn := below_new w6 (.cells #[] 3)
  have OA := Lib.hid (World.ownsRow_made (w := w6) (base := w6.heap.size) (e := 3) (size := 1) #[] 0 (Nat.le_refl _) (by unfold maxLen; omega) rfl)
  have HB := Lib.hid hbn
  have R7 := Lib.hid (RX6.out.row.below hbn)
  have hs7 : w6.heap.size ≤ (w6.alloc (.cells #[] 3)).heap.size := hbn.size
  clear hbn
  go_wp2_with (at_builtin; refine wpList_append_row_g (.tmp 59) (.tmp 60) rfl (by simp [Region.wanted, yielded]) w6.heap.size (.slice (some ⟨w6.heap.size, 0, none⟩) 0 0) 0 [] rfl ?c1 Ax nx cx X rfl ?c2 (by omega) ?c3 ?_)
  case c1 => exact OA.out
  case c2 => exact R7.out
  case c3 => exact hs7
  intro va w7 hoa hga
  have OB := Lib.hid (show w7.ownsRow w6.heap.size 3 1 va nx (X.map (Value.int .i64)) from by simpa using hoa)
  have HB7 := Lib.hid (HB.out.grown hga hs7 (fun q e => by simp [Value.ownBlock] at e; omega))
  clear hoa hga OA R7
  go_wp2_with (at_builtin; refine wpList_append_row_g (.tmp 61) (.tmp 62) rfl (by simp [Region.wanted, yielded]) w6.heap.size va nx X rfl ?c1 Ay ny cy Y rfl ?c2 (by omega) ?c3 ?_)
  case c1 => exact OB.out
  case c2 => exact RY6.out.row.below HB7.out
  case c3 => exact HB7.out.size
  intro vb w8 hob hgb
  have hob2 : w8.ownsRow w6.heap.size 3 1 vb (nx + ny) ((X ++ Y).map (Value.int .i64)) := by simpa using hob
  obtain ⟨Ab, cb, rfl, hrb⟩ := Row.of_own hob2
  have hb8 := HB7.out.grown hgb HB7.out.size (fun q e => (OB.out.lt q e).1)
  rw [E1.out] at hrb
  have T8 := Lib.hid (T6.out.step hb8)
  have Q8 := Lib.hid (RZ.out.row.below hb8)
  have P8 := Lib.hid hrb
  clear hob hob2 hgb hb8 hrb OB HB7 HB RX6 RY6 RZ T6 E1
  go_wp2_with fail
  refine (ints_row Ab Az _ _ _ _ Z Z _ rfl P8.out Q8.out).mono ?_
  rintro e w9 ⟨rfl, hb9⟩
  have T9 := Lib.hid (T8.out.step hb9)
  clear hb9 T8 P8 Q8
  go_wp2_with fail
  refine (co_asleep T9.out.c).mono ?_
  rintro e w10 ⟨⟨A1, n1, c1, rfl, hr1, hf1⟩, _, hb10⟩
  have T10 := Lib.hid (T9.out.step hb10)
  have R10 := Lib.hid hr1
  clear hr1 hf1 hb10 T9
  go_wp2_with fail
  refine (co_asleep T10.out.d).mono ?_
  rintro e w11 ⟨⟨A2, n2, c2, rfl, hr2, hf2⟩, _, hb11⟩
  have T11 := Lib.hid (T10.out.step hb11)
  have R11 := Lib.hid (R10.out.below hb11)
  have Q11 := Lib.hid hr2
  clear hr2 hf2 hb11 T10 R10
  go_wp2_with fail
  refine (ints_row A1 A2 _ _ _ _ _ _ _ rfl R11.out Q11.out).mono ?_
  rintro e w12 ⟨rfl, hb12⟩
  have T12 := Lib.hid (T11.out.step hb12)
  clear hb12 T11 R11 Q11
  go_wp2_with fail
  refine (co_now T12.out.c).mono ?_
  rintro e w13 ⟨rfl, rfl⟩
  go_wp2_with fail
  refine (co_now T12.out.d).mono ?_
  rintro e w14 ⟨rfl, rfl⟩
  go_wp2_with fail
  go_ret
  exact ⟨rfl, T12.out.c.below⟩
set_option maxRecDepth 100000 in
theorem lifted (os : Os) (started : os.Started) (H : Type) (enc : TypeId × Value → H) :
    ReturnsInHanded {} Try.checked os 4 .any (Rows.clockTwoSpec.pre6 enc Try.prog Try.f4 Rows.clockTwoRow.domain false) (Rows.clockTwoSpec.post enc Try.prog Try.f4 false true false false) := by
  refine returnsInHanded_of_change (C := Try.checked) own started (by kernel_rfl) Try.func4
    (ChangeSpec.witness6 (enc := enc) (C := Try.checked) false ⟨#[], #[.slice none 0 0, .int .u8 0, .int .u8 0], []⟩ 8 (by kernel_rfl) (by kernel_rfl) (by kernel_rfl) (by kernel_rfl)) ?_
  intro W base args ds gs before hval0 hW hcnd _
  have hval : ∀ (j : Nat) t v, Try.f4.params[j]? = some t → args[j]? = some v → Value.okWide Try.prog W .any base t v := hval0
  have hW' := hW
  obtain ⟨p, q, hA0, hV, rfl, hfz, hnd⟩ := hW
  have hA : DataW.TrodAll enc Try.prog W 0 (fun _ => true) true Try.f4.params.toList args.toList ds p := hA0
  rw [Try.params4] at hA hval
  obtain ⟨v0, vs0, d0, ds0, p0, q0, hargs, rfl, rfl, h0, r0⟩ := trodAll_cons hA
  obtain ⟨v1, vs1, d1, ds1, p1, q1, rfl, rfl, rfl, h1, r1⟩ := trodAll_cons r0
  obtain ⟨v2, vs2, d2, ds2, p2, q2, rfl, rfl, rfl, h2, r2⟩ := trodAll_cons r1
  obtain ⟨rfl, rfl, rfl⟩ := trodAll_nil r2
  obtain rfl : args = #[v0, v1, v2] := by cases args; simp_all
  obtain ⟨rfl, rfl⟩ := trodVars_none hV
  have k0 := h0
  have lt0 : ∀ x ∈ p0, x.block < W.heap.size := by obtain ⟨m, hm⟩ := k0; exact DataW.trod_lt m _ _ _ hm
  obtain ⟨a0, len0, cap0, rfl⟩ := okWide_slice Try.underlying52 (hval 0 52 v0 rfl rfl)
  obtain ⟨aa0, ll0, cc0, z0, ev0, hn0, hr0⟩ : ∃ A n c zs, Value.slice a0 len0 cap0 = .slice A n c ∧ (zs.length = n ∧ n ≤ 9223372036854775807) ∧ BRow W A zs := by
    obtain ⟨fuel, hf⟩ := h0
    exact open_bytes (by simpa [Value.cells] using hf)
  injection ev0 with ea0 eb0 ec0
  subst ea0 eb0 ec0
  obtain ⟨a1, rfl, rfl, rfl, w1⟩ := open_int Try.underlying5 (hval 1 5 v1 rfl rfl) h1
  obtain ⟨a2, rfl, rfl, rfl, w2⟩ := open_int Try.underlying5 (hval 2 5 v2 rfl rfl) h2
  clear hA0 hval0
  refine (walk a0 len0 cap0 z0 a1 a2 W (Lib.hid hn0.1) hn0.2 hr0 w1 w2).mono fun e W' ⟨he, bel⟩ => ?_
  subst he
  exact ⟨_, rfl, _, _, _, [], _, [], hW', trodAll_mk1 (shut_bool Try.underlying4 _), (trodAll_cons_mk (Below.trod laidOut (by kernel_rfl) (of_decide_eq_true (by kernel_rfl)) k0 bel lt0) (trodAll_cons_mk (shut_int Try.underlying5 w1) (trodAll_cons_mk (shut_int Try.underlying5 w2) trodAll_mk0))), rfl, bel.frame _, fun h => by cases h⟩
theorem over : Rows.clockTwoRow.holds Try.pinned (OpenSpec.ofChange Rows.clockTwoSpec) :=
  OpenClaim.holds_of_wide 4 Try.f4 rfl rfl rfl rfl rfl rfl rfl ⟨rfl, rfl, rfl, rfl, rfl⟩ rfl rfl rfl rfl rfl (by kernel_rfl) Try.func4 (by kernel_rfl)
    (of_decide_eq_true (by kernel_rfl)) (by unfold Func.isWrapper; first | (rw [if_pos (by decide +kernel)]; kernel_rfl) | (rw [if_neg (by decide +kernel)]; exact ⟨rfl, rfl⟩))
    (fun os started H enc _ => lifted os started H enc)
theorem proved : Rows.ClockTwoSaid := over
end Go.Proofs.Ytgknbjiocgcmdaa.clockTwo

