/- The landed named and read, and the library's Cut and Atoi as they meet them, by their contracts. -/
import Derived.Test.YtejhlenckdkonaaDoorCMet
import Derived.Test.YtejhlenckdkonaaDoorCParse
import Derived.Test.YtejhlenckdkonaaDoorCAtoi
import Derived.Lib.SmallJoins
import Derived.Lib.AtoiAllCases
import Derived.Lib.AtoiErrMem
namespace Go.Proofs.YtejhlenckdkonaaDoor
open Go.RowKit
set_option linter.unusedVariables false
set_option maxRecDepth 100000

theorem index_any (S : List UInt8) (c : UInt8) (w : World) :
    Calls Tryd.prog 38 #[.string (str S), .string ⟨#[c]⟩] w fun e w' => e = .returned (.int .i64 (Lib.indexByte S c)) ∧ w' = w := Any.stringslite_Index_one lays219 (str S) c w
theorem slcut_miss (S : List UInt8) (c : UInt8) (w : World) (h : ∀ d ∈ S, d ≠ c) :
    Calls Tryd.prog 31 #[.string (str S), .string ⟨#[c]⟩] w fun e w' => e = .returned (.tuple #[.string (str S), .string (str []), .bool false]) ∧ Below w.heap.size w w' := by
  have HI := Lib.hid (Cp.idx_miss h)
  go_enter Tryd.func31, Tryd.ntmps31
  go_wp2_with fail
  refine (index_any _ c _).mono ?_
  rintro e w1 ⟨rfl, rfl⟩
  rw [HI.out]
  go_wp2_with fail
  refine bodyPost_ret (v := .tuple #[.string (str S), .string (str []), .bool false]) (by simp [results, Tryd.results31, go_sem]; rfl) rfl ?_
  exact ⟨rfl, Below.refl _ _⟩
theorem cut_miss (S : List UInt8) (c : UInt8) (w : World) (h : ∀ d ∈ S, d ≠ c) :
    Calls Tryd.prog 22 #[.string (str S), .string ⟨#[c]⟩] w fun e w' => e = .returned (.tuple #[.string (str S), .string (str []), .bool false]) ∧ Below w.heap.size w w' := by
  go_enter Tryd.func22, Tryd.ntmps22
  go_wp2_with fail
  refine (slcut_miss S c _ h).mono ?_
  rintro e w1 ⟨rfl, hb⟩
  have HB := Lib.hid hb
  clear hb
  go_wp2_with fail
  refine bodyPost_ret (v := .tuple #[.string (str S), .string (str []), .bool false]) (by simp [results, Tryd.results22, go_sem]) rfl ?_
  exact ⟨rfl, HB.out⟩
theorem slcut_hit (a b : List UInt8) (c : UInt8) (w : World) (h : ∀ d ∈ a, d ≠ c) (hl : a.length + b.length ≤ 1000000) :
    Calls Tryd.prog 31 #[.string (str (a ++ c :: b)), .string ⟨#[c]⟩] w fun e w' => e = .returned (.tuple #[.string (str a), .string (str b), .bool true]) ∧ Below w.heap.size w w' := by
  have HI := Lib.hid (Cp.idx_hit (b := b) h)
  obtain ⟨k, hk⟩ : ∃ k, a.length = k := ⟨_, rfl⟩
  rw [hk] at HI
  obtain ⟨n, hn⟩ : ∃ n, (str (a ++ c :: b)).size = n := ⟨_, rfl⟩
  have HN := Lib.hid hn
  have hnk : n = k + 1 + b.length := by rw [← hn, str_size, List.length_append, List.length_cons, hk]; omega
  have hkn : (k : Int) ≤ (n : Int) := by omega
  have hk1 : (k : Int) + 1 ≤ (n : Int) := by omega
  have hk2 : (0 : Int) ≤ (k : Int) + 1 := by omega
  have hsm : n ≤ 1000001 := by omega
  have e1 : (str (a ++ c :: b)).extract 0 k = str a := by rw [str_take, ← hk, List.take_left]
  have e2 : (str (a ++ c :: b)).extract (k + 1) n = str b := by
    have := str_drop (a ++ c :: b) (k + 1)
    rw [show (a ++ c :: b).length = n by rw [← hn, str_size]] at this
    rw [this, ← hk]
    congr 1
    rw [show a ++ c :: b = (a ++ [c]) ++ b by simp]
    exact List.drop_left' (by simp)
  have q1 : IntKind.i64.wrap ((k : Int) + 1) = (k : Int) + 1 := IntWalk.i64_in _ ⟨by omega, by omega⟩
  have q2 : ((k : Int) + 1).toNat = k + 1 := by omega
  clear hnk hk hl h
  go_enter Tryd.func31, Tryd.ntmps31
  go_wp2_with fail
  refine (index_any _ c _).mono ?_
  rintro e w1 ⟨rfl, rfl⟩
  rw [HI.out]
  go_wp2_with fail
  go_quiet (fail)
  go_wp2_with fail
  refine bodyPost_ret (v := .tuple #[.string (str a), .string (str b), .bool true]) (by simp [results, Tryd.results31, go_sem]) rfl ?_
  exact ⟨rfl, below_drewN (Below.refl _ _) _⟩
theorem cut_hit (a b : List UInt8) (c : UInt8) (w : World) (h : ∀ d ∈ a, d ≠ c) (hl : a.length + b.length ≤ 1000000) :
    Calls Tryd.prog 22 #[.string (str (a ++ c :: b)), .string ⟨#[c]⟩] w fun e w' => e = .returned (.tuple #[.string (str a), .string (str b), .bool true]) ∧ Below w.heap.size w w' := by
  go_enter Tryd.func22, Tryd.ntmps22
  go_wp2_with fail
  refine (slcut_hit a b c _ h hl).mono ?_
  rintro e w1 ⟨rfl, hb⟩
  have HB := Lib.hid hb
  clear hb
  go_wp2_with fail
  refine bodyPost_ret (v := .tuple #[.string (str a), .string (str b), .bool true]) (by simp [results, Tryd.results22, go_sem]) rfl ?_
  exact ⟨rfl, HB.out⟩
theorem arr_idx (cs : Array Value) (k : Nat) (v : Value) (hk : k < 11) (h : cs[k]? = some v) (W : World) : (Instr.index 64 (.agg cs) (.int .i64 (k : Int))).run Tryd.prog W = .ok v W := by
  have h0 : (0 : Int) ≤ (k : Int) ∧ (k : Int) < 11 := by omega
  simp [Instr.index, run_underlying Tryd.underlying64, asIntOf, h0, h, go_sem]
  intro h; omega
theorem named_any (S : List UInt8) (w : World) (hM : Met w) :
    Calls Tryd.prog 32 #[.string (str S)] w fun e w' => ∃ k : Nat, e = .returned (.int .i64 (k : Int)) ∧ Below w.heap.size w w' ∧ k ≤ 10 ∧ (k = 0 ∧ (∀ j : Nat, 1 ≤ j → j ≤ 10 → Cp.nm (j : Int) ≠ S) ∨ 1 ≤ k ∧ Cp.nm (k : Int) = S) := by
  obtain ⟨s0, h0⟩ : ∃ s, str (Cp.nm 0) = s := ⟨_, rfl⟩
  have c0 : w.cell? ⟨0, 0, none⟩ = some (.string s0) := by rw [← h0]; exact hM.names 0 (by omega)
  obtain ⟨s1, h1⟩ : ∃ s, str (Cp.nm 1) = s := ⟨_, rfl⟩
  have c1 : w.cell? ⟨0, 1, none⟩ = some (.string s1) := by rw [← h1]; exact hM.names 1 (by omega)
  obtain ⟨s2, h2⟩ : ∃ s, str (Cp.nm 2) = s := ⟨_, rfl⟩
  have c2 : w.cell? ⟨0, 2, none⟩ = some (.string s2) := by rw [← h2]; exact hM.names 2 (by omega)
  obtain ⟨s3, h3⟩ : ∃ s, str (Cp.nm 3) = s := ⟨_, rfl⟩
  have c3 : w.cell? ⟨0, 3, none⟩ = some (.string s3) := by rw [← h3]; exact hM.names 3 (by omega)
  obtain ⟨s4, h4⟩ : ∃ s, str (Cp.nm 4) = s := ⟨_, rfl⟩
  have c4 : w.cell? ⟨0, 4, none⟩ = some (.string s4) := by rw [← h4]; exact hM.names 4 (by omega)
  obtain ⟨s5, h5⟩ : ∃ s, str (Cp.nm 5) = s := ⟨_, rfl⟩
  have c5 : w.cell? ⟨0, 5, none⟩ = some (.string s5) := by rw [← h5]; exact hM.names 5 (by omega)
  obtain ⟨s6, h6⟩ : ∃ s, str (Cp.nm 6) = s := ⟨_, rfl⟩
  have c6 : w.cell? ⟨0, 6, none⟩ = some (.string s6) := by rw [← h6]; exact hM.names 6 (by omega)
  obtain ⟨s7, h7⟩ : ∃ s, str (Cp.nm 7) = s := ⟨_, rfl⟩
  have c7 : w.cell? ⟨0, 7, none⟩ = some (.string s7) := by rw [← h7]; exact hM.names 7 (by omega)
  obtain ⟨s8, h8⟩ : ∃ s, str (Cp.nm 8) = s := ⟨_, rfl⟩
  have c8 : w.cell? ⟨0, 8, none⟩ = some (.string s8) := by rw [← h8]; exact hM.names 8 (by omega)
  obtain ⟨s9, h9⟩ : ∃ s, str (Cp.nm 9) = s := ⟨_, rfl⟩
  have c9 : w.cell? ⟨0, 9, none⟩ = some (.string s9) := by rw [← h9]; exact hM.names 9 (by omega)
  obtain ⟨s10, h10⟩ : ∃ s, str (Cp.nm 10) = s := ⟨_, rfl⟩
  have c10 : w.cell? ⟨0, 10, none⟩ = some (.string s10) := by rw [← h10]; exact hM.names 10 (by omega)
  have HI := Lib.hid (show ∀ k : Nat, k < 11 → ∀ W : World, (Instr.index 64 (.agg #[.string s0, .string s1, .string s2, .string s3, .string s4, .string s5, .string s6, .string s7, .string s8, .string s9, .string s10]) (.int .i64 (k : Int))).run Tryd.prog W = .ok (.string (str (Cp.nm (k : Int)))) W from by
    intro k hk W
    refine arr_idx _ k _ hk ?_ W
    match k, hk with
    | 0, _ => rw [← h0]; rfl
    | 1, _ => rw [← h1]; rfl
    | 2, _ => rw [← h2]; rfl
    | 3, _ => rw [← h3]; rfl
    | 4, _ => rw [← h4]; rfl
    | 5, _ => rw [← h5]; rfl
    | 6, _ => rw [← h6]; rfl
    | 7, _ => rw [← h7]; rfl
    | 8, _ => rw [← h8]; rfl
    | 9, _ => rw [← h9]; rfl
    | 10, _ => rw [← h10]; rfl
    | _ + 11, hk => omega)
  clear hM h0 h1 h2 h3 h4 h5 h6 h7 h8 h9 h10
  go_enter Tryd.func32, Tryd.ntmps32
  go_wp2_with fail
  go_loop [6] (fun i => ∃ k : Nat, k ≤ 11 ∧ i = .int .i64 k ∧ Hid (∀ j : Nat, j < k → Cp.nm (j : Int) ≠ S)) (fun i => 11 - (intOf i).toNat)
  case atStart => exact ⟨0, Nat.zero_le _, rfl, Lib.hid (fun j hj => by omega)⟩
  case round =>
    obtain ⟨k, hk, rfl, HD⟩ := hrel
    by_cases hlt : k < 11
    · have hidx := HI.out k hlt
      have q1 := str_cmp (Cp.nm (k : Int)) S
      have g0 : (k : Int) < 11 := by omega
      by_cases he : Cp.nm (k : Int) = S
      · rw [decide_eq_true he] at q1
        have HE := Lib.hid he
        have HX := Lib.hid (show (k = 0 ∧ (∀ j : Nat, 1 ≤ j → j ≤ 10 → Cp.nm (j : Int) ≠ S) ∨ 1 ≤ k ∧ Cp.nm (k : Int) = S) from by
          by_cases h0 : k = 0
          · refine .inl ⟨h0, fun j h1 h2 e => ?_⟩
            rw [h0] at he
            rw [← he] at e
            exact Cp.nm_ne (op := (j : Int)) (by omega) (by omega) e
          · exact .inr ⟨by omega, he⟩)
        clear he
        go_wp2_with fail
        go_ret
        exact ⟨k, rfl, Below.refl _ _, by omega, HX.out⟩
      · rw [decide_eq_false he] at q1
        have HD2 := Lib.hid (show ∀ j : Nat, j < k + 1 → Cp.nm (j : Int) ≠ S from fun j hj => by
          by_cases hjk : j = k
          · subst hjk; exact he
          · exact HD.out j (by omega))
        clear he
        go_wp2_with fail
        go_round
        case rel => exact ⟨k + 1, by omega, by go_num, HD2⟩
        case measure => simp [intOf]; omega
    · obtain rfl : k = 11 := by omega
      clear hlt
      go_wp2_with fail
      go_ret
      exact ⟨0, rfl, Below.refl _ _, by omega, .inl ⟨rfl, fun j h1 h2 => HD.out j (by omega)⟩⟩

theorem cut_any (S : List UInt8) (c : UInt8) (w : World) (hl : S.length ≤ 1000000) :
    Calls Tryd.prog 22 #[.string (str S), .string ⟨#[c]⟩] w fun e w' => ∃ a b f, e = .returned (.tuple #[.string (str a), .string (str b), .bool f]) ∧ Below w.heap.size w w' ∧ Cp.Parts S a b f c := by
  rcases Cp.parted S c with h | ⟨a, b, rfl, h⟩
  · refine (cut_miss S c w h).mono ?_
    rintro e w1 ⟨rfl, hb⟩
    exact ⟨_, _, _, rfl, hb, .inl ⟨rfl, rfl, rfl, h⟩⟩
  · refine (cut_hit a b c w h (by simp at hl; omega)).mono ?_
    rintro e w1 ⟨rfl, hb⟩
    exact ⟨_, _, _, rfl, hb, .inr ⟨rfl, rfl, h⟩⟩
/-- With the library's two errors. -/
structure MetE (w : World) : Prop where
  met : Met w
  syn : ∃ tp p, w.var? Tryd.prog "strconv.ErrSyntax" = some #[.iface tp p]
  rng : ∃ tp p, w.var? Tryd.prog "strconv.ErrRange" = some #[.iface tp p]
theorem gSyn : Tryd.prog.globalNamed "strconv.ErrSyntax" = some 2 := by kernel_rfl
theorem gRng : Tryd.prog.globalNamed "strconv.ErrRange" = some 3 := by kernel_rfl
theorem MetE.step {w w' : World} (h : MetE w) (hb : Below w.heap.size w w') : MetE w' := by
  refine ⟨h.met.step hb, ?_, ?_⟩
  · obtain ⟨tp, p, e⟩ := h.syn; exact ⟨tp, p, Go.Joins.var_stays gSyn e hb (Nat.le_refl _)⟩
  · obtain ⟨tp, p, e⟩ := h.rng; exact ⟨tp, p, Go.Joins.var_stays gRng e hb (Nat.le_refl _)⟩
theorem atoi_any (S : List UInt8) (w : World) (hl : S.length ≤ 1000000) (hE : MetE w) :
    Calls Tryd.prog 33 #[.string (str S)] w fun e w' => ∃ (a : Int) (v : Value), e = .returned (.tuple #[.int .i64 a, v]) ∧ Below w.heap.size w w' ∧ Cp.In64 a ∧ (∀ z, Cp.In64 z → S = Cp.figs z → a = z) ∧ (S = [] → a = 0) := by
  cases h : Lib.atoiAll S
  · rename_i v
    refine (Any.strconv_Atoi_ok laysC172 (str S) (by rw [str_size]; omega) v h w).mono ?_
    rintro e w1 ⟨rfl, hw⟩
    refine ⟨v, _, rfl, ?_, Lib.atoiAll_bounds h, fun z hz e => ?_, fun e => ?_⟩
    · rcases hw with rfl | ⟨t, rfl⟩
      · exact Below.refl _ _
      · exact Lib.bytesWorld_below _ _ _
    · rw [e, Cp.atoi_figs hz] at h; injection h with h; exact h.symm
    · rw [e] at h; exact absurd rfl ((Cp.atoi_nil h).1 v)
  · obtain ⟨tp, p, hv⟩ := hE.syn
    refine (Any.strconv_Atoi_syntax_var laysC172 (str S) (by rw [str_size]; omega) h tp p w hv).mono ?_
    rintro e w1 ⟨N, rfl, _, _, hb⟩
    exact ⟨0, _, rfl, hb, ⟨by decide, by decide⟩, (fun z hz e => by rw [e, Cp.atoi_figs hz] at h; cases h), (fun _ => rfl)⟩
  · obtain ⟨tp, p, hv⟩ := hE.rng
    refine (Any.strconv_Atoi_range_var laysC172 (str S) (by rw [str_size]; omega) h tp p w hv).mono ?_
    rintro e w1 ⟨N, rfl, _, _, hb⟩
    refine ⟨_, _, rfl, hb, ?_, (fun z hz e => by rw [e, Cp.atoi_figs hz] at h; cases h), (fun e => by rw [e] at h; exact absurd rfl (Cp.atoi_nil h).2)⟩
    unfold Lib.atoiSat
    split <;> exact ⟨by decide, by decide⟩
/-- What a call leaves that tells an instruction, and whether. -/
def LdTold (w : World) (o : Option (Int × Int)) (e : Ending) (w' : World) : Prop :=
  ∃ x y : Int, e = .returned (.tuple #[.agg #[.int .i64 x, .int .i64 y], .bool o.isSome]) ∧ Below w.heap.size w w' ∧ ∀ p, o = some p → p = (x, y)
set_option maxHeartbeats 8000000 in
theorem read_any (S : List UInt8) (w : World) (hl : S.length ≤ 1000000) (hE : MetE w) :
    Calls Tryd.prog 23 #[.string (str S)] w (LdTold w (Cp.rd S)) := by
  obtain ⟨W0, hW0⟩ : ∃ W, W = w.alloc (.cells #[.int .i64 0, .int .i64 0] 42) := ⟨_, rfl⟩
  have R0 := Lib.hid (show R2 w W0 (.int .i64 0) (.int .i64 0) by rw [hW0]; exact R2.start _ _ _ _)
  have HE := Lib.hid (hE.step R0.out.below)
  have E0 := Lib.hid hW0
  clear hE hW0
  go_enter Tryd.func23, Tryd.ntmps23
  go_wp2_with fail
  rw [← E0.out]
  clear E0
  refine (cut_any S 32 _ hl).mono ?_
  rintro e w1 ⟨a, b, f, rfl, hb, hp⟩
  have HR1 := Lib.hid (R0.out.step hb)
  have HP := Lib.hid hp
  have HE1 := Lib.hid (HE.out.step hb)
  have hbl : b.length ≤ 1000000 := by
    rcases hp with ⟨_, e, _, _⟩ | ⟨e, _, _⟩
    · rw [e]; simp
    · rw [e] at hl; simp at hl; omega
  clear hb hp
  go_wp2_with fail
  refine (named_any a _ HE1.out.met).mono ?_
  rintro e w2 ⟨k, rfl, hb, hk10, hk⟩
  have HR2 := Lib.hid (HR1.out.step hb)
  have HE2 := Lib.hid (HE1.out.step hb)
  have HK := Lib.hid hk
  clear hb hk
  by_cases h0 : k = 0
  · subst h0
    have HN := Lib.hid (show Cp.rd S = none from Cp.rd_zero HP.out (by
      rcases HK.out with ⟨_, h⟩ | ⟨h, _⟩
      · exact h
      · omega))
    have d0 := HR2.out.r0
    have d1 := HR2.out.r1
    have d2 := HR2.out.f0
    have d3 := HR2.out.f1
    obtain ⟨k0, k1⟩ := told2 (u := .int .i64 0) (v := .int .i64 0) d0 d1
    have HD := Lib.hid (HR2.out.done (.int .i64 0) (.int .i64 0))
    go_wp2_with fail
    refine bodyPost_ret (v := .tuple #[.agg #[.int .i64 0, .int .i64 0], .bool false]) ?_ rfl ?_
    · simp [results, Tryd.results23, go_sem, k0, k1]
    exact ⟨0, 0, by rw [HN.out]; rfl, HD.out, fun p hp => by rw [HN.out] at hp; cases hp⟩
  · have t0 : ((k : Int) == 0) = false := by rw [beq_eq_false_iff_ne]; omega
    have hk2 : 1 ≤ k ∧ Cp.nm (k : Int) = a := by
      rcases HK.out with ⟨h, _⟩ | h
      · exact absurd h h0
      · exact h
    clear h0
    go_wp2_with fail
    refine (atoi_any b _ hbl HE2.out).mono ?_
    rintro e w3 ⟨z, v, rfl, hb, hz, hz1, hz2⟩
    have HR3 := Lib.hid (HR2.out.step hb)
    have HE3 := Lib.hid (HE2.out.step hb)
    have HZ := Lib.hid hz
    have HZ1 := Lib.hid hz1
    have HZ2 := Lib.hid hz2
    clear hb hz hz1 hz2
    have HX := Lib.hid (R2.start w3 (.int .i64 (k : Int)) (.int .i64 z) 42)
    have HRA := Lib.hid (HR3.out.step (below_new w3 (.cells #[.int .i64 (k : Int), .int .i64 z] 42)))
    have HMA := Lib.hid (show Met (w3.alloc (.cells #[.int .i64 (k : Int), .int .i64 z] 42)).drew from HE3.out.met.step ((below_new w3 _).drew))
    have x0 := HX.out.r0
    have x1 := HX.out.r1
    have hne : w.heap.size ≠ w3.heap.size := by have := HR3.out.size; omega
    have c0 := str_cmp (Cp.line ((k : Int), z)) S
    obtain ⟨hk1, hkn⟩ := hk2
    by_cases he : Cp.line ((k : Int), z) = S
    · rw [decide_eq_true he] at c0
      have HRD := Lib.hid (show Cp.rd S = some ((k : Int), z) from Cp.rd_yes hk1 hk10 HZ.out he)
      clear he hkn
      go_wp2_with fail
      go_region_held3 (fun w' => w'.cell? ⟨w3.heap.size, 0, none⟩ = some (.int .i64 (k : Int)) ∧ w'.cell? ⟨w3.heap.size, 1, none⟩ = some (.int .i64 z)) ((first | exact ⟨y0, y1⟩ | exact ⟨x0, x1⟩ | go_keep)) ((go_at_call 26; refine (line_any k z _ HZ.out HMA.out).mono ?_; rintro e w4 ⟨rfl, hb4⟩; (have HR4 := Lib.hid (HRA.out.step (below_of_drew hb4)); have y0 := keepcell_drew hb4 x0; have y1 := keepcell_drew hb4 x1; have d0 := HR4.out.r0; have d1 := HR4.out.r1; have d2 := HR4.out.f0; have d3 := HR4.out.f1)))
      all_goals
        obtain ⟨k0, k1⟩ := told2 (u := .int .i64 (k : Int)) (v := .int .i64 z) d0 d1
        have HD := Lib.hid (HR4.out.done (.int .i64 (k : Int)) (.int .i64 z))
        go_wp2_with fail
        refine bodyPost_ret (v := .tuple #[.agg #[.int .i64 (k : Int), .int .i64 z], .bool true]) ?_ rfl ?_
        · simp [results, Tryd.results23, go_sem, k0, k1]
      exact ⟨k, z, by rw [HRD.out]; rfl, HD.out, fun p hp => by rw [HRD.out] at hp; injection hp with hp; exact hp.symm⟩
    · rw [decide_eq_false he] at c0
      have HRD := Lib.hid (show Cp.rd S = none from Cp.rd_no HP.out hk1 hk10 hkn HZ1.out HZ2.out he)
      clear he hkn
      go_wp2_with fail
      go_region_held3 (fun w' => w'.cell? ⟨w3.heap.size, 0, none⟩ = some (.int .i64 (k : Int)) ∧ w'.cell? ⟨w3.heap.size, 1, none⟩ = some (.int .i64 z)) ((first | exact ⟨y0, y1⟩ | exact ⟨x0, x1⟩ | go_keep)) ((go_at_call 26; refine (line_any k z _ HZ.out HMA.out).mono ?_; rintro e w4 ⟨rfl, hb4⟩; (have HR4 := Lib.hid (HRA.out.step (below_of_drew hb4)); have y0 := keepcell_drew hb4 x0; have y1 := keepcell_drew hb4 x1; have d0 := HR4.out.r0; have d1 := HR4.out.r1; have d2 := HR4.out.f0; have d3 := HR4.out.f1)))
      all_goals
        obtain ⟨k0, k1⟩ := told2 (u := .int .i64 (k : Int)) (v := .int .i64 z) d0 d1
        have HD := Lib.hid (HR4.out.done (.int .i64 (k : Int)) (.int .i64 z))
        go_wp2_with fail
        refine bodyPost_ret (v := .tuple #[.agg #[.int .i64 (k : Int), .int .i64 z], .bool false]) ?_ rfl ?_
        · simp [results, Tryd.results23, go_sem, k0, k1]
      exact ⟨k, z, by rw [HRD.out]; rfl, HD.out, fun p hp => by rw [HRD.out] at hp; cases hp⟩
end Go.Proofs.YtejhlenckdkonaaDoor

