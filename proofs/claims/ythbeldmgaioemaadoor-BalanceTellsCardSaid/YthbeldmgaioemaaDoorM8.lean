/- Contracts and plain mathematics, put together by program (wip/merge.py) out of: EBare YTell ZOf ZOnes ZSet ZTz ZCnt. -/
import Derived.Test.YthbeldmgaioemaaDoorM7
import Derived.Test.YthbeldmgaioemaaDoorM6
import Derived.Test.YthbeldmgaioemaaDoorM0
import Derived.Test.YthbeldmgaioemaaDoorM5
import Derived.Laws.Bits128
/- Balanced with empty rings and all plugged; what stays, and who stands last: in plain mathematics. -/
namespace Go.Proofs.YthbeldmgaioemaaDoor.Jp
set_option linter.unusedVariables false

/-- The same tree, the same rows: all rings are empty, all are plugged. -/
def bare (r : Rn) : Rn := { made r.tree r.size with rows := r.rows }
theorem bare_new {r : Rn} (h : May r) : new r.tree r.size = (made r.tree r.size, 0) := by
  have h1 := h.low
  have h2 := h.high
  unfold new
  rw [if_neg (by rw [h.tree]; decide), if_neg (by omega)]
theorem bare_all (r : Rn) : all (bare r) = r.rows.flatten := by
  have h : ((bare r).rings.map Rp.all).flatten = [] := by
    rw [List.flatten_eq_nil_iff]
    intro l hl
    rw [show (bare r).rings = List.replicate (Dp.procs r.tree).length (0, []) from rfl, List.map_replicate] at hl
    rw [List.eq_of_mem_replicate hl]
    rfl
  unfold all
  rw [h, List.nil_append]
  rfl
theorem bare_may {r : Rn} (h : May r) : May (bare r) := by
  have h1 := h.low
  have h2 := h.high
  have m := made_may h.tree (by omega : ¬ r.size < 2) (by omega : ¬ 16 < r.size)
  have o : Rp.Once ((r.rings.map Rp.all).flatten ++ r.rows.flatten) := h.once
  exact ⟨m.tree, m.low, m.high, m.rings, h.rows, m.some, m.few, m.ring, by rw [bare_all]; exact ⟨fun x hx => o.1 x (List.mem_append_right _ hx), (List.nodup_append.1 o.2).2.1⟩⟩
theorem bare_bal {r : Rn} (h : May r) : bal (bare r) = ({ bare r with rows := (bal r).1.rows }, (bal r).2) := by
  rw [bal_may h, bal_may (bare_may h), balOn_is, balOn_is]
  rfl
/-- A row that is neither. -/
theorem bal_other {r : Rn} (h : May r) {m : Nat} (h1 : m ≠ long r.rows) (h2 : m ≠ short r.rows) : (bal r).1.rows[m]? = r.rows[m]? := by
  rw [bal_may h, balOn_is]
  exact even_other h1 h2
theorem bal_moved {r : Rn} (h : May r) : (bal r).2 = ((moved r.rows : Nat) : Int) := by rw [bal_may h, balOn_is]
theorem bal_rows {r : Rn} (h : May r) : (bal r).1.rows = even r.rows := by rw [bal_may h, balOn_is]
/-- Who is moved was last, and stands last. -/
theorem even_tail {rows : List (List Int)} (hne : rows ≠ []) {i : Nat} (hi : i < moved rows) :
    ((even rows)[short rows]?.getD [])[rlen (even rows) (short rows) - moved rows + i]? = (rows[long rows]?.getD [])[rlen rows (long rows) - moved rows + i]? := by
  have h := (even_lens hne (by omega)).2
  rw [h, even_short hne]
  simp only [Option.getD_some]
  rw [List.getElem?_append_right (by unfold rlen; omega), List.getElem?_drop]
  congr 1
  unfold rlen
  omega
theorem moved_le (rows : List (List Int)) : moved rows ≤ rlen rows (long rows) := by unfold moved; omega
theorem short_room {rows : List (List Int)} (hne : rows ≠ []) (h : moved rows ≠ 0) : moved rows ≤ rlen (even rows) (short rows) := by
  rw [(even_lens hne h).2]
  omega
end Go.Proofs.YthbeldmgaioemaaDoor.Jp
namespace Go.Proofs.YthbeldmgaioemaaDoor
theorem bare_low {r : Jp.Rn} (h : Low r) (hm : Jp.May r) : Low (Jp.bare r) := by
  have e : (Jp.bare r).rings = List.replicate (Dp.procs r.tree).length (0, []) := rfl
  refine ⟨by rw [e, List.length_replicate, ← hm.rings]; exact h.rings, h.rows, fun g hg => ?_, h.row, h.tree, ?_⟩
  · rw [e] at hg
    rw [List.eq_of_mem_replicate hg]
    exact Nat.zero_le _
  · have hf := h.fit
    refine fun z hz => hf z ?_
    rw [Jp.bare_all] at hz
    exact List.mem_append_right _ hz
end Go.Proofs.YthbeldmgaioemaaDoor


/- What a call leaves that tells Runs and two numbers. -/
namespace Go.Proofs.YthbeldmgaioemaaDoor
open Go.RowKit
set_option linter.unusedVariables false

theorem RM.rowAt2 {F : Nat → Prop} {w : World} {d : Ad} {r : Jp.Rn} (h : RM F w d r) {i : Nat} {x : List Int} (hx : r.rows[i]? = some x) :
    ∃ b off A n c, d.S = some ⟨b, off, none⟩ ∧ b < w.heap.size ∧ w.cell? ⟨b, off + i, none⟩ = some (.slice A n c) ∧ Row w A n c x ∧ (x ≠ [] → ∀ ad, A = some ad → F ad.block) := by
  obtain ⟨gs, h1, h2, h3⟩ := h.rows
  rw [h2, List.getElem?_map] at hx
  cases he : gs[i]? with
  | none => rw [he] at hx; cases hx
  | some e =>
    rw [he] at hx
    injection hx with hx
    subst hx
    obtain ⟨b, off, e1, hb, hc⟩ := h1.cell i e he
    exact ⟨b, off, e.A, e.n, e.c, e1, hb, by have := hc 0 _ rfl; rw [Nat.mul_one] at this; exact this, h1.rows e (List.mem_of_getElem? he), h3.2 e (List.mem_of_getElem? he)⟩
/-- What a call leaves that tells Runs and two numbers. -/
def TellJG (F : Nat → Prop) (w0 : World) (p : Jp.Rn × Int × Int) (e : Ending) (w' : World) : Prop := ∃ d, e = .returned (.tuple #[jv d p.1, .int .i64 p.2.1, .int .i64 p.2.2]) ∧ RM (More F w0) w' d p.1 ∧ Below w0.heap.size w0 w'
theorem TellJG.is {F : Nat → Prop} {w0 w' : World} {d : Ad} {r : Jp.Rn} {g k : Int} {p : Jp.Rn × Int × Int} (hp : p = (r, g, k)) (h : RM (More F w0) w' d r) (hb : Below w0.heap.size w0 w') : TellJG F w0 p (.returned (.tuple #[jv d r, .int .i64 g, .int .i64 k])) w' := by
  subst hp
  exact ⟨d, rfl, h, hb⟩
theorem far5 {w : World} {b i X : Nat} {u0 u1 u2 u3 u4 v : Value} (hne : b ≠ X) (h : w.cell? ⟨b, i, none⟩ = some v) : (((((w.setCell ⟨X, 0, none⟩ u0).setCell ⟨X, 1, none⟩ u1).setCell ⟨X, 2, none⟩ u2).setCell ⟨X, 3, none⟩ u3).setCell ⟨X, 4, none⟩ u4).cell? ⟨b, i, none⟩ = some v :=
  farcell hne (farcell hne (farcell hne (farcell hne (farcell hne h))))
end Go.Proofs.YthbeldmgaioemaaDoor


/- bits.Of by its contract: the bits of all numbers that can be members. -/
namespace Go.Proofs.YthbeldmgaioemaaDoor
open Go.RowKit
set_option linter.unusedVariables false

theorem wrap_pow (m : Nat) (h : m < 64) : IntKind.u64.wrap ((2 : Int) ^ m) = ((2 ^ m : Nat) : Int) := by
  have h1 : 2 ^ m < 18446744073709551616 := by have := Nat.pow_lt_pow_right (a := 2) (by decide) h; omega
  rw [IntKind.wrap_u64, show (2 : Int) ^ m = ((2 ^ m : Nat) : Int) by rw [Int.natCast_pow]; rfl, Int.emod_eq_of_lt (Int.natCast_nonneg _) (by generalize 2 ^ m = q at h1; omega)]
theorem or_one (s m : Nat) (hs : s < 18446744073709551616) (h : m < 64) : bits .or .u64 (s : Int) (IntKind.u64.wrap ((2 : Int) ^ m)) = ((s ||| Zp.one (m : Int) : Nat) : Int) := by
  have h1 : 2 ^ m < 18446744073709551616 := by have := Nat.pow_lt_pow_right (a := 2) (by decide) h; omega
  rw [wrap_pow m h, bits_or_u64_nat _ _ hs h1, show Zp.one (m : Int) = 2 ^ m by unfold Zp.one; rw [if_pos (by omega), Int.toNat_natCast]]
theorem of_any (A : Option Addr) (n c : Nat) (zs : List Int) (w : World) (h : Row w A n c zs) :
    Calls Tryd.prog 63 #[.slice A n c] w fun e w' => e = .returned (.int .u64 (Zp.ofL zs : Nat)) ∧ w' = w := by
  have h1 := h.cap
  have h2 := h.most
  have H := Lib.hid h
  clear h
  go_enter Tryd.func63, Tryd.ntmps63
  go_wp2
  go_loop [3, 8] (fun s i => ∃ k : Nat, k ≤ n ∧ i = .int .i64 k ∧ s = .int .u64 (Zp.ofL (zs.take k) : Nat))
    (fun _ i => n - (intOf i).toNat)
  case atStart => exact ⟨0, Nat.zero_le _, rfl, rfl⟩
  case round =>
    obtain ⟨k, hk, rfl, rfl⟩ := hrel
    by_cases hlt : k < n
    · obtain ⟨x, hx⟩ : ∃ x, zs[k]? = some x := ⟨_, List.getElem?_eq_getElem (by have := H.out.len; omega)⟩
      obtain ⟨b, off, hA, hbk, hc⟩ := H.out.row k x hx
      subst hA
      have hs : zs.take (k + 1) = zs.take k ++ [x] := by rw [List.take_add_one, hx]; rfl
      have HS := Lib.hid (show Zp.ofL (zs.take (k + 1)) = Zp.ofL (zs.take k) ||| Zp.one x by rw [hs, Zp.ofL_snoc])
      have hlt64 := Zp.ofL_lt (zs.take k)
      generalize Zp.ofL (zs.take k) = s at HS hlt64
      clear hx hs
      by_cases hx0 : 0 ≤ x
      · by_cases hx1 : x < 64
        · obtain ⟨m, rfl⟩ := Int.eq_ofNat_of_zero_le hx0
          have hm : m < 64 := by omega
          go_wp2
          go_round
          case rel =>
            refine ⟨k + 1, by omega, by go_num, ?_⟩
            rw [HS.out, or_one s m hlt64 hm]
          case measure => simp [intOf]; omega
        · go_wp2
          go_round
          case rel => exact ⟨k + 1, by omega, by go_num, by rw [HS.out, show Zp.one x = 0 from if_neg (by omega), Nat.or_zero]⟩
          case measure => simp [intOf]; omega
      · go_wp2
        go_round
        case rel => exact ⟨k + 1, by omega, by go_num, by rw [HS.out, show Zp.one x = 0 from if_neg (by omega), Nat.or_zero]⟩
        case measure => simp [intOf]; omega
    · go_wp2
      go_ret
      have e := H.out.len
      rw [List.take_of_length_le (by omega)]
      exact ⟨rfl, rfl⟩
end Go.Proofs.YthbeldmgaioemaaDoor


/- How many members a set has, in plain mathematics: the bits of a number of 64, added up in pairs, in fours, in bytes. -/
namespace Go.Proofs.YthbeldmgaioemaaDoor.Zp

def cnt (k x : Nat) : Nat := (memTo k x).length
theorem cnt_zero (x : Nat) : cnt 0 x = 0 := rfl
theorem cnt_succ (k x : Nat) : cnt (k + 1) x = cnt k x + x / 2 ^ k % 2 := by
  unfold cnt
  rw [memTo_succ, List.length_append]
  congr 1
  rw [Nat.testBit_eq_decide_div_mod_eq]
  by_cases h : x / 2 ^ k % 2 = 1
  · rw [decide_eq_true h, if_pos rfl, h]; rfl
  · rw [decide_eq_false h, if_neg (by simp), List.length_nil]; omega
theorem cnt_le (k x : Nat) : cnt k x ≤ k := memTo_len k x
theorem cnt_split (j x : Nat) : cnt (8 + j) x = cnt 8 (x % 256) + cnt j (x / 256) := by
  induction j with
  | zero =>
    rw [cnt_zero, Nat.add_zero, Nat.add_zero]
    unfold cnt memTo bitsTo
    rw [show (List.range 8).filter (fun i => x.testBit i) = (List.range 8).filter (fun i => (x % 256).testBit i) from List.filter_congr fun i hi => by
      have := List.mem_range.1 hi
      rw [show (256 : Nat) = 2 ^ 8 from rfl, Nat.testBit_mod_two_pow, decide_eq_true this, Bool.true_and]]
  | succ j ih =>
    rw [← Nat.add_assoc, cnt_succ (8 + j), ih, cnt_succ j, Nat.add_assoc]
    have e : x / 2 ^ (8 + j) = x / 256 / 2 ^ j := by rw [Nat.pow_add, ← Nat.div_div_eq_div_mul]
    rw [e]
def g1 (b : Nat) : Nat := (b / 2 &&& 85) + (b &&& 85)
def g2 (c : Nat) : Nat := (c / 4 &&& 51) + (c &&& 51)
def g3 (c : Nat) : Nat := (c / 16 + c) &&& 15
theorem byte_ok : ∀ b, b < 256 → g1 b < 256 ∧ g2 (g1 b) < 256 ∧ g2 (g1 b) % 16 ≤ 4 ∧ g2 (g1 b) / 16 ≤ 4 ∧ g3 (g2 (g1 b)) = cnt 8 b := by decide +kernel
theorem lo85 : ∀ e, e < 2 → ∀ c, c < 128 → (128 * e + c) &&& 85 = c &&& 85 := by decide +kernel
theorem lo51 : ∀ e, e < 4 → ∀ c, c < 64 → (64 * e + c) &&& 51 = c &&& 51 := by decide +kernel
theorem lo15 (e c : Nat) : (16 * e + c) &&& 15 = c &&& 15 := by
  rw [show (15 : Nat) = 2 ^ 4 - 1 from rfl, Nat.and_two_pow_sub_one_eq_mod, Nat.and_two_pow_sub_one_eq_mod]; omega
def mk (d : Nat) : Nat → Nat
  | 0 => 0
  | k + 1 => 256 * mk d k + d
theorem mk_succ (d k : Nat) : mk d (k + 1) = 256 * mk d k + d := rfl
theorem mk85 : mk 85 8 = 6148914691236517205 := by decide +kernel
theorem mk51 : mk 51 8 = 3689348814741910323 := by decide +kernel
theorem mk15 : mk 15 8 = 1085102592571150095 := by decide +kernel
theorem and256 (a b c d : Nat) (hb : b < 256) (hd : d < 256) : (256 * a + b) &&& (256 * c + d) = 256 * (a &&& c) + (b &&& d) := by
  have h1 := Nat.and_div_two_pow (a := 256 * a + b) (b := 256 * c + d) (n := 8)
  have h2 := Nat.and_mod_two_pow (a := 256 * a + b) (b := 256 * c + d) (n := 8)
  have h3 := Nat.div_add_mod ((256 * a + b) &&& (256 * c + d)) 256
  rw [show (2 : Nat) ^ 8 = 256 from rfl] at h1 h2
  rw [show (256 * a + b) / 256 = a by omega, show (256 * c + d) / 256 = c by omega] at h1
  rw [show (256 * a + b) % 256 = b by omega, show (256 * c + d) % 256 = d by omega] at h2
  rw [← h3, h1, h2]
def Y1 (k x : Nat) : Nat := (x / 2 &&& mk 85 k) + (x &&& mk 85 k)
def Y2 (k x : Nat) : Nat := (x / 4 &&& mk 51 k) + (x &&& mk 51 k)
def Y3 (k x : Nat) : Nat := (x / 16 + x) &&& mk 15 k
theorem Y1_succ (k x b : Nat) (hb : b < 256) : Y1 (k + 1) (256 * x + b) = 256 * Y1 k x + g1 b := by
  unfold Y1 g1
  rw [mk_succ, show (256 * x + b) / 2 = 256 * (x / 2) + (128 * (x % 2) + b / 2) by omega, and256 _ _ _ _ (by omega) (by omega), and256 _ _ _ _ hb (by omega), lo85 _ (by omega) _ (by omega)]
  omega
theorem Y2_succ (k x b : Nat) (hb : b < 256) : Y2 (k + 1) (256 * x + b) = 256 * Y2 k x + g2 b := by
  unfold Y2 g2
  rw [mk_succ, show (256 * x + b) / 4 = 256 * (x / 4) + (64 * (x % 4) + b / 4) by omega, and256 _ _ _ _ (by omega) (by omega), and256 _ _ _ _ hb (by omega), lo51 _ (by omega) _ (by omega)]
  omega
theorem Y3_succ (k x b : Nat) (hx : x % 16 ≤ 4) (h1 : b % 16 ≤ 4) (h2 : b / 16 ≤ 4) : Y3 (k + 1) (256 * x + b) = 256 * Y3 k x + g3 b := by
  unfold Y3 g3
  rw [mk_succ, show (256 * x + b) / 16 + (256 * x + b) = 256 * (x / 16 + x) + (16 * (x % 16) + (b / 16 + b)) by omega, and256 _ _ _ _ (by omega) (by omega), lo15]
theorem Y2_low (k x : Nat) : Y2 k (Y1 k x) % 16 ≤ 4 := by
  cases k with
  | zero => simp [Y2, mk]
  | succ k =>
    obtain ⟨h1, h2, h3, _⟩ := byte_ok (x % 256) (by omega)
    rw [show Y1 (k + 1) x = 256 * Y1 k (x / 256) + g1 (x % 256) by rw [← Y1_succ _ _ _ (by omega)]; congr 1; omega, Y2_succ _ _ _ h1]
    omega
def S (k x : Nat) : Nat := Y3 k (Y2 k (Y1 k x))
theorem S_succ (k x : Nat) : S (k + 1) x = 256 * S k (x / 256) + cnt 8 (x % 256) := by
  obtain ⟨h1, h2, h3, h4, h5⟩ := byte_ok (x % 256) (by omega)
  unfold S
  rw [show Y1 (k + 1) x = 256 * Y1 k (x / 256) + g1 (x % 256) by rw [← Y1_succ _ _ _ (by omega)]; congr 1; omega, Y2_succ _ _ _ h1, Y3_succ _ _ _ (Y2_low _ _) h3 h4, h5]
theorem S_zero (x : Nat) : S 0 x = 0 := by simp [S, Y3, mk]
theorem fold_up (c0 c1 c2 c3 c4 c5 c6 c7 y3 y4 y5 y6 : Nat) (h0 : c0 ≤ 8) (h1 : c1 ≤ 8) (h2 : c2 ≤ 8) (h3 : c3 ≤ 8) (h4 : c4 ≤ 8) (h5 : c5 ≤ 8) (h6 : c6 ≤ 8) (h7 : c7 ≤ 8)
    (e3 : y3 = 256 * (256 * (256 * (256 * (256 * (256 * (256 * c7 + c6) + c5) + c4) + c3) + c2) + c1) + c0) (e4 : y4 = y3 + y3 / 256) (e5 : y5 = y4 + y4 / 65536) (e6 : y6 = y5 + y5 / 4294967296) :
    y6 % 128 = c0 + c1 + c2 + c3 + c4 + c5 + c6 + c7 ∧ y6 < 9223372036854775808 := by
  have d4 : y4 = 256 * (256 * (256 * (256 * (256 * (256 * (256 * c7 + (c6 + c7)) + (c5 + c6)) + (c4 + c5)) + (c3 + c4)) + (c2 + c3)) + (c1 + c2)) + (c0 + c1) := by omega
  have d5 : y5 = 256 * (256 * (256 * (256 * (256 * (256 * (256 * c7 + (c6 + c7)) + (c5 + c6 + c7)) + (c4 + c5 + c6 + c7)) + (c3 + c4 + c5 + c6)) + (c2 + c3 + c4 + c5)) + (c1 + c2 + c3 + c4)) + (c0 + c1 + c2 + c3) := by clear e3; omega
  clear e3 e4 d4 e5
  have q : y5 / 4294967296 = 256 * (256 * (256 * c7 + (c6 + c7)) + (c5 + c6 + c7)) + (c4 + c5 + c6 + c7) := by omega
  rw [q] at e6
  clear q
  have d6 : y6 = 256 * (256 * (256 * (256 * (256 * (256 * (256 * c7 + (c6 + c7)) + (c5 + c6 + c7)) + (c4 + c5 + c6 + c7)) + (c3 + c4 + c5 + c6 + c7)) + (c2 + c3 + c4 + c5 + c6 + c7)) + (c1 + c2 + c3 + c4 + c5 + c6 + c7)) + (c0 + c1 + c2 + c3 + c4 + c5 + c6 + c7) := by omega
  clear e6 d5
  omega
/-- The bits of a number of 64, by the steps of the library's text. -/
theorem ones_up (x y1 y2 y3 y4 y5 y6 : Nat) (e1 : y1 = (x / 2 &&& 6148914691236517205) + (x &&& 6148914691236517205)) (e2 : y2 = (y1 / 4 &&& 3689348814741910323) + (y1 &&& 3689348814741910323))
    (e3 : y3 = (y2 / 16 + y2) &&& 1085102592571150095) (e4 : y4 = y3 + y3 / 256) (e5 : y5 = y4 + y4 / 65536) (e6 : y6 = y5 + y5 / 4294967296) :
    y6 % 128 = (mem x).length ∧ y6 < 9223372036854775808 := by
  have hS : y3 = S 8 x := by
    unfold S Y3 Y2 Y1
    rw [mk85, mk51, mk15, e3, e2, e1]
  have hc : (mem x).length = cnt 64 x := rfl
  rw [hc, show cnt 64 x = cnt 8 (x % 256) + cnt 56 (x / 256) from cnt_split 56 x, show ∀ x, cnt 56 x = cnt 8 (x % 256) + cnt 48 (x / 256) from cnt_split 48, show ∀ x, cnt 48 x = cnt 8 (x % 256) + cnt 40 (x / 256) from cnt_split 40,
    show ∀ x, cnt 40 x = cnt 8 (x % 256) + cnt 32 (x / 256) from cnt_split 32, show ∀ x, cnt 32 x = cnt 8 (x % 256) + cnt 24 (x / 256) from cnt_split 24, show ∀ x, cnt 24 x = cnt 8 (x % 256) + cnt 16 (x / 256) from cnt_split 16,
    show ∀ x, cnt 16 x = cnt 8 (x % 256) + cnt 8 (x / 256) from cnt_split 8, show ∀ x, cnt 8 (x / 256) = cnt 8 (x / 256 % 256) + cnt 0 (x / 256 / 256) from fun x => cnt_split 0 _, cnt_zero]
  rw [S_succ 7, S_succ 6, S_succ 5, S_succ 4, S_succ 3, S_succ 2, S_succ 1, S_succ 0, S_zero, Nat.mul_zero, Nat.zero_add] at hS
  have r := fold_up _ _ _ _ _ _ _ _ y3 y4 y5 y6 (cnt_le 8 _) (cnt_le 8 _) (cnt_le 8 _) (cnt_le 8 _) (cnt_le 8 _) (cnt_le 8 _) (cnt_le 8 _) (cnt_le 8 _) hS e4 e5 e6
  clear hS e1 e2 e3 e4 e5 e6 hc
  omega
theorem y_bounds (x y1 y2 y3 : Nat) (e1 : y1 = (x / 2 &&& 6148914691236517205) + (x &&& 6148914691236517205)) (e2 : y2 = (y1 / 4 &&& 3689348814741910323) + (y1 &&& 3689348814741910323)) (e3 : y3 = (y2 / 16 + y2) &&& 1085102592571150095) :
    y1 ≤ 12297829382473034410 ∧ y2 ≤ 7378697629483820646 ∧ y3 ≤ 1085102592571150095 := by
  have a1 := Nat.and_le_right (n := x / 2) (m := 6148914691236517205)
  have a2 := Nat.and_le_right (n := x) (m := 6148914691236517205)
  have a3 := Nat.and_le_right (n := y1 / 4) (m := 3689348814741910323)
  have a4 := Nat.and_le_right (n := y1) (m := 3689348814741910323)
  have a5 := Nat.and_le_right (n := y2 / 16 + y2) (m := 1085102592571150095)
  refine ⟨?_, ?_, ?_⟩
  · rw [e1]; exact Nat.le_trans (Nat.add_le_add a1 a2) (by decide)
  · rw [e2]; exact Nat.le_trans (Nat.add_le_add a3 a4) (by decide)
  · rw [e3]; exact a5
/-! Joined, and one more. -/
theorem cnt_joins (a b : Nat) : ∀ k, cnt k (a ||| b) + cnt k (a &&& b) = cnt k a + cnt k b := by
  intro k
  unfold cnt
  induction k with
  | zero => rfl
  | succ k ih =>
    simp only [memTo_succ, List.length_append, Nat.testBit_or, Nat.testBit_and]
    cases a.testBit k <;> cases b.testBit k <;> simp <;> omega
theorem cnt_wth (x : Nat) (n : Int) : ∀ k, cnt k (wth x n) = cnt k x + if 0 ≤ n ∧ n < k ∧ n < 64 ∧ x.testBit n.toNat = false then 1 else 0 := by
  intro k
  unfold cnt
  induction k with
  | zero => rw [if_neg (by omega)]; rfl
  | succ k ih =>
    simp only [memTo_succ, List.length_append, wth_bit, ih]
    by_cases hk : (k : Int) = n
    · subst hk
      rw [if_neg (by omega)]
      by_cases h64 : k < 64
      · cases h : x.testBit k
        · simp [h64, h]; omega
        · simp [h64, h]
      · rw [if_neg (c := 0 ≤ (k : Int) ∧ _) (by omega)]
        simp [h64]
    · have e : (0 ≤ n ∧ n < ((k + 1 : Nat) : Int) ∧ n < 64 ∧ x.testBit n.toNat = false) ↔ (0 ≤ n ∧ n < (k : Int) ∧ n < 64 ∧ x.testBit n.toNat = false) := by
        constructor
        · rintro ⟨h1, h2, h3⟩; exact ⟨h1, by omega, h3⟩
        · rintro ⟨h1, h2, h3⟩; exact ⟨h1, by omega, h3⟩
      simp only [e, hk, false_and, decide_false, Bool.or_false]
      omega
theorem len_wth (x : Nat) (n : Int) : (mem (wth x n)).length = (mem x).length + if 0 ≤ n ∧ n < 64 ∧ has x n = false then 1 else 0 := by
  have h := cnt_wth x n 64
  unfold cnt at h
  unfold mem
  rw [h]
  congr 1
  have e : (0 ≤ n ∧ n < ((64 : Nat) : Int) ∧ n < 64 ∧ x.testBit n.toNat = false) ↔ (0 ≤ n ∧ n < 64 ∧ has x n = false) := by
    constructor
    · rintro ⟨h1, h2, h3, h4⟩
      obtain ⟨k, rfl⟩ := Int.eq_ofNat_of_zero_le h1
      refine ⟨h1, h3, ?_⟩
      rw [has_bit]; rw [Int.toNat_natCast] at h4; rw [h4]; simp
    · rintro ⟨h1, h2, h3⟩
      obtain ⟨k, rfl⟩ := Int.eq_ofNat_of_zero_le h1
      rw [has_bit] at h3
      refine ⟨h1, h2, h2, ?_⟩
      rw [Int.toNat_natCast]
      have : k < 64 := by omega
      simpa [this] using h3
  simp only [e]
theorem len_joins (a b : Nat) : (mem (a ||| b)).length + (mem (a &&& b)).length = (mem a).length + (mem b).length := cnt_joins a b 64
end Go.Proofs.YthbeldmgaioemaaDoor.Zp


/- Has, With, Without, from by their contracts. -/
namespace Go.Proofs.YthbeldmgaioemaaDoor
open Go.RowKit
set_option linter.unusedVariables false

theorem andnot_one (s : Nat) (n : Int) (hs : s < 18446744073709551616) : bits .andNot .u64 (s : Int) (Zp.one n : Nat) = ((Zp.wout s n : Nat) : Int) := by
  rw [u64_andNot_nat _ _ hs (Zp.one_lt n)]; rfl
theorem has_and (s : Nat) (n : Int) (hs : s < 18446744073709551616) : (bits .and .u64 (s : Int) (Zp.one n : Nat) != 0) = Zp.has s n := by
  rw [bits_and_u64_nat _ _ hs (Zp.one_lt n)]
  unfold Zp.has
  rw [Bool.eq_iff_iff, bne_iff_ne, decide_eq_true_eq]
  omega
theorem shifted (s m : Nat) (hs : s < 18446744073709551616) : IntKind.u64.wrap ((s : Int) / 2 ^ m * 2 ^ m) = ((s / 2 ^ m * 2 ^ m : Nat) : Int) := by
  have h1 : s / 2 ^ m * 2 ^ m < 18446744073709551616 := Nat.lt_of_le_of_lt (Nat.div_mul_le_self _ _) hs
  rw [IntKind.wrap_u64, show (s : Int) / 2 ^ m * 2 ^ m = ((s / 2 ^ m * 2 ^ m : Nat) : Int) by rw [Int.natCast_mul, Int.natCast_ediv, Int.natCast_pow]; rfl, Int.emod_eq_of_lt (Int.natCast_nonneg _) (by generalize s / 2 ^ m * 2 ^ m = q at h1; omega)]
theorem has_any (s : Nat) (n : Int) (w : World) (hs : s < 18446744073709551616) :
    Calls Tryd.prog 59 #[.int .u64 s, .int .i64 n] w fun e w' => e = .returned (.bool (Zp.has s n)) ∧ Below w.heap.size w w' := by
  have HR := Lib.hid (row_lit w [n] (by simp))
  have HB := Lib.hid (below_new w (.cells #[.int .i64 n] 3))
  go_enter Tryd.func59, Tryd.ntmps59
  go_wp2_with fail
  refine (of_any _ 1 1 [n] _ HR.out).mono ?_
  rintro e w1 ⟨rfl, rfl⟩
  rw [Zp.ofL_one]
  go_wp2_with fail
  go_ret
  refine ⟨?_, HB.out⟩
  rw [has_and _ _ hs]; rfl
theorem with_any (s : Nat) (n : Int) (w : World) (hs : s < 18446744073709551616) :
    Calls Tryd.prog 46 #[.int .u64 s, .int .i64 n] w fun e w' => e = .returned (.int .u64 (Zp.wth s n : Nat)) ∧ Below w.heap.size w w' := by
  have HR := Lib.hid (row_lit w [n] (by simp))
  have HB := Lib.hid (below_new w (.cells #[.int .i64 n] 3))
  go_enter Tryd.func46, Tryd.ntmps46
  go_wp2_with fail
  refine (of_any _ 1 1 [n] _ HR.out).mono ?_
  rintro e w1 ⟨rfl, rfl⟩
  rw [Zp.ofL_one]
  go_wp2_with fail
  go_ret
  refine ⟨?_, HB.out⟩
  rw [bits_or_u64_nat _ _ hs (Zp.one_lt n)]; rfl
theorem without_any (s : Nat) (n : Int) (w : World) (hs : s < 18446744073709551616) :
    Calls Tryd.prog 66 #[.int .u64 s, .int .i64 n] w fun e w' => e = .returned (.int .u64 (Zp.wout s n : Nat)) ∧ Below w.heap.size w w' := by
  have HR := Lib.hid (row_lit w [n] (by simp))
  have HB := Lib.hid (below_new w (.cells #[.int .i64 n] 3))
  go_enter Tryd.func66, Tryd.ntmps66
  go_wp2_with fail
  refine (of_any _ 1 1 [n] _ HR.out).mono ?_
  rintro e w1 ⟨rfl, rfl⟩
  rw [Zp.ofL_one]
  go_wp2_with fail
  go_ret
  refine ⟨?_, HB.out⟩
  rw [andnot_one _ _ hs]; rfl
end Go.Proofs.YthbeldmgaioemaaDoor


/- The library's TrailingZeros64 and OnesCount64 by their contracts; least, Count, Next. -/
namespace Go.Proofs.YthbeldmgaioemaaDoor
open Go.RowKit
set_option linter.unusedVariables false

/-- The library's table, as its initialiser lays it. -/
def Tab (w : World) : Prop := ∀ j, j < 64 → w.cell? ⟨0, j, none⟩ = some (.int .u8 (Lib.deBruijn64tab.getD j 0 : Nat))
theorem Tab.lt {w : World} (h : Tab w) : 0 < w.heap.size := World.block_lt_of_cell? _ _ (h 0 (by decide))
theorem Tab.step {w w' : World} (h : Tab w) (hb : Below w.heap.size w w') : Tab w' := fun j hj => keepcell hb (h j hj)
set_option maxHeartbeats 1000000 in
theorem tz_core (x k idx : Nat) (w : World) (hx0 : ((x : Int) == 0) = false)
    (key : IntKind.u64.wrap (bits BinOp.and IntKind.u64 (x : Int) (IntKind.u64.wrap (-(x : Int))) * 285870213051353865) / 288230376151711744 = (idx : Int))
    (hi : idx < 64) (hk : k < 64) (hcell : w.cell? ⟨0, idx, none⟩ = some (.int .u8 k)) :
    Calls Tryd.prog 71 #[.int .u64 x] w fun e w' => e = .returned (.int .i64 k) ∧ w' = w := by
  go_enter Tryd.func71, Tryd.ntmps71
  go_wp2_with (simp only [key])
  go_ret
  exact ⟨rfl, rfl⟩
theorem tz_key (x a : Nat) (hx : x < 18446744073709551616) (hx0 : x ≠ 0) (hlow : x &&& (18446744073709551616 - x) = a) :
    IntKind.u64.wrap (bits BinOp.and IntKind.u64 (x : Int) (IntKind.u64.wrap (-(x : Int))) * 285870213051353865) / 288230376151711744 = ((a * 285870213051353865 % 18446744073709551616 / 288230376151711744 : Nat) : Int) := by
  have e1 : IntKind.u64.wrap (-(x : Int)) = ((18446744073709551616 - x : Nat) : Int) := by rw [IntKind.wrap_u64]; omega
  rw [e1, bits_and_u64_nat x _ hx (by omega), hlow, IntKind.wrap_u64]
  omega
/-- The least member of a set that has one. -/
theorem tz_any (x : Nat) (w : World) (hx : x < 18446744073709551616) (hx0 : x ≠ 0) (hT : Tab w) :
    Calls Tryd.prog 71 #[.int .u64 x] w fun e w' => e = .returned (.int .i64 (Lib.ctz 64 x : Nat)) ∧ w' = w := by
  obtain ⟨hlow, hk⟩ := Lib.lowest_bit 64 x hx0 hx
  obtain ⟨hi, htab⟩ := Lib.deBruijn64_at _ hk
  have hcell := hT _ hi
  rw [htab] at hcell
  exact tz_core x _ _ w (by simp; omega) (tz_key x _ hx hx0 hlow) hi hk hcell
theorem least_any (x : Nat) (w : World) (hx : x < 18446744073709551616) (hx0 : x ≠ 0) (hT : Tab w) :
    Calls Tryd.prog 65 #[.int .u64 x] w fun e w' => e = .returned (.int .i64 (Lib.ctz 64 x : Nat)) ∧ w' = w := by
  go_enter Tryd.func65, Tryd.ntmps65
  go_wp2_with fail
  refine (tz_any x _ hx hx0 hT).mono ?_
  rintro e w1 ⟨rfl, rfl⟩
  go_wp2_with fail
  go_ret
  exact ⟨rfl, rfl⟩
end Go.Proofs.YthbeldmgaioemaaDoor


/- The library's OnesCount64 by its contract; Count. -/
namespace Go.Proofs.YthbeldmgaioemaaDoor
open Go.RowKit
set_option linter.unusedVariables false

theorem and_lit (a m : Nat) (ha : a < 18446744073709551616) (hm : m < 18446744073709551616) (z t : Int) (hz : z = (a : Int)) (ht : t = (m : Int)) : bits .and .u64 z t = ((a &&& m : Nat) : Int) := by
  subst hz ht; exact bits_and_u64_nat a m ha hm
theorem wrap_nat (a : Nat) (ha : a < 18446744073709551616) (z : Int) (hz : z = (a : Int)) : IntKind.u64.wrap z = (a : Int) := by
  subst hz; rw [IntKind.wrap_u64]; omega
theorem wrap_small (y : Nat) (h : y < 9223372036854775808) : wrap64 (y : Int) = (y : Int) := by
  have h1 : (0 : Int) ≤ (y : Int) + 9223372036854775808 := by omega
  have h2 : (y : Int) + 9223372036854775808 < 18446744073709551616 := by omega
  unfold wrap64
  rw [Int.emod_eq_of_lt h1 h2, Int.add_sub_cancel]
end Go.Proofs.YthbeldmgaioemaaDoor

