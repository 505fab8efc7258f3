/- ring.left and ring.behind, by their contracts. -/
import Derived.Test.YthbofkhlbkdboaaRRow
namespace Go.Proofs.Ythbofkhlbkdboaa
open Go.RowKit
set_option linter.unusedVariables false

theorem made_r {w w1 w' : World} {v : Value} {n : Nat} {zs : List Int} {ty : TypeId} {base : Nat} (hb : Below w.heap.size w w1) (hown : w'.ownsRow base ty 1 v n (zs.map (Value.int .i64))) (hbase : w.heap.size ≤ base) (hb1 : Below w1.heap.size w1 w') : MadeR w zs (.returned v) w' := by
  obtain ⟨A, c, rfl, hr, hf⟩ := Row.of_own' hown
  exact ⟨A, n, c, rfl, hr, hf.mono hbase, hb.trans (hb1.mono hb.size)⟩
theorem own_base' {w : World} {b1 b2 n size : Nat} {e : TypeId} {v : Value} {xs : List Value} (h : w.ownsRow b1 e size v n xs) (hb : b2 ≤ b1) : w.ownsRow b2 e size v n xs := by
  refine ⟨h.1, ?_⟩
  rcases h.2 with h0 | ⟨g, cap, cur, e1, hg, h3⟩
  · exact .inl h0
  · exact .inr ⟨g, cap, cur, e1, Nat.le_trans hb hg, h3⟩
theorem below_none {w w' : World} (hg : w.grownBy w' none) : Below w.heap.size w w' := (Below.refl _ _).grown hg (Nat.le_refl _) (fun k hk => by cases hk)
theorem behind_any (A : Option Addr) (n c : Nat) (zs : List Int) (g : Int) (w : World) (h : Row w A n c zs) (hn : n ≤ 1000000) :
    Calls Try.prog 30 #[.slice A n c, .int .i64 g] w (MadeR w (zs ++ [g])) := by
  obtain ⟨i0, hi, hz0, hz1, hz2⟩ := info_parts info_int
  have h1 := h.cap
  have h2 := h.most
  have H := Lib.hid h
  clear h
  have hba := below_new w (.cells #[.int .i64 g] 3)
  have hone := one_cell w (.int .i64 g) 3
  go_enter Try.func30, Try.ntmps30
  go_wp2_with (at_builtin; refine wpList_append_grows _ rfl (.tmp 10) (.tmp 12) 22 rfl 3 i0 (.int .i64 0) 1 8 Try.underlying22 hi hz0 hz1 hz2 rfl (by decide) A n n (zs.map (Value.int .i64)) rfl ?c1 ?c2 ?c3 ⟨w.heap.size, 0, none⟩ 1 1 [.int .i64 g] rfl rfl hone ?c5 (by omega) ?c6 (by omega) ?_)
  case c1 => intro e; have := H.out.nil e; omega
  case c2 => rw [List.length_map, H.out.len]; omega
  case c3 => intro ad e; subst e; intro j u hj; obtain ⟨b, off, rfl⟩ : ∃ b off, ad = ⟨b, off, none⟩ := (by
      have hl : 0 < zs.length := by cases zs with | nil => cases hj | cons _ _ => simp
      obtain ⟨b, off, e, _⟩ := H.out.cells (by rw [← H.out.len]; exact hl)
      injection e with e
      exact ⟨b, off, e⟩); exact (H.out.below hba).icells j u hj
  case c5 => intro u hu; rw [List.mem_singleton] at hu; subst hu; rfl
  case c6 => unfold maxLen; omega
  intro v1 w1 hown hg
  rw [show zs.map (Value.int .i64) ++ [.int .i64 g] = (zs ++ [g]).map (Value.int .i64) by simp] at hown
  have HM := made_r hba hown (by simp) (below_none hg)
  clear hown hg hone
  go_wp2_with fail
  go_ret
  exact HM
theorem left_own (A : Option Addr) (n c : Nat) (zs : List Int) (k : Nat) (w : World) (h : Row w A n c zs) (hn : n ≤ 1000000) (hk : k ≤ n) :
    Calls Try.prog 29 #[.slice A n c, .int .i64 k] w (MadeO w (zs.drop k)) := by
  obtain ⟨i0, hi, hz0, hz1, hz2⟩ := info_parts info_int
  have h1 := h.cap
  have h2 := h.most
  by_cases hkn : k = n
  · subst hkn
    have e : zs.drop k = [] := List.drop_of_length_le (by rw [h.len]; exact Nat.le_refl _)
    rw [e]
    clear e h
    go_enter Try.func29, Try.ntmps29
    go_wp2_with fail
    go_ret
    exact ⟨_, 0, rfl, World.ownsRow_nil _ _ _ _, Below.refl _ _⟩
  · obtain ⟨b, off, rfl, hb, hc⟩ := h.cells (by omega)
    have t1 : ((k : Int) == (n : Int)) = false := by rw [beq_eq_false_iff_ne]; omega
    have t2 : (0 : Int) ≤ (k : Int) := by omega
    have t3 : (k : Int) ≤ (n : Int) := by omega
    have t4 : (k : Int) ≤ (c : Int) := by omega
    have t5 : ¬ c = k := by omega
    have hd := h.drop k hk
    have H := Lib.hid hd
    clear h hd hc
    go_enter Try.func29, Try.ntmps29
    go_wp2_with fail
    go_region_held3 (fun w' => True) (trivial) ((refine step_append_grows rfl (.tmp 13) (.tmp 16) 22 rfl 3 i0 (.int .i64 0) 1 8 Try.underlying22 hi hz0 hz1 hz2 rfl (by decide) _ 0 0 [] (by rfl) (by intro e; cases e) rfl (by intro ad e j u hj; cases hj) ⟨b, off + k, none⟩ (n - k) (c - k) ((zs.drop k).map (Value.int .i64)) (by rfl) (by rw [List.length_map, H.out.len]; omega) H.out.icells (icells_one _) (by omega) (by unfold maxLen; omega) (by omega) ?_; intro v1 w1 hown hg))
    rw [List.nil_append] at hown
    have HM : MadeO w (zs.drop k) (.returned v1) w1 := ⟨_, _, rfl, own_base' hown (Nat.le_refl _), below_of_drew (below_none (w := w.drew) hg)⟩
    clear hown hg
    go_wp2_with fail
    go_ret
    exact HM
theorem left_any (A : Option Addr) (n c : Nat) (zs : List Int) (k : Nat) (w : World) (h : Row w A n c zs) (hn : n ≤ 1000000) (hk : k ≤ n) :
    Calls Try.prog 29 #[.slice A n c, .int .i64 k] w (MadeR w (zs.drop k)) := (left_own A n c zs k w h hn hk).mono fun _ _ => MadeO.madeR
/-- The same, at a number that comes to k. -/
theorem left_at (A : Option Addr) (n c : Nat) (zs : List Int) (k : Nat) (z : Int) (w : World) (hz : z = k) (h : Row w A n c zs) (hn : n ≤ 1000000) (hk : k ≤ n) :
    Calls Try.prog 29 #[.slice A n c, .int .i64 z] w (MadeR w (zs.drop k)) := by
  subst hz
  exact left_any A n c zs k w h hn hk
end Go.Proofs.Ythbofkhlbkdboaa

