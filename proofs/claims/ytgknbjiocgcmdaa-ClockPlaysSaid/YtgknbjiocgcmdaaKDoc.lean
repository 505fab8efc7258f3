/- A clock, and the document's clock beside it in a variable. -/
import Derived.Test.YtgknbjiocgcmdaaKTw
import Derived.Test.YtgknbjiocgcmdaaKRefTick
import Derived.Test.YtgknbjiocgcmdaaKRefSleep
namespace Go.Proofs.Ytgknbjiocgcmdaa
open Go.RowKit
set_option linter.unusedVariables false

/-- The document's clock in block X, its row elsewhere than what F holds of. -/
structure Xd (w : World) (F : Nat → Prop) (X : Nat) (now : Int) (S : List Kp.On) (A : Option Addr) (n c : Nat) : Prop where
  cel : Cel2 w X (.int .i64 now) (.slice A n c)
  row : PR w A n c S
  hX : ¬ F X
  hA : ∀ ad, A = some ad → ¬ F ad.block ∧ ad.block ≠ X ∧ ad.block < w.heap.size
theorem Xd.step {w w' : World} {F : Nat → Prop} {X n c : Nat} {now : Int} {S : List Kp.On} {A : Option Addr} (h : Xd w F X now S A n c) (hb : Below w.heap.size w w') : Xd w' F X now S A n c :=
  ⟨h.cel.step hb, h.row.below hb, h.hX, fun ad e => by have h1 := h.hA ad e; have h2 := hb.size; exact ⟨h1.1, h1.2.1, by omega⟩⟩
theorem PR.kept {F : Nat → Prop} {w w' : World} {A : Option Addr} {n c : Nat} {zs : List (Int × Int)} (h : PR w A n c zs) (hk : Kept F w w') (hn : ∀ ad, A = some ad → ¬ F ad.block) : PR w' A n c zs := by
  refine ⟨h.len, h.cap, h.most, h.nil, fun i z hi => ?_⟩
  obtain ⟨b, off, e, hlt, h0, h1⟩ := h.row i z hi
  exact ⟨b, off, e, Nat.lt_of_lt_of_le hlt hk.size, hk.cell h0 (show ¬ F b from hn _ e), hk.cell h1 (show ¬ F b from hn _ e)⟩
theorem Cel2.kept {F : Nat → Prop} {w w' : World} {b : Nat} {x y : Value} (h : Cel2 w b x y) (hk : Kept F w w') (hn : ¬ F b) : Cel2 w' b x y := ⟨hk.cell h.c0 hn, hk.cell h.c1 hn, hk.free h.c0 hn h.f0, hk.free h.c1 hn h.f1⟩
/-- The clock is turned; the document's stays. -/
theorem Xd.turned {w w' : World} {F F' : Nat → Prop} {X n c : Nat} {now : Int} {S : List Kp.On} {A : Option Addr} (h : Xd w F X now S A n c) (ht : Turned F F' w w') : Xd w' F' X now S A n c := by
  have hl := h.cel.lt
  refine ⟨h.cel.kept ht.1 h.hX, h.row.kept ht.1 (fun ad e => (h.hA ad e).1), fun f => (ht.2 X f).elim h.hX (fun e => by omega), fun ad e => ?_⟩
  have h1 := h.hA ad e
  exact ⟨fun f => (ht.2 _ f).elim h1.1 (fun e => by omega), h1.2.1, Nat.lt_of_lt_of_le h1.2.2 ht.1.size⟩
/-- Both. -/
structure Pl (w0 w : World) (b : Nat) (F : Nat → Prop) (now : Int) (S : List Kp.On) (m X : Nat) (A : Option Addr) (n c : Nat) : Prop where
  co : Co w0 w b F now S m
  xd : Xd w F X now S A n c
  ge : w0.heap.size ≤ X
theorem Pl.step {w0 w w' : World} {b m X n c : Nat} {F : Nat → Prop} {now : Int} {S : List Kp.On} {A : Option Addr} (h : Pl w0 w b F now S m X A n c) (hb : Below w.heap.size w w') : Pl w0 w' b F now S m X A n c := ⟨h.co.step hb, h.xd.step hb, h.ge⟩
theorem Pl.new {w0 w : World} {b X : Nat} (h : Below w0.heap.size w0 w) (hb : w.heap.size = b) (hX : w.heap.size + 1 = X) : Pl w0 ((w.alloc (.cells #[.slice none 0 0, .int .i64 0, .int .i64 0] 29)).alloc (.cells #[.int .i64 0, .slice none 0 0] 32)) b (fun k => k = b) 0 [] 0 X none 0 0 := by
  have hs : (w.alloc (.cells #[.slice none 0 0, .int .i64 0, .int .i64 0] 29)).heap.size = X := by rw [← hX]; simp
  have hc := Cel2.new (w.alloc (.cells #[.slice none 0 0, .int .i64 0, .int .i64 0] 29)) (.int .i64 0) (.slice none 0 0) 32
  rw [hs] at hc
  have := h.size
  exact ⟨(Co.new h hb).step (below_new _ _), ⟨hc, PR.nothing _, by omega, fun ad e => by cases e⟩, by omega⟩
theorem Co.more {w0 w : World} {b : Nat} {F : Nat → Prop} {now : Int} {S : List Kp.On} {m : Nat} (h : Co w0 w b F now S m) (hm : m + 1 ≤ 100000) : Co w0 w b F now S (m + 1) := ⟨h.ck.more (Nat.le_succ m) hm, h.ge, h.below⟩
theorem co_now_below {w0 w : World} {b : Nat} {F : Nat → Prop} {now : Int} {S : List Kp.On} {m : Nat} (h : Co w0 w b F now S m) :
    Calls Try.prog 17 #[.pointer (some ⟨b, 0, none⟩)] w fun e w' => e = .returned (.int .i64 now) ∧ Below w.heap.size w w' := (co_now h).mono fun e w' h => ⟨h.1, by rw [h.2]; exact Below.refl _ _⟩
/-- The document's answer is put into its variable. -/
theorem Pl.put {w0 w2 w3 : World} {b m X n c n' c' Y : Nat} {F : Nat → Prop} {now now' : Int} {S S' : List Kp.On} {A A' : Option Addr} (hc : Co w0 w2 b F now' S' m) (hx : Xd w2 F X now S A n c) (hg : w0.heap.size ≤ X) (hb : Below w2.heap.size w2 w3)
    (hr : PR w3 A' n' c' S') (hn : A' = A ∨ New w2 w3 A') (hY : Y = w3.heap.size) :
    (Cel2 (w3.alloc (.cells #[.int .i64 now', .slice A' n' c'] 32)) Y (.int .i64 now') (.slice A' n' c') ∧ Cel2 (w3.alloc (.cells #[.int .i64 now', .slice A' n' c'] 32)) X (.int .i64 now) (.slice A n c)) ∧
    Pl w0 (((w3.alloc (.cells #[.int .i64 now', .slice A' n' c'] 32)).setCell ⟨X, 0, none⟩ (.int .i64 now')).setCell ⟨X, 1, none⟩ (.slice A' n' c')) b F now' S' m X A' n' c' := by
  subst hY
  have hb4 := below_new w3 (.cells #[.int .i64 now', .slice A' n' c'] 32)
  have hb24 := hb.trans (hb4.mono hb.size)
  have x4 := hx.step hb24
  have c4 := hc.step hb24
  have hlX := hx.cel.lt
  have hA : ∀ ad, A' = some ad → ¬ F ad.block ∧ ad.block ≠ X ∧ ad.block < w3.heap.size := fun ad e => by
    rcases hn with rfl | hn
    · have := hx.hA ad e
      exact ⟨this.1, this.2.1, Nat.lt_of_lt_of_le this.2.2 hb.size⟩
    · have h1 := hn ad e
      exact ⟨fun f => by have := hc.ck.lt _ f; omega, by omega, h1.2⟩
  generalize hW : w3.alloc (.cells #[.int .i64 now', .slice A' n' c'] 32) = W at *
  have hs : W.heap.size = w3.heap.size + 1 := by rw [← hW]; simp
  refine ⟨⟨by rw [← hW]; exact Cel2.new w3 _ _ _, x4.cel⟩, ?_, ⟨x4.cel.put _ _, ((hr.below hb4).far (fun ad e => (hA ad e).2.1)).far (fun ad e => (hA ad e).2.1), x4.hX, fun ad e => ?_⟩, hg⟩
  · have hk : Kept (fun k => k = X) W ((W.setCell ⟨X, 0, none⟩ (.int .i64 now')).setCell ⟨X, 1, none⟩ (.slice A' n' c')) := ((Kept.refl (fun k => k = X) W).setCell ⟨X, 0, none⟩ rfl _).setCell ⟨X, 1, none⟩ rfl _
    exact c4.kept hk (fun k e => by subst e; exact hg) (fun j f e => by subst e; exact x4.hX f)
  · have h1 := hA ad e
    refine ⟨h1.1, h1.2.1, ?_⟩
    simp [World.setCell]
    omega
end Go.Proofs.Ytgknbjiocgcmdaa

