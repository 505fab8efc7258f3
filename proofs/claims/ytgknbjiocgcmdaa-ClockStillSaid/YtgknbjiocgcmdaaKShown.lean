/- A clock that a law makes for itself; the document's example at the head of all statements: it is as shown; clocks on which some sleep. -/
import Derived.Test.YtgknbjiocgcmdaaKSleep
import Derived.Test.YtgknbjiocgcmdaaBFrame
namespace Go.Proofs.Ytgknbjiocgcmdaa
open Go.RowKit
set_option linter.unusedVariables false

theorem Ck.new (w : World) : Ck (w.alloc (.cells #[.slice none 0 0, .int .i64 0, .int .i64 0] 29)) w.heap.size (fun k => k = w.heap.size) 0 [] 0 := by
  refine ⟨⟨[], 0, ⟨⟨none, 0, ?_, World.ownsRow_nil _ _ _ _, fun ad e => by cases e⟩, by rw [World.frozen?_alloc_at _ _ _ _ (by simp)], rfl, fun j hj => by subst hj; simp, fun i v hr => ?_⟩, Hp.heap_nil, fun x hx => by simp at hx, by omega, by omega, by simp [Hp.srt]⟩, by simp, by omega, by omega, by omega⟩
  · rw [World.cell?_alloc_at _ _ _ _ rfl]; rfl
  · rcases hr with ⟨rfl, rfl⟩ | ⟨rfl, rfl⟩
    · exact ⟨by omega, by rw [World.cell?_alloc_at _ _ _ _ rfl]; rfl, by rw [World.frozen?_alloc_at _ _ _ _ (by simp)]⟩
    · exact ⟨by omega, by rw [World.cell?_alloc_at _ _ _ _ rfl]; rfl, by rw [World.frozen?_alloc_at _ _ _ _ (by simp)]⟩
/-- A clock in memory that a law made for itself, the law's own world being w0. -/
structure Co (w0 w : World) (b : Nat) (F : Nat → Prop) (now : Int) (S : List Kp.On) (m : Nat) : Prop where
  ck : Ck w b F now S m
  ge : ∀ k, F k → w0.heap.size ≤ k
  below : Below w0.heap.size w0 w
theorem Co.new {w0 w : World} {b : Nat} (h : Below w0.heap.size w0 w) (hb : w.heap.size = b) : Co w0 (w.alloc (.cells #[.slice none 0 0, .int .i64 0, .int .i64 0] 29)) b (fun k => k = b) 0 [] 0 := by
  subst hb
  exact ⟨Ck.new w, fun k hk => by subst hk; exact h.size, h.trans ((below_new w _).mono h.size)⟩
theorem Co.step {w0 w w' : World} {b : Nat} {F : Nat → Prop} {now : Int} {S : List Kp.On} {m : Nat} (h : Co w0 w b F now S m) (hb : Below w.heap.size w w') : Co w0 w' b F now S m := ⟨h.ck.step hb, h.ge, h.below.trans (hb.mono h.below.size)⟩
theorem Co.drewN {w0 w : World} {b : Nat} {F : Nat → Prop} {now : Int} {S : List Kp.On} {m : Nat} (h : Co w0 w b F now S m) (q : Nat) : Co w0 (w.drewN q) b F now S m := h.step (below_drewN (Below.refl _ _) q)
theorem co_sleep {w0 w : World} {b : Nat} {F : Nat → Prop} {now : Int} {S : List Kp.On} {m : Nat} (h : Co w0 w b F now S m) (g n : Int) (hm : m + 1 ≤ 100000) :
    Calls Try.prog 10 #[.pointer (some ⟨b, 0, none⟩), .int .i64 g, .int .i64 n] w fun e w' => e = .returned (.int .i64 (Kp.code S g n)) ∧ ∃ F', Co w0 w' b F' now (Kp.slp S now g n) (m + 1) ∧ Turned F F' w w' := by
  refine (sleep_any b F now S m g n w h.ck hm).mono ?_
  rintro e w' ⟨rfl, F', hc, ht⟩
  exact ⟨rfl, F', ⟨hc, fun k hk => (ht.2 k hk).elim (h.ge k) (fun e => Nat.le_trans h.below.size e), ht.1.below h.below h.ge h.below.size⟩, ht⟩
/-- What Tick leaves. -/
def TickO (w0 : World) (b : Nat) (F : Nat → Prop) (now : Int) (S : List Kp.On) (m : Nat) (n : Int) (w : World) (e : Ending) (w' : World) : Prop :=
  (∃ A k c, e = .returned (.tuple #[.slice A k c, .int .i64 (Kp.tcode now n)]) ∧ Row w' A k c (Kp.ids (Kp.twoke S now n)) ∧ From w.heap.size A) ∧ Co w0 w' b F (Kp.tnow now n) (Kp.trest S now n) m ∧ Kept F w w'
theorem co_tick {w0 w : World} {b : Nat} {F : Nat → Prop} {now : Int} {S : List Kp.On} {m : Nat} (h : Co w0 w b F now S m) (n : Int) :
    Calls Try.prog 12 #[.pointer (some ⟨b, 0, none⟩), .int .i64 n] w (TickO w0 b F now S m n w) := by
  refine (tick_any b F now S m n w h.ck).mono ?_
  rintro e w' ⟨h1, h2, h3⟩
  exact ⟨h1, ⟨h2, h.ge, h3.below h.below h.ge h.below.size⟩, h3⟩
theorem co_wake {w0 w : World} {b : Nat} {F : Nat → Prop} {now : Int} {S : List Kp.On} {m : Nat} (h : Co w0 w b F now S m) (g : Int) :
    Calls Try.prog 15 #[.pointer (some ⟨b, 0, none⟩), .int .i64 g] w fun e w' => e = .returned (.bool (Kp.has S g)) ∧ Co w0 w' b F now (Kp.without S g) m ∧ Kept F w w' := by
  refine (wake_any b F now S m g w h.ck).mono ?_
  rintro e w' ⟨h1, h2, h3⟩
  exact ⟨h1, ⟨h2, h.ge, h3.below h.below h.ge h.below.size⟩, h3⟩
theorem co_asleep {w0 w : World} {b : Nat} {F : Nat → Prop} {now : Int} {S : List Kp.On} {m : Nat} (h : Co w0 w b F now S m) :
    Calls Try.prog 18 #[.pointer (some ⟨b, 0, none⟩)] w fun e w' => (∃ A k c, e = .returned (.slice A k c) ∧ Row w' A k c (Kp.ids S) ∧ From w.heap.size A) ∧ Co w0 w' b F now S m ∧ Below w.heap.size w w' := by
  refine (asleep_any b F now S m w h.ck).mono ?_
  rintro e w' hM
  obtain ⟨A, k, c, rfl, hr, hf, hb⟩ := hM.madeR
  exact ⟨⟨A, k, c, rfl, hr, hf⟩, h.step hb, hb⟩
theorem co_now {w0 w : World} {b : Nat} {F : Nat → Prop} {now : Int} {S : List Kp.On} {m : Nat} (h : Co w0 w b F now S m) :
    Calls Try.prog 17 #[.pointer (some ⟨b, 0, none⟩)] w fun e w' => e = .returned (.int .i64 now) ∧ w' = w := now_any b F now S m w h.ck
theorem Row.kept {F : Nat → Prop} {w w' : World} {A : Option Addr} {n c : Nat} {zs : List Int} (h : Row w A n c zs) (hk : Kept F w w') (hn : ∀ ad, A = some ad → ¬ F ad.block) : Row w' A n c zs := by
  refine ⟨h.len, h.cap, h.most, h.nil, fun i z hi => ?_⟩
  obtain ⟨b, off, e, hlt, hc⟩ := h.row i z hi
  exact ⟨b, off, e, Nat.lt_of_lt_of_le hlt hk.size, hk.cell hc (show ¬ F b from hn _ e)⟩
theorem Row.at {w : World} {b off n c : Nat} {zs : List Int} (h : Row w (some ⟨b, off, none⟩) n c zs) {j : Nat} {z : Int} (hj : zs[j]? = some z) : w.cell? ⟨b, off + j, none⟩ = some (.int .i64 z) := by
  obtain ⟨b', off', e, _, hc⟩ := h.row j z hj
  injection e with e
  injection e with e1 e2
  subst e1 e2
  exact hc
/-- Memory that a clock does not turn. -/
def Out (F : Nat → Prop) (A : Option Addr) : Prop := ∀ ad, A = some ad → ¬ F ad.block
theorem Co.out {w0 w : World} {b : Nat} {F : Nat → Prop} {now : Int} {S : List Kp.On} {m : Nat} (h : Co w0 w b F now S m) {A : Option Addr} {B : Nat} (hA : From B A) (hB : w.heap.size ≤ B) : Out F A := fun ad e f => by
  have h1 := h.ck.lt _ f
  have h2 := hA _ e
  omega
theorem Co.kept {w0 w w' : World} {b : Nat} {F G : Nat → Prop} {now : Int} {S : List Kp.On} {m : Nat} (h : Co w0 w b F now S m) (hk : Kept G w w') (hG : ∀ k, G k → w0.heap.size ≤ k) (hd : ∀ j, F j → ¬ G j) : Co w0 w' b F now S m :=
  ⟨h.ck.kept hk hd, h.ge, hk.below h.below hG h.below.size⟩
/-- A clock that was made behind another world is one of the elder world's too. -/
theorem Co.elder {w0 w1 w : World} {b : Nat} {F : Nat → Prop} {now : Int} {S : List Kp.On} {m : Nat} (h : Co w1 w b F now S m) (hb : Below w0.heap.size w0 w1) : Co w0 w b F now S m :=
  ⟨h.ck, fun k hk => Nat.le_trans hb.size (h.ge k hk), hb.trans (h.below.mono hb.size)⟩
theorem ints_row (A B : Option Addr) (n m c d : Nat) (zs ys : List Int) (w : World) (he : zs = ys) (h : Row w A n c zs) (hb : Row w B m d ys) :
    Calls Try.prog 14 #[.slice A n c, .slice B m d] w fun e w' => e = .returned (.bool true) ∧ Below w.heap.size w w' := by
  subst he
  have e1 := h.len
  have e2 := hb.len
  obtain rfl : n = m := by omega
  have h1 := h.cap
  have h2 := h.most
  exact ints_same A B n c d zs w (Lib.hid e1) (by omega) h.row hb.row
set_option maxHeartbeats 1000000 in
theorem shown_any (w : World) : Calls Try.prog 9 #[] w fun e w' => e = .returned (.bool true) ∧ Below w.heap.size w w' := by
  have C0 := Lib.hid (Co.new (Below.refl w.heap.size w) rfl)
  go_enter Try.func9, Try.ntmps9
  go_wp2_with fail
  obtain ⟨b, hbn⟩ : ∃ b, b = w.heap.size := ⟨_, rfl⟩
  rw [← hbn] at C0 ⊢
  generalize w.alloc (.cells #[.slice none 0 0, .int .i64 0, .int .i64 0] 29) = V at *
  clear hbn
  refine (co_sleep C0.out 1 3 (by omega)).mono ?_
  rintro e w1 ⟨rfl, F1, h1, _⟩
  rw [show Kp.code [] 1 3 = 0 from by decide +kernel]
  rw [show Kp.slp [] 0 1 3 = [(1, 3)] from by decide +kernel] at h1
  have C1 := Lib.hid h1
  clear h1 C0
  go_wp2_with fail
  refine (co_sleep C1.out 2 2 (by omega)).mono ?_
  rintro e w2 ⟨rfl, F2, h2, _⟩
  rw [show Kp.code [(1, 3)] 2 2 = 0 from by decide +kernel]
  rw [show Kp.slp [(1, 3)] 0 2 2 = [(2, 2), (1, 3)] from by decide +kernel] at h2
  have C2 := Lib.hid h2
  clear h2 C1
  go_wp2_with fail
  refine (co_tick C2.out 2).mono ?_
  rintro e w3 ⟨⟨A, k, c, rfl, hr, hf⟩, h3, _⟩
  rw [show Kp.tcode 0 2 = 0 from by decide +kernel]
  rw [show Kp.tnow 0 2 = 2 from by decide +kernel, show Kp.trest [(2, 2), (1, 3)] 0 2 = [(1, 3)] from by decide +kernel] at h3
  rw [show Kp.ids (Kp.twoke [(2, 2), (1, 3)] 0 2) = [2] from by decide +kernel] at hr
  have C3 := Lib.hid h3
  have HO := Lib.hid (C2.out.out hf (Nat.le_refl _))
  have R3 := Lib.hid hr
  clear h3 C2 hr hf
  go_wp2_with fail
  refine (co_tick C3.out 1).mono ?_
  rintro e w4 ⟨⟨A4, k4, c4, rfl, hr, hf⟩, h4, hk⟩
  rw [show Kp.tcode 2 1 = 0 from by decide +kernel]
  rw [show Kp.tnow 2 1 = 3 from by decide +kernel] at h4
  rw [show Kp.ids (Kp.twoke [(1, 3)] 2 1) = [1] from by decide +kernel] at hr
  have R4 := Lib.hid (R3.out.kept hk HO.out)
  have C4 := Lib.hid h4
  have Q4 := Lib.hid hr
  clear h4 C3 hr hf hk HO R3
  go_wp2_with fail
  have hb4 := below_new w4 (.cells #[.int .i64 2] 3)
  refine (ints_row A _ k 1 c 1 [2] [2] _ rfl (R4.out.below hb4) (row_at w4 2 _ rfl)).mono ?_
  rintro e w5 ⟨rfl, hb5⟩
  have hb6 := below_new w5 (.cells #[.int .i64 1] 3)
  have Q5 := Lib.hid (((Q4.out.below hb4).below hb5).below hb6)
  have C5 := Lib.hid (((C4.out.step hb4).step hb5).step hb6)
  clear hb4 hb5 hb6 R4 Q4 C4
  go_wp2_with fail
  refine (ints_row A4 _ k4 1 c4 1 [1] [1] _ rfl Q5.out (row_at w5 1 _ rfl)).mono ?_
  rintro e w6 ⟨rfl, hb6⟩
  have C6 := Lib.hid (C5.out.step hb6)
  clear hb6 C5 Q5
  go_wp2_with fail
  refine (co_now C6.out).mono ?_
  rintro e w7 ⟨rfl, rfl⟩
  go_wp2_with fail
  go_ret
  exact ⟨rfl, C6.out.below⟩
end Go.Proofs.Ytgknbjiocgcmdaa

