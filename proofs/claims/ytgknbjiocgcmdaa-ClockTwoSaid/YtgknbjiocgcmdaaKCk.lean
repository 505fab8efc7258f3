/- A clock in memory: what time it is, and who sleeps until when; Now and Wake, by their contracts. -/
import Derived.Test.YtgknbjiocgcmdaaKDue
import Derived.Test.YtgknbjiocgcmdaaHDrop
namespace Go.Proofs.Ytgknbjiocgcmdaa
open Go.RowKit
set_option linter.unusedVariables false

/-- What stands in a clock's block behind its heap: what time it is, and how many slept. -/
def Rc (now k : Int) : Nat → Value → Prop := fun i v => (i = 1 ∧ v = .int .i64 now) ∨ (i = 2 ∧ v = .int .i64 k)
/-- Block b holds a clock, in blocks of which F holds; m at most have slept. -/
structure Ck (w : World) (b : Nat) (F : Nat → Prop) (now : Int) (S : List Kp.On) (m : Nat) : Prop where
  mem : ∃ l k, HM (Rc now k) w b F l ∧ Hp.Heap l ∧ (∀ x ∈ l, x.2.1 ≤ k) ∧ 0 ≤ k ∧ k ≤ m ∧ (Hp.srt l).map Kp.on = S
  len : S.length ≤ m
  small : m ≤ 100000
  now0 : 0 ≤ now
  now1 : now ≤ 1099511627776
/-- What a method leaves that turns a clock alone. -/
def Turned (F F' : Nat → Prop) (w w' : World) : Prop := Kept F w w' ∧ ∀ k, F' k → F k ∨ w.heap.size ≤ k
theorem Turned.of_below {F : Nat → Prop} {w w' : World} (h : Below w.heap.size w w') : Turned F F w w' := ⟨Kept.of_below h, fun _ h => .inl h⟩
theorem Turned.of_kept {F : Nat → Prop} {w w' : World} (h : Kept F w w') : Turned F F w w' := ⟨h, fun _ h => .inl h⟩
theorem Ck.step {w w' : World} {b : Nat} {F : Nat → Prop} {now : Int} {S : List Kp.On} {m : Nat} (h : Ck w b F now S m) (hb : Below w.heap.size w w') : Ck w' b F now S m := by
  obtain ⟨l, k, h1, h2⟩ := h.mem
  exact ⟨⟨l, k, h1.step hb, h2⟩, h.len, h.small, h.now0, h.now1⟩
theorem Ck.drew {w : World} {b : Nat} {F : Nat → Prop} {now : Int} {S : List Kp.On} {m : Nat} (h : Ck w b F now S m) (q : Nat) : Ck (w.drewN q) b F now S m := h.step (below_drewN (Below.refl _ _) q)
theorem Ck.kept {w w' : World} {b : Nat} {F G : Nat → Prop} {now : Int} {S : List Kp.On} {m : Nat} (h : Ck w b F now S m) (hk : Kept G w w') (hd : ∀ j, F j → ¬ G j) : Ck w' b F now S m := by
  obtain ⟨l, k, h1, h2⟩ := h.mem
  exact ⟨⟨l, k, h1.kept hk hd, h2⟩, h.len, h.small, h.now0, h.now1⟩
theorem Ck.lt {w : World} {b : Nat} {F : Nat → Prop} {now : Int} {S : List Kp.On} {m : Nat} (h : Ck w b F now S m) : ∀ j, F j → j < w.heap.size := by
  obtain ⟨l, k, h1, h2⟩ := h.mem
  exact h1.lt
theorem Ck.inb {w : World} {b : Nat} {F : Nat → Prop} {now : Int} {S : List Kp.On} {m : Nat} (h : Ck w b F now S m) : F b := by
  obtain ⟨l, k, h1, h2⟩ := h.mem
  exact h1.inb
theorem Ck.ends {w : World} {b : Nat} {F : Nat → Prop} {now : Int} {S : List Kp.On} {m : Nat} (h : Ck w b F now S m) : Kp.Ends S := by
  obtain ⟨l, k, _, _, _, _, _, rfl⟩ := h.mem
  exact Kp.ends_on (Hp.srt_sorted l)
theorem Ck.more {w : World} {b : Nat} {F : Nat → Prop} {now : Int} {S : List Kp.On} {m m' : Nat} (h : Ck w b F now S m) (hm : m ≤ m') (hs : m' ≤ 100000) : Ck w b F now S m' := by
  obtain ⟨l, k, h1, h2, h3, h4, h5, h6⟩ := h.mem
  exact ⟨⟨l, k, h1, h2, h3, h4, by omega, h6⟩, by have := h.len; omega, hs, h.now0, h.now1⟩
/-- What time it is, as it is read. -/
theorem Ck.cell {w : World} {b : Nat} {F : Nat → Prop} {now : Int} {S : List Kp.On} {m : Nat} (h : Ck w b F now S m) : w.cell? ⟨b, 1, none⟩ = some (.int .i64 now) ∧ w.frozen? ⟨b, 1, none⟩ = false := by
  obtain ⟨l, k, h1, _⟩ := h.mem
  exact (h1.rest 1 _ (.inl ⟨rfl, rfl⟩)).2
theorem now_nil (w : World) : Calls Try.prog 17 #[.pointer none] w fun e w' => e = .returned (.int .i64 0) ∧ w' = w := by
  go_enter Try.func17, Try.ntmps17
  go_wp2_with fail
  go_ret
  exact ⟨rfl, rfl⟩
theorem now_any (b : Nat) (F : Nat → Prop) (now : Int) (S : List Kp.On) (m : Nat) (w : World) (h : Ck w b F now S m) : Calls Try.prog 17 #[.pointer (some ⟨b, 0, none⟩)] w fun e w' => e = .returned (.int .i64 now) ∧ w' = w := by
  have c0 := h.cell.1
  clear h
  go_enter Try.func17, Try.ntmps17
  go_wp2_with fail
  go_ret
  exact ⟨rfl, rfl⟩
theorem wake_nil (g : Int) (w : World) : Calls Try.prog 15 #[.pointer none, .int .i64 g] w fun e w' => e = .returned (.bool false) ∧ Below w.heap.size w w' := by
  go_enter Try.func15, Try.ntmps15
  go_wp2_with fail
  go_ret
  exact ⟨rfl, Below.refl _ _⟩
theorem wake_any (b : Nat) (F : Nat → Prop) (now : Int) (S : List Kp.On) (m : Nat) (g : Int) (w : World) (h : Ck w b F now S m) :
    Calls Try.prog 15 #[.pointer (some ⟨b, 0, none⟩), .int .i64 g] w fun e w' => e = .returned (.bool (Kp.has S g)) ∧ Ck w' b F now (Kp.without S g) m ∧ Kept F w w' := by
  obtain ⟨l, k, h1, h2, h3, h4, h5, h6⟩ := h.mem
  have hlS : l.length = S.length := by rw [← h6, List.length_map, Hp.srt_length]
  have hl := h.len
  have hm := h.small
  have HD := Lib.hid (drop_any b F l g w h1 (by omega))
  have ho := Kp.others_on l g
  rw [h6] at ho
  have HW := Lib.hid (show ∀ l', l'.Perm (Hp.others l g) → (Hp.srt l').map Kp.on = Kp.without S g from fun l' hp => by rw [Kp.srt_wake hp, h6])
  have HK := Lib.hid (show ∀ l' : List Hp.Tm, l'.Perm (Hp.others l g) → ∀ x ∈ l', x.2.1 ≤ k from fun l' hp x hx => h3 x (List.mem_filter.1 (hp.mem_iff.1 hx)).1)
  have HM := Lib.hid h
  obtain ⟨n, hn⟩ : ∃ n, n = (Hp.others l g).length := ⟨_, rfl⟩
  obtain ⟨p, hp⟩ : ∃ p, p = l.length := ⟨_, rfl⟩
  rw [← hn] at ho HD
  rw [← hp] at hlS HD
  have hle : n ≤ p := by rw [ho, hlS]; exact Kp.without_le S g
  have hgt : decide (n < S.length) = Kp.has S g := by
    cases e : Kp.has S g
    · rw [Kp.without_same e] at ho
      exact decide_eq_false (by omega)
    · have := Kp.without_lt e
      exact decide_eq_true (by omega)
  have HGT := Lib.hid hgt
  clear h h1 h2 h3 h6 hn hp hgt ho
  go_enter Try.func15, Try.ntmps15
  go_wp2_with fail
  refine HD.out.mono ?_
  rintro e w2 ⟨rfl, l', hp', hh, hm', hk⟩
  have HC := Lib.hid (show Ck w2 b F now (Kp.without S g) m from ⟨⟨l', k, hm', hh, HK.out l' hp', h4, h5, HW.out l' hp'⟩, by have := Kp.without_le S g; omega, hm, HM.out.now0, HM.out.now1⟩)
  have HKK := Lib.hid hk
  clear hm' hh hp' hk HD
  go_wp2_with fail
  go_ret
  exact ⟨by show Ending.returned (.bool (decide (n < S.length))) = _; rw [HGT.out], HC.out, HKK.out⟩
end Go.Proofs.Ytgknbjiocgcmdaa

