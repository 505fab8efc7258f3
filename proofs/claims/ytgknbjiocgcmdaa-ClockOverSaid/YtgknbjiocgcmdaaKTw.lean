/- Two clocks of a law's own, and rows that neither turns. -/
import Derived.Test.YtgknbjiocgcmdaaKSl
namespace Go.Proofs.Ytgknbjiocgcmdaa
open Go.RowKit
set_option linter.unusedVariables false

/-- Two clocks that lie apart. -/
structure Tw (w0 w : World) (b d : Nat) (F G : Nat → Prop) (t u : Int) (S T : List Kp.On) : Prop where
  c : Co w0 w b F t S 64
  d : Co w0 w d G u T 64
  apart : ∀ j, F j → ¬ G j
theorem Tw.step {w0 w w' : World} {b d : Nat} {F G : Nat → Prop} {t u : Int} {S T : List Kp.On} (h : Tw w0 w b d F G t u S T) (hb : Below w.heap.size w w') : Tw w0 w' b d F G t u S T := ⟨h.c.step hb, h.d.step hb, h.apart⟩
theorem Tw.out {w0 w : World} {b d : Nat} {F G : Nat → Prop} {t u : Int} {S T : List Kp.On} (h : Tw w0 w b d F G t u S T) {A : Option Addr} (hA : From w.heap.size A) : Out F A ∧ Out G A := ⟨h.c.out hA (Nat.le_refl _), h.d.out hA (Nat.le_refl _)⟩
/-- A row that neither clock turns. -/
structure Rw (F G : Nat → Prop) (w : World) (A : Option Addr) (n c : Nat) (zs : List Int) : Prop where
  row : Row w A n c zs
  out : Out F A ∧ Out G A
theorem Rw.step {F G : Nat → Prop} {w w' : World} {A : Option Addr} {n c : Nat} {zs : List Int} (h : Rw F G w A n c zs) (hb : Below w.heap.size w w') : Rw F G w' A n c zs := ⟨h.row.below hb, h.out⟩
theorem co_asleep_in {w0 w : World} {b : Nat} {F : Nat → Prop} {now : Int} {S : List Kp.On} {m : Nat} (h : Co w0 w b F now S m) :
    Calls Try.prog 18 #[.pointer (some ⟨b, 0, none⟩)] w fun e w' => (∃ A k c, e = .returned (.slice A k c) ∧ Row w' A k c (Kp.ids S) ∧ From w.heap.size A ∧ (∀ ad, A = some ad → ad.block < w'.heap.size)) ∧ Co w0 w' b F now S m ∧ Below w.heap.size w w' := by
  refine (asleep_any b F now S m w h.ck).mono ?_
  rintro e w' ⟨v, k, rfl, ho, hb⟩
  obtain ⟨A, c, rfl, hr, hf⟩ := Row.of_own' ho
  exact ⟨⟨A, k, c, rfl, hr, hf, fun ad e => by subst e; exact (ho.lt _ rfl).2⟩, h.step hb, hb⟩
theorem Tw.tickC {w0 w w' : World} {b d : Nat} {F G : Nat → Prop} {t u t' : Int} {S T S' : List Kp.On} (h : Tw w0 w b d F G t u S T) (h' : Co w0 w' b F t' S' 64) (hk : Kept F w w') : Tw w0 w' b d F G t' u S' T := ⟨h', h.d.kept hk h.c.ge (fun j g f => h.apart j f g), h.apart⟩
theorem Tw.tickD {w0 w w' : World} {b d : Nat} {F G : Nat → Prop} {t u u' : Int} {S T T' : List Kp.On} (h : Tw w0 w b d F G t u S T) (h' : Co w0 w' d G u' T' 64) (hk : Kept G w w') : Tw w0 w' b d F G t u' S T' := ⟨h.c.kept hk h.d.ge h.apart, h', h.apart⟩
theorem Rw.keptF {F G : Nat → Prop} {w w' : World} {A : Option Addr} {n c : Nat} {zs : List Int} (h : Rw F G w A n c zs) (hk : Kept F w w') : Rw F G w' A n c zs := ⟨h.row.kept hk h.out.1, h.out⟩
theorem Rw.keptG {F G : Nat → Prop} {w w' : World} {A : Option Addr} {n c : Nat} {zs : List Int} (h : Rw F G w A n c zs) (hk : Kept G w w') : Rw F G w' A n c zs := ⟨h.row.kept hk h.out.2, h.out⟩
end Go.Proofs.Ytgknbjiocgcmdaa

