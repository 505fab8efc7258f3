/- Two rows of ints of the call's own, that grow in turn and lie apart. -/
import Derived.Test.YtceboejhdgjgoaaRApp
namespace Go.Proofs.Ytceboejhdgjgoaa
open Go.RowKit
set_option linter.unusedVariables false

structure Ab (base : Nat) (W : World) (va : Value) (na : Nat) (xs : List Int) (vb : Value) (nb : Nat) (ys : List Int) : Prop where
  a : W.ownsRow base 3 1 va na (xs.map (Value.int .i64))
  b : W.ownsRow base 3 1 vb nb (ys.map (Value.int .i64))
  apart : ∀ k, va.ownBlock = some k → vb.ownBlock ≠ some k
theorem Ab.swap {base na nb : Nat} {W : World} {va vb : Value} {xs ys : List Int} (h : Ab base W va na xs vb nb ys) : Ab base W vb nb ys va na xs := ⟨h.b, h.a, fun k e e' => h.apart k e' e⟩
theorem Ab.none (base : Nat) (W : World) : Ab base W (.slice Option.none 0 0) 0 [] (.slice Option.none 0 0) 0 [] := ⟨World.ownsRow_nil _ _ _ _, World.ownsRow_nil _ _ _ _, fun k e => by simp [Value.ownBlock] at e⟩
theorem Ab.step {base na nb : Nat} {W W' : World} {va vb : Value} {xs ys : List Int} (h : Ab base W va na xs vb nb ys) (hb : Below W.heap.size W W') : Ab base W' va na xs vb nb ys := ⟨own_below h.a hb, own_below h.b hb, h.apart⟩
theorem Ab.forms {base na nb : Nat} {W : World} {va vb : Value} {xs ys : List Int} (h : Ab base W va na xs vb nb ys) : (∃ A c, va = .slice A na c) ∧ (∃ B d, vb = .slice B nb d) := ⟨own_form h.a, own_form h.b⟩
/-- One of both grows. -/
theorem wpList_append_ab {w : World} {ops : Array Oper} {rest : List Oper} {o : Oper} {a : Act} {Q : Exit → Act → World → Prop} (hgd : o.guard = none) (s x : Operand)
    (ho : o.op = .call { callee := .builtin .append, args := #[s, x], argTypes := #[35, 35] })
    (base : Nat) (va : Value) (na : Nat) (xs : List Int) (vb : Value) (nb : Nat) (ys : List Int) (h : Ab base w va na xs vb nb ys) (hs : a.eval s = va)
    (ad : Addr) (m c : Nat) (zs : List Int) (hx : a.eval x = .slice (some ad) m c) (hr : Row w (some ad) m c zs) (hm : 0 < m) (hb : na + m ≤ 1000000) (hbase : base ≤ w.heap.size)
    (hK : ∀ g cap w', Ab base w' (.slice (some ⟨g, 0, none⟩) (na + m) cap) (na + m) (xs ++ zs) vb nb ys → w.grownBy w' va.ownBlock → wpList Try.prog ops Q rest (a.put o.dst (.slice (some ⟨g, 0, none⟩) (na + m) cap)) w') : wpList Try.prog ops Q (o :: rest) a w := by
  obtain ⟨i0, hi, hz0, hz1, hz2⟩ := info_parts info_int
  obtain ⟨b0, o0, e0, _⟩ := hr.cells hm
  injection e0 with e0
  subst e0
  refine wpList_append_lies w hgd s x _ ho base 3 i0 _ 1 8 Try.underlying35 hi hz0 hz1 hz2 rfl (by decide) va na _ hs h.a ⟨b0, o0, none⟩ m c (zs.map (Value.int .i64)) hx (by rw [List.length_map, hr.len]; omega) hr.icells (icells_one zs) hm (by unfold maxLen; omega) (by omega) hbase w.heap.size rfl ?_
  intro g cap w' h2 h3 h4 h5
  refine hK g cap w' ⟨by rw [List.map_append]; exact h2, h.b.kept h3 ?_, ?_⟩ h3
  · cases e : vb.ownBlock with
    | none => exact .inl rfl
    | some k => exact .inr (fun e' => h.apart k e'.symm e)
  · intro k e e'
    simp only [Value.ownBlock, Option.some.injEq] at e
    subst e
    rcases h4 with h4 | h4
    · exact h.apart _ h4 e'
    · have := (h.b.lt _ e').2
      omega
end Go.Proofs.Ytceboejhdgjgoaa

