/- Statuses out of bytes: the rows that two statements make. -/
import Derived.Test.YtldehegoaofjnaaUShown
import Derived.Test.YtldehegoaofjnaaBFrame
namespace Go.Proofs.Ytldehegoaofjnaa
open Go.RowKit
set_option linter.unusedVariables false

/-- The first k of them, each one's remainder. -/
def mods (zs : List Int) (m : Int) (k : Nat) : List Int := (zs.take k).map (· % m)
theorem mods_succ {zs : List Int} {m : Int} {k : Nat} {z : Int} (h : zs[k]? = some z) : mods zs m (k + 1) = mods zs m k ++ [z % m] := by
  unfold mods; rw [List.take_add_one, h, List.map_append]; rfl
theorem mods_len {zs : List Int} {m : Int} {k : Nat} (h : k ≤ zs.length) : (mods zs m k).length = k := by
  unfold mods; rw [List.length_map, List.length_take]; omega
theorem wpList_append_row_g {w : World} {ops : Array Oper} {rest : List Oper} {o : Oper} {a : Act} {Q : Exit → Act → World → Prop} (s x : Operand)
    (ho : o.op = .call { callee := .builtin .append, args := #[s, x], argTypes := #[22, 22] })
    (hw : Region.wanted o (yielded ops a.tmps) = true)
    (base : Nat) (v : Value) (n : Nat) (xs : List Int) (hs : a.eval s = v) (hown : w.ownsRow base 3 1 v n (xs.map (Value.int .i64)))
    (A : Option Addr) (m c : Nat) (zs : List Int) (hx : a.eval x = .slice A m c) (h : Row w A m c zs) (hb : n + m ≤ 1000000) (hbase : base ≤ w.heap.size)
    (hK : ∀ v' w', w'.ownsRow base 3 1 v' (n + m) ((xs ++ zs).map (Value.int .i64)) → w.grownBy w' v.ownBlock → wpList Try.prog ops Q rest (a.put o.dst v') w') : wpList Try.prog ops Q (o :: rest) a w := by
  obtain ⟨v', w', hr, h2, h3⟩ := run_append_row w o.type base v n xs hown A m c zs h hb hbase
  refine wpList_step fun K hK' => ?_
  rw [if_pos hw]
  unfold Oper.wp
  simp [execOp, ho, resolve, invoke, builtin, hs, hx, hr, Result.andThen]
  exact hK' _ _ (hK v' w' h2 h3)
end Go.Proofs.Ytldehegoaofjnaa

