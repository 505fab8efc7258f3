/- What the listed variables hold at the start, as the code's contracts ask for it; a start that meets the condition. -/
import Derived.Test.YtejhlenckdkonaaDoorCLText
import Derived.Test.YtejhlenckdkonaaDoorCLParse
import Derived.Test.YtejhlenckdkonaaDoorCLChk
import Derived.Test.YtejhlenckdkonaaDoorCApp
import Derived.Test.YtejhlenckdkonaaDoorFrame
import Derived.Test.YtejhlenckdkonaaDoorCards
import Derived.Test.YtejhlenckdkonaaDoorTie
import Derived.Lib.LaidTab
import Derived.Stop.LaidErr
import Derived.LaidMore
import Derived.SevenTiedAt
import Derived.Stop.Joined
import Derived.MakeChecks
namespace Go.Proofs.YtejhlenckdkonaaDoor
open Go.ChangeShapes Go.WideShapes Go.ChangeAt Go.RowKit
set_option linter.unusedVariables false
set_option maxRecDepth 100000

def laid4 : List (String × DataW Unit) := [("math/bits.deBruijn32tab", Rows.laid_math_bits_deBruijn32tab), ("math/bits.deBruijn64tab", Rows.laid_math_bits_deBruijn64tab), ("internal/strconv.uint64pow10", Rows.laid_internal_strconv_uint64pow10), ("catafalque/code.names", Rows.laid_catafalque_code_names)]
def laid6 : List (String × DataW Unit) := [("math/bits.deBruijn32tab", Rows.laid_math_bits_deBruijn32tab), ("math/bits.deBruijn64tab", Rows.laid_math_bits_deBruijn64tab), ("internal/strconv.uint64pow10", Rows.laid_internal_strconv_uint64pow10), ("strconv.ErrRange", Rows.laid_strconv_ErrRange), ("strconv.ErrSyntax", Rows.laid_strconv_ErrSyntax), ("catafalque/code.names", Rows.laid_catafalque_code_names)]
/-- A table of strings as a row lists it. -/
def strsData {H : Type} (ss : List (List UInt8)) : DataW H := .agg (ss.map fun s => .lit (.string s))
theorem cells_of_strs {H : Type} {enc : TypeId × Value → H} {P : Program} {w : World} {base : Nat} {sp : Nat → Bool} {held : Bool} {fuel : Nat} {t e : TypeId} {n : Nat} {cs : List Value} {ss : List (List UInt8)} {p : List MemPlace}
    (ht : P.underlying t = some (.array n e)) (he : P.underlying e = some .string) (hce : P.cellsOf e = 1) (hct : P.cellsOf t = n)
    (h : DataW.trod enc P w base sp held fuel t cs = some (strsData ss, p)) : cs = ss.map fun s => Value.string (str s) := by
  cases fuel with
  | zero => simp [DataW.trod] at h
  | succ fuel =>
    simp only [DataW.trod, ht, hce, hct, Nat.mul_one] at h
    split at h
    · rename_i hl
      obtain ⟨xs, hm, hx⟩ := Option.map_eq_some_iff.1 h
      have hxs : xs.map (·.1) = ss.map fun s => (DataW.lit (.string s) : DataW H) := by
        have := congrArg Prod.fst hx
        simpa [strsData] using this
      have hxl : xs.length = n := by simpa using Lib.mapM_length hm
      have hzl : ss.length = n := by
        have := congrArg List.length hxs
        simp at this
        omega
      apply List.ext_getElem?
      intro i
      by_cases hi : i < n
      · obtain ⟨b, hb, hf⟩ := Lib.mapM_at hm i i (by simp [hi])
        obtain ⟨z, hc, rfl, _⟩ := DataW.trod_string he hf
        have h1 : cs[i]? = some (.string z) := by
          have := congrArg (·[0]?) hc
          simpa [List.getElem?_take, List.getElem?_drop] using this
        have h2 : (xs.map (·.1))[i]? = some (DataW.lit (.string z.data.toList) : DataW H) := by simp [hb]
        rw [hxs] at h2
        simp only [List.getElem?_map, Option.map_eq_some_iff, DataW.lit.injEq, Lit.string.injEq] at h2
        obtain ⟨z', hz', e⟩ := h2
        rw [h1, List.getElem?_map, hz', e]
        simp [str_self]
      · rw [List.getElem?_eq_none (by omega), List.getElem?_eq_none (by simp; omega)]
    · cases h
theorem strs_of_head {P : Program} {W : World} {name : String} {ss : List (List UInt8)} {rest : List (String × DataW Unit)} {g : Nat} {t e : TypeId} {n : Nat}
    (hg : P.globalNamed name = some g) (hty : (P.globals[g]?).map (·.type) = some t) (ht : P.underlying t = some (.array n e)) (he : P.underlying e = some .string) (hce : P.cellsOf e = 1) (hct : P.cellsOf t = n)
    (h : laidMet P ((name, strsData ss) :: rest) W) : W.var? P name = some (ss.map fun s => Value.string (str s)).toArray := by
  obtain ⟨ps, ⟨g', t', cs, fuel, p, q, hg', ht', hvar, hd, _, _⟩, _⟩ := h
  obtain rfl := Option.some.inj (hg.symm.trans hg')
  obtain rfl := Option.some.inj (hty.symm.trans ht')
  rw [hvar, ← cells_of_strs ht he hce hct hd]
theorem gNames : Tryd.prog.globalNamed "catafalque/code.names" = some 0 := by kernel_rfl
theorem tNames : (Tryd.prog.globals[0]?).map (·.type) = some 64 := by kernel_rfl
theorem tPow : (Tryd.prog.globals[4]?).map (·.type) = some 104 := by kernel_rfl
theorem tErrS : (Tryd.prog.globals[2]?).map (·.type) = some 58 := by kernel_rfl
theorem tErrR : (Tryd.prog.globals[3]?).map (·.type) = some 58 := by kernel_rfl
def nameList : List (List UInt8) := [] :: Cp.names
theorem nameList_at (j : Nat) (h : j < 11) : nameList[j]? = some (Cp.nm (j : Int)) := by
  have all : ∀ j : Nat, j < 11 → nameList[j]? = some (Cp.nm (j : Int)) := by decide
  exact all j h
theorem met_mk {W : World} {r1 r2 : List (String × DataW Unit)} (h1 : laidMet Tryd.prog (("internal/strconv.uint64pow10", Rows.laid_internal_strconv_uint64pow10) :: r1) W) (h2 : laidMet Tryd.prog (("catafalque/code.names", Rows.laid_catafalque_code_names) :: r2) W) : Met W := by
  have h1' : laidMet Tryd.prog (("internal/strconv.uint64pow10", Lib.tabData .u64 Lib.pow10Tab) :: r1) W := h1
  have h2' : laidMet Tryd.prog (("catafalque/code.names", strsData nameList) :: r2) W := h2
  refine ⟨fun j hj => ?_, Lib.tabIs_of_head gPow tPow Tryd.underlying104 Tryd.underlying86 (by kernel_rfl) (by kernel_rfl) h1'⟩
  have hv := strs_of_head gNames tNames Tryd.underlying64 Tryd.underlying9 (by kernel_rfl) (by kernel_rfl) h2'
  have hc := World.var?_cell gNames hv j
  rw [hc, List.getElem?_toArray, List.getElem?_map, nameList_at j hj]; rfl
theorem met_of_laid4 {W : World} (h : laidMetH Tryd.prog laid4 W) : Met W := by
  rw [MakeChecks.laidMetH_plain _ _ _ (by kernel_rfl)] at h
  exact met_mk h.tail.tail h.tail.tail.tail
theorem star : "*" ++ "errors.errorString" = "*errors.errorString" := by decide
theorem rowErr (u : TypeId) (h : Tryd.prog.typeName? 3 u = some "*errors.errorString") : u = 100 :=
  typeName_ptr_named (nm := "errors.errorString") (by rw [star]; kernel_rfl) (by kernel_rfl) (by decide) u (by rw [star]; exact h)
theorem met_of_laid6 {W : World} (h : laidMetH Tryd.prog laid6 W) : MetE W := by
  rw [MakeChecks.laidMetH_plain _ _ _ (by kernel_rfl)] at h
  refine ⟨met_mk h.tail.tail h.tail.tail.tail.tail.tail, ?_, ?_⟩
  · obtain ⟨a, _, hv, _⟩ := laid_sentinel h.tail.tail.tail.tail gSyn tErrS Tryd.underlying58 rowErr Tryd.underlying100 Tryd.underlying102 rfl rfl Tryd.underlying9 (by kernel_rfl) (by kernel_rfl)
    exact ⟨_, _, hv⟩
  · obtain ⟨a, _, hv, _⟩ := laid_sentinel h.tail.tail.tail gRng tErrR Tryd.underlying58 rowErr Tryd.underlying100 Tryd.underlying102 rfl rfl Tryd.underlying9 (by kernel_rfl) (by kernel_rfl)
    exact ⟨_, _, hv⟩
theorem door4 (os : Os) (args : Array Value) : laidMetH Tryd.prog laid4 ((World.doorLaid Tryd.prog 67 os).forCall (fun _ _ => 0) ⟨#[], args, []⟩).memory :=
  laidMetH_of_parts3 (fuel := 8) (laidMet_of_run' 8 (by kernel_rfl) (by kernel_rfl)) (by kernel_rfl) (by kernel_rfl)
theorem door6 (os : Os) (args : Array Value) : laidMetH Tryd.prog laid6 ((World.doorLaid Tryd.prog 67 os).forCall (fun _ _ => 0) ⟨#[], args, []⟩).memory :=
  laidMetH_of_parts3 (fuel := 8) (laidMet_of_run' 8 (by kernel_rfl) (by kernel_rfl)) (by kernel_rfl) (by kernel_rfl)
end Go.Proofs.YtejhlenckdkonaaDoor

