/- Two timers held against each other, field by field. -/
import Derived.Test.YtjcljdehhckaeaaHPlain
import Derived.Test.YtjcljdehhckaeaaBase
import Derived.Laws.StructEq
namespace Go.Proofs.Ytjcljdehhckaeaa
open Go.RowKit
set_option linter.unusedVariables false

theorem eql_tm (x1 x2 x3 y1 y2 y3 : Int) (W : World) : (binOp .eql 30 (.agg #[.int .i64 x1, .int .i64 x2, .int .i64 x3]) (.agg #[.int .i64 y1, .int .i64 y2, .int .i64 y3])).run Try.prog W = .ok (.bool (decide ((x1, x2, x3) = (y1, y2, y3)))) W := by
  simp [binOp, Op.equal, Op.maxDepth, go_sem]
  by_cases h1 : x1 = y1 <;> by_cases h2 : x2 = y2 <;> by_cases h3 : x3 = y3 <;> simp [h1, h2, h3]
theorem neq_tm (x1 x2 x3 y1 y2 y3 : Int) (W : World) : (binOp .neq 30 (.agg #[.int .i64 x1, .int .i64 x2, .int .i64 x3]) (.agg #[.int .i64 y1, .int .i64 y2, .int .i64 y3])).run Try.prog W = .ok (.bool (!decide ((x1, x2, x3) = (y1, y2, y3)))) W := by
  simp [binOp, Op.equal, Op.maxDepth, go_sem]
  by_cases h1 : x1 = y1 <;> by_cases h2 : x2 = y2 <;> by_cases h3 : x3 = y3 <;> simp [h1, h2, h3]
end Go.Proofs.Ytjcljdehhckaeaa

