/- The table of rows and the table of powers as the statement lays them. -/
import Derived.Test.YtnoppnnpennddaaDoorOpenTr
import Derived.Test.YtnoppnnpennddaaDoorTr10
namespace Go.Proofs.YtnoppnnpennddaaDoor
open Go.RowKit Go.ChangeShapes Go.WideShapes

theorem gtPow : (Tryd.prog.globals[2]?).map (·.type) = some 115 := by kernel_rfl
theorem gcPow : Tryd.prog.cellsOf 115 = 20 := by kernel_rfl
theorem gePow : Tryd.prog.cellsOf 105 = 1 := by kernel_rfl
theorem pow_of_laid {W : World} {rest : List (String × DataW Unit)} (h : laidMet Tryd.prog (("internal/strconv.uint64pow10", Rows.laid_internal_strconv_uint64pow10) :: rest) W) : Pow W :=
  Lib.tabIs_of_head (rest := rest) gPow gtPow Tryd.underlying115 Tryd.underlying105 gePow gcPow h
theorem tr_laid6 {W : World} {a b c d : DataW Unit} (h : laidMet Tryd.prog [("math/bits.deBruijn32tab", a), ("math/bits.deBruijn64tab", b), ("internal/strconv.uint64pow10", Rows.laid_internal_strconv_uint64pow10), ("unicode/utf8.acceptRanges", c), ("lamplighter/trace.rows", Rows.laid_lamplighter_trace_rows), ("unicode/utf8.first", d)] W) (hm : MaxLen W) : TRows W ∧ MaxLen W ∧ Pow W :=
  ⟨rows_of_laid (laid_tailT (laid_tailT (laid_tailT (laid_tailT h)))), hm, pow_of_laid (laid_tailT (laid_tailT h))⟩
end Go.Proofs.YtnoppnnpennddaaDoor
