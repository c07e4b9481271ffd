/-
  Keys out of words: the document's Of. No statement is proved here.
-/
import Derived.Test.YtnhooknpknkjkaaKeyB
set_option linter.unusedVariables false
namespace Go.Proofs.Ytnhooknpknkjkaa
open Go.RowKit

end Go.Proofs.Ytnhooknpknkjkaa
