/-
  Keys out of words: the document's Of. No statement is proved here.
-/
import Derived.Test.YtlkajgkcadbboabKeyB
set_option linter.unusedVariables false
namespace Go.Proofs.Ytlkajgkcadbboab
open Go.RowKit

end Go.Proofs.Ytlkajgkcadbboab
