/-
  Keys out of words: the document's Of. No statement is proved here.
-/
import Derived.Test.YtocdljhjmhmfkaaKeyB
set_option linter.unusedVariables false
namespace Go.Proofs.Ytocdljhjmhmfkaa
open Go.RowKit

end Go.Proofs.Ytocdljhjmhmfkaa
