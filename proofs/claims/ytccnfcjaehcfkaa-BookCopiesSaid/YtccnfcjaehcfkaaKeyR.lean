/-
  Keys out of words: the document's Of. No statement is proved here.
-/
import Derived.Test.YtccnfcjaehcfkaaKeyB
set_option linter.unusedVariables false
namespace Go.Proofs.Ytccnfcjaehcfkaa
open Go.RowKit

end Go.Proofs.Ytccnfcjaehcfkaa
