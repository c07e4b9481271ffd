/-
  Contracts of layer 6's calls, the document's: what each answers, and how cells and locks stand then. No statement is proved here.
-/
import Derived.Test.YtfijjipdnejenaaMemA
import Derived.WalkKit
set_option linter.unusedVariables false
namespace Go.Proofs.Ytfijjipdnejenaa
open Go.RowKit

end Go.Proofs.Ytfijjipdnejenaa
