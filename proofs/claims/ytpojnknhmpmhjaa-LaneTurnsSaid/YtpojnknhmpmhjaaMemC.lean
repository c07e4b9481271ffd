/-
  Contracts of layer 6's calls, the document's: what each answers, and how cells and locks stand then. No statement is proved here.
-/
import Derived.Test.YtpojnknhmpmhjaaMemA
import Derived.WalkKit
set_option linter.unusedVariables false
namespace Go.Proofs.Ytpojnknhmpmhjaa
open Go.RowKit

end Go.Proofs.Ytpojnknhmpmhjaa
