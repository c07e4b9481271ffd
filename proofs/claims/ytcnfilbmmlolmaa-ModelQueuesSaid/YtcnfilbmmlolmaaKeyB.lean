/-
  Keys out of words, and where they are: the program's Of and Place, and the document's. No statement is proved here.
-/
import Derived.Test.YtcnfilbmmlolmaaKeyA
set_option linter.unusedVariables false
namespace Go.Proofs.Ytcnfilbmmlolmaa
open Go.RowKit

def ofV (a : Nat) : Int := if okW a = true then (vidW a : Int) else 0
def ofM (a : Nat) : Nat := if okW a = true then macW a else 0
/-- A key that a word tells, or none. -/
def keyT (a : Nat) : Value := .tuple #[.agg #[.int .i64 (ofV a), .int .u64 (ofM a : Nat)], .bool (okW a)]
theorem keyT_no {a : Nat} (h : okW a = false) : keyT a = .tuple #[.agg #[.int .i64 0, .int .u64 0], .bool false] := by
  unfold keyT ofV ofM; rw [h]; rfl
theorem keyT_yes {a : Nat} (h : okW a = true) : keyT a = .tuple #[.agg #[.int .i64 (vidW a : Int), .int .u64 (macW a : Nat)], .bool true] := by
  unfold keyT ofV ofM; rw [h]; rfl

end Go.Proofs.Ytcnfilbmmlolmaa
