/-
  Entries out of words, the program's own and the document's. No statement is proved here.
-/
import Derived.Test.YtnhooknpknkjkaaSlotA
import Derived.Test.YtnhooknpknkjkaaKeyR
set_option linter.unusedVariables false
namespace Go.Proofs.Ytnhooknpknkjkaa
open Go.RowKit

def slotT (a b : Nat) : Value :=
  if okE a b = true then .tuple #[.agg #[.int .i64 (vidW a : Int), .int .u64 (macW a : Nat), .int .i64 ((b % 256 : Nat) : Int), .bool (decide (b / 256 % 2 = 1)), .int .u32 ((b / 4294967296 : Nat) : Int)], .bool true]
  else .tuple #[.agg #[.int .i64 0, .int .u64 0, .int .i64 0, .bool false, .int .u32 0], .bool false]
theorem slotT_no {a b : Nat} (h : okE a b = false) : slotT a b = .tuple #[.agg #[.int .i64 0, .int .u64 0, .int .i64 0, .bool false, .int .u32 0], .bool false] := by
  unfold slotT; rw [h]; rfl
theorem slotT_yes {a b : Nat} (h : okE a b = true) : slotT a b = .tuple #[.agg #[.int .i64 (vidW a : Int), .int .u64 (macW a : Nat), .int .i64 ((b % 256 : Nat) : Int), .bool (decide (b / 256 % 2 = 1)), .int .u32 ((b / 4294967296 : Nat) : Int)], .bool true] := if_pos h
theorem okE_key {a b : Nat} (h : okW a = false) : okE a b = false := by unfold okE; rw [h]; rfl

end Go.Proofs.Ytnhooknpknkjkaa
