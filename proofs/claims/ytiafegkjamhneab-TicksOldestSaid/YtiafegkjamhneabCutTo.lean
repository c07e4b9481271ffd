/-
  Slice types of this seat, in one word each. No statement is proved here.
-/
import Derived.Test.YtiafegkjamhneabWords
namespace Go.Proofs.Ytiafegkjamhneab
open Go.RowKit
theorem stU32s : ST Try.prog 27 22 (.int .u32 0) 1 4 := ST.mk Try.underlying27 (by kernel_rfl) rfl (by omega) (by omega)
end Go.Proofs.Ytiafegkjamhneab
