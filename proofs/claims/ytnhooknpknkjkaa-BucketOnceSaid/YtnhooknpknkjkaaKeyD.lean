/-
  Keys: the shard and the bucket, the program's Place and the document's; layer 8's told. No statement is proved here.
-/
import Derived.Test.YtnhooknpknkjkaaKeyB
set_option linter.unusedVariables false
namespace Go.Proofs.Ytnhooknpknkjkaa
open Go.RowKit

def plS (v : Int) (m : Nat) (s b : Int) : Int := if rightK v m = true ∧ 1 ≤ s ∧ 1 ≤ b then mixI (wordN v m : Nat) % s else 0
def plB (v : Int) (m : Nat) (s b : Int) : Int := if rightK v m = true ∧ 1 ≤ s ∧ 1 ≤ b then mixI (wordN v m : Nat) / 4294967296 % b else 0
theorem pl_no {v : Int} {m : Nat} {s b : Int} (h : ¬ (rightK v m = true ∧ 1 ≤ s ∧ 1 ≤ b)) : plS v m s b = 0 ∧ plB v m s b = 0 := ⟨if_neg h, if_neg h⟩
theorem pl_yes {v : Int} {m : Nat} {s b : Int} (h : rightK v m = true ∧ 1 ≤ s ∧ 1 ≤ b) : plS v m s b = mixI (wordN v m : Nat) % s ∧ plB v m s b = mixI (wordN v m : Nat) / 4294967296 % b := ⟨if_pos h, if_pos h⟩
theorem mod_w (h s : Int) (h0 : 0 ≤ h ∧ h < 18446744073709551616) (hs : 1 ≤ s ∧ s ≤ 9223372036854775807) : wrap64 (h % s) = h % s := by
  have h1 := Int.emod_nonneg h (show s ≠ 0 by omega)
  have h2 := Int.emod_lt_of_pos h (show 0 < s by omega)
  unfold wrap64
  omega
theorem wrap_pos (s : Int) (hs : 1 ≤ s ∧ s ≤ 9223372036854775807) : IntKind.u64.wrap s = s := by rw [IntKind.wrap_u64]; omega

end Go.Proofs.Ytnhooknpknkjkaa
