/-
  Contracts of layer 7's functions, the program's own and the document's: whose turn, and the mixed number. No statement is proved here.
-/
import Derived.Test.YtcnfilbmmlolmaaMzA
import Derived.IntWalk
import Derived.Laws.Bits64
set_option linter.unusedVariables false
namespace Go.Proofs.Ytcnfilbmmlolmaa
open Go.RowKit

/-- One step of the mix, and the mix. -/
def mixS (d c x : Int) : Int := IntKind.u64.wrap (bits .xor .u64 x (x / d) * c)
def mixZ (n : Int) : Int := mixS 134217728 10723151780598845931 (mixS 1073741824 13787848793156543929 (IntKind.u64.wrap (n + 11400714819323198485)))
def mixI (n : Int) : Int := bits .xor .u64 (mixZ n) (mixZ n / 2147483648)
/-- Whose turn. -/
def whoN (p m : Int) : Int := if m < 1 then -1 else IntKind.u64.wrap p % m
theorem u64_wrap_bd (y : Int) : 0 ≤ IntKind.u64.wrap y ∧ IntKind.u64.wrap y < 18446744073709551616 := by
  rw [IntKind.wrap_u64]; omega
theorem u64_tdiv (y d : Int) (hd : 0 < d) : IntKind.u64.wrap ((IntKind.u64.wrap y).tdiv d) = IntKind.u64.wrap y / d := by
  obtain ⟨h0, h1⟩ := u64_wrap_bd y
  generalize IntKind.u64.wrap y = x at *
  rw [Int.tdiv_eq_ediv_of_nonneg h0, IntKind.wrap_u64]
  have h2 : 0 ≤ x / d := Int.ediv_nonneg h0 (by omega)
  have h3 : x / d ≤ x := Int.ediv_le_self _ h0
  omega
theorem mixI_bd (n : Int) : 0 ≤ mixI n ∧ mixI n < 18446744073709551616 := by
  obtain ⟨h0, h1⟩ := u64_wrap_bd (bits .xor .u64 (mixS 1073741824 13787848793156543929 (IntKind.u64.wrap (n + 11400714819323198485))) (mixS 1073741824 13787848793156543929 (IntKind.u64.wrap (n + 11400714819323198485)) / 134217728) * 10723151780598845931)
  change 0 ≤ mixZ n at h0
  change mixZ n < _ at h1
  unfold mixI
  generalize mixZ n = x at *
  obtain ⟨X, rfl⟩ := Int.eq_ofNat_of_zero_le h0
  have hX : X < 18446744073709551616 := by omega
  have := xorShift_u64 X 2147483648 hX
  rw [show ((2147483648 : Nat) : Int) = 2147483648 from rfl] at this
  rw [this]
  have h2 : X ^^^ X / 2147483648 < 2 ^ 64 := Nat.xor_lt_two_pow (by omega) (by omega)
  omega

theorem turn_Mix (n : Int) (hn : 0 ≤ n ∧ n < 18446744073709551616) (w : World) :
    Calls Try.prog 116 #[.int .u64 n] w fun e w' => e = .returned (.int .u64 (mixI n)) ∧ w = w' := by
  clear hn
  go_enter Try.func116, Try.ntmps116
  go_wp2
  go_ret
  exact ⟨rfl, rfl⟩
theorem who_wrap (p m : Int) (hm : 1 ≤ m) (hm2 : m ≤ 9223372036854775807) : wrap64 ((IntKind.u64.wrap p).tmod m) = IntKind.u64.wrap p % m := by
  obtain ⟨h0, h1⟩ := u64_wrap_bd p
  generalize IntKind.u64.wrap p = x at *
  rw [Int.tmod_eq_emod_of_nonneg h0]
  have h2 := Int.emod_nonneg x (show m ≠ 0 by omega)
  have h3 := Int.emod_lt_of_pos x (show 0 < m by omega)
  exact IntWalk.wrap64_in _ (by omega)
end Go.Proofs.Ytcnfilbmmlolmaa
