/-
  A bucket's shard and number out of its place among all; what is done to a key changes its bucket alone. No statement is proved here.
-/
import Derived.Test.YtccnfcjaehcfkaaBkN
set_option linter.unusedVariables false
namespace Go.Proofs.Ytccnfcjaehcfkaa
open Go.RowKit

theorem at_div {S B i : Nat} (hB : 1 ≤ B) (hi : i < S * B) : (i : Int).tdiv (B : Int) = ((i / B : Nat) : Int) ∧ (i : Int).tmod (B : Int) = ((i % B : Nat) : Int) ∧ atI S B ((i / B : Nat) : Int) ((i % B : Nat) : Int) = (i : Int) := by
  have h1 : i / B < S := (Nat.div_lt_iff_lt_mul hB).2 hi
  have h2 : i % B < B := Nat.mod_lt i hB
  refine ⟨by rw [Int.tdiv_eq_ediv_of_nonneg (by omega)]; simp, by rw [Int.tmod_eq_emod_of_nonneg (by omega)]; simp, ?_⟩
  have h3 := Nat.div_add_mod i B
  have h4 : ((B * (i / B) + i % B : Nat) : Int) = (i : Int) := by rw [h3]
  rw [← h4, Int.natCast_add, Int.natCast_mul, Int.mul_comm]
  clear h3 h4 hi
  generalize i / B = x at *
  generalize i % B = y at *
  unfold atI
  rw [if_pos ⟨Int.natCast_nonneg _, by exact_mod_cast h1, Int.natCast_nonneg _, by exact_mod_cast h2⟩]
theorem doG_other {K : Nat} {v : Int} {m : Nat} {port vid : Int} {now old S B n : Nat} {g : Nat → Nat → Pl} (h5 : K ≠ 5) (h6 : K ≠ 6) {i : Nat} (hi : i ≠ homeN v m S B) : (doG K v m port vid now old S B n g).1 i = g i := by
  unfold doG
  split
  · rfl
  · split
    · show updR _ _ _ i = g i
      unfold updR
      rw [if_neg hi]
    · split
      · show updR _ _ _ i = g i
        unfold updR
        rw [if_neg hi]
      · show updR _ _ _ i = g i
        unfold updR
        rw [if_neg hi]
theorem home_place {v : Int} {m S B : Nat} (hS : 1 ≤ S) (hB : 1 ≤ B) : plS v m S B * (B : Int) + plB v m S B = (homeN v m S B : Nat) := by
  have h := pl_bd v m S B
  have e1 : ((plS v m S B).toNat : Int) = plS v m S B := Int.toNat_of_nonneg h.1
  have e2 : ((plB v m S B).toNat : Int) = plB v m S B := Int.toNat_of_nonneg h.2.2.1
  unfold homeN
  rw [Int.natCast_add, Int.natCast_mul, e1, e2]
end Go.Proofs.Ytccnfcjaehcfkaa
