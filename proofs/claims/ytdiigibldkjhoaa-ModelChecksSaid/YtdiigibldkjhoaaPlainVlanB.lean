/-
  Bits of sets with a port, and without one. Nothing of the program is named here. No statement is proved here.
-/
import Derived.Test.YtdiigibldkjhoaaPlainVlan
namespace Go.Proofs.Ytdiigibldkjhoaa

theorem testBit_withN (s : Nat) {k : Nat} (hk : k < 64) (i : Nat) : (withN s (k : Int)).testBit i = (s.testBit i || decide (k = i)) := by
  rw [withN_in s hk, Nat.testBit_or, Nat.testBit_two_pow]
theorem testBit_withoutN {s : Nat} (hs : s < 18446744073709551616) {k : Nat} (hk : k < 64) (i : Nat) : (withoutN s (k : Int)).testBit i = (s.testBit i && !decide (k = i)) := by
  rw [withoutN_in s hk, ← andNot_one hs hk]
  have h1 := bit_lt hk
  have e : 18446744073709551615 - 2 ^ k = 2 ^ 64 - (2 ^ k + 1) := by omega
  rw [Nat.testBit_and, e, Nat.testBit_two_pow_sub_succ (by omega), Nat.testBit_two_pow]
  by_cases hi : i < 64
  · simp [hi]
  · have : s.testBit i = false := Nat.testBit_lt_two_pow (Nat.lt_of_lt_of_le hs (show 2 ^ 64 ≤ 2 ^ i from Nat.pow_le_pow_right (by omega) (by omega)))
    simp [this]
theorem has_with_self {s : Nat} {p : Int} (h : 0 ≤ p ∧ p < 64) : hasB (withN s p) p = true := by
  obtain ⟨k, rfl⟩ := Int.eq_ofNat_of_zero_le h.1
  have hk : k < 64 := by omega
  rw [hasB_in _ hk, testBit_withN s hk]
  simp
theorem has_without_self {s : Nat} (hs : s < 18446744073709551616) (p : Int) : hasB (withoutN s p) p = false := by
  by_cases h : 0 ≤ p ∧ p < 64
  · obtain ⟨k, rfl⟩ := Int.eq_ofNat_of_zero_le h.1
    have hk : k < 64 := by omega
    rw [hasB_in _ hk, testBit_withoutN hs hk]
    simp
  · exact hasB_out _ (by omega)
theorem has_with_other (s : Nat) {p q : Int} (h : q ≠ p) : hasB (withN s p) q = hasB s q := by
  by_cases hp : 0 ≤ p ∧ p < 64
  · obtain ⟨k, rfl⟩ := Int.eq_ofNat_of_zero_le hp.1
    have hk : k < 64 := by omega
    by_cases hq : 0 ≤ q ∧ q < 64
    · obtain ⟨i, rfl⟩ := Int.eq_ofNat_of_zero_le hq.1
      have hi : i < 64 := by omega
      rw [hasB_in _ hi, hasB_in _ hi, testBit_withN s hk]
      simp
      omega
    · rw [hasB_out _ (by omega), hasB_out _ (by omega)]
  · rw [withN_out s (by omega)]
theorem has_without_other {s : Nat} (hs : s < 18446744073709551616) {p q : Int} (h : q ≠ p) : hasB (withoutN s p) q = hasB s q := by
  by_cases hp : 0 ≤ p ∧ p < 64
  · obtain ⟨k, rfl⟩ := Int.eq_ofNat_of_zero_le hp.1
    have hk : k < 64 := by omega
    by_cases hq : 0 ≤ q ∧ q < 64
    · obtain ⟨i, rfl⟩ := Int.eq_ofNat_of_zero_le hq.1
      have hi : i < 64 := by omega
      rw [hasB_in _ hi, hasB_in _ hi, testBit_withoutN hs hk]
      simp
      omega
    · rw [hasB_out _ (by omega), hasB_out _ (by omega)]
  · rw [withoutN_out s (by omega)]
end Go.Proofs.Ytdiigibldkjhoaa
