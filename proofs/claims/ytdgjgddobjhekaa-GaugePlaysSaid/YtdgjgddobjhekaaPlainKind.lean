/-
  Kinds of floating words by the walk's tests. Nothing of the program is named here. No statement is proved here.
-/
import Derived.Test.YtdgjgddobjhekaaPlainKey
namespace Go.Proofs.Ytdgjgddobjhekaa
open Go.RowKit

theorem valZ_zero {s : Bool} {r : Nat} : valZ s r = 0 ↔ r = 0 := by
  constructor
  · intro h
    rcases Nat.eq_zero_or_pos r with h0 | h0
    · exact h0
    · have := valN_lt h0
      rw [valN_zero] at this
      unfold valZ at h
      split at h <;> omega
  · rintro rfl
    unfold valZ
    rw [valN_zero]
    split <;> rfl
theorem rung_zero : rungW 0 = 0 := by decide
theorem sgn_zero : sgnW 0 = false := by decide
theorem eq_zero_word (x : Nat) : (Ieee.double.order x 0 == some .eq) = (!nanW x && decide (rungW x = 0)) := by
  unfold nanW
  by_cases hx : 9218868437227405312 < rungW x
  · rw [order_nan_l 0 hx, decide_eq_true hx]; rfl
  · rw [order_all (by omega) (by rw [rung_zero]; omega), decide_eq_false hx, rung_zero, sgn_zero]
    have h0 : valZ false 0 = 0 := valZ_zero.2 rfl
    rw [h0]
    by_cases hr : rungW x = 0
    · rw [valZ_zero.2 hr, Int.compare_eq_eq.2 rfl, decide_eq_true hr]; rfl
    · have hv : valZ (sgnW x) (rungW x) ≠ 0 := fun h => hr (valZ_zero.1 h)
      rw [decide_eq_false hr]
      rcases Int.lt_trichotomy (valZ (sgnW x) (rungW x)) 0 with h | h | h
      · rw [Int.compare_eq_lt.2 h]; rfl
      · exact absurd h hv
      · rw [Int.compare_eq_gt.2 h]; rfl
/-- Above all finite ones. -/
theorem top_word (x : Nat) : (Ieee.double.order x 9218868437227405311 == some .gt) = (!nanW x && decide (rungW x = 9218868437227405312) && !sgnW x) := by
  rw [gt_word]
  have c1 : nanW 9218868437227405311 = false := by decide
  have c2 : sgnW 9218868437227405311 = false := by decide
  have c3 : rungW 9218868437227405311 = 9218868437227405311 := by decide
  rw [c1, c2, c3]
  cases hn : nanW x
  · have hle : ¬ 9218868437227405312 < rungW x := of_decide_eq_false hn
    have key : valZ false 9218868437227405311 < valZ (sgnW x) (rungW x) ↔ (rungW x = 9218868437227405312 ∧ sgnW x = false) := by
      rw [valZ_lt]
      unfold keyZ
      cases sgnW x
      · simp; omega
      · simp; omega
    rw [Bool.eq_iff_iff]
    simp only [Bool.not_false, Bool.true_and, Bool.and_eq_true, decide_eq_true_eq, Bool.not_eq_true']
    exact key
  · rfl
theorem neg_word (x : Nat) (hx : x < 18446744073709551616) : rungW (x ^^^ 9223372036854775808) = rungW x ∧ sgnW (x ^^^ 9223372036854775808) = !sgnW x := by
  have h1 : (x ^^^ 2 ^ 63) % 2 ^ 63 = x % 2 ^ 63 := by
    rw [Nat.xor_mod_two_pow, Nat.mod_self, Nat.xor_zero]
  have h2 : (x ^^^ 2 ^ 63) / 2 ^ 63 = (x / 2 ^ 63) ^^^ 1 := by
    rw [Nat.xor_div_two_pow, Nat.div_self (by omega)]
  have h3 : x / 2 ^ 63 = 0 ∨ x / 2 ^ 63 = 1 := by omega
  constructor
  · exact h1
  · unfold sgnW
    rw [show (9223372036854775808 : Nat) = 2 ^ 63 from rfl, h2]
    rcases h3 with h | h <;> rw [h] <;> rfl
theorem sign_word (x : Nat) (hx : x < 18446744073709551616) : decide (wrap64 (x : Int) < 0) = sgnW x := by
  unfold wrap64
  unfold sgnW
  by_cases h : x < 9223372036854775808
  · have e1 : x / 9223372036854775808 = 0 := by omega
    rw [e1, decide_eq_false (by omega)]
    rfl
  · have e1 : x / 9223372036854775808 = 1 := by omega
    rw [e1, decide_eq_true (by omega)]
    rfl
end Go.Proofs.Ytdgjgddobjhekaa
