/-
  Floating words as rungs: what a rung is worth grows with it. Nothing of the program is named here. No statement is proved here.
-/
import Derived.Test.YtdgjgddobjhekaaKit
import Derived.Laws.FloatArith
namespace Go.Proofs.Ytdgjgddobjhekaa

/-- What a rung is worth, in units of the least place. -/
def valN (r : Nat) : Nat := if r < 4503599627370496 then r else (4503599627370496 + r % 4503599627370496) * 2 ^ (r / 4503599627370496 - 1)
theorem valN_step (r : Nat) : valN r < valN (r + 1) := by
  unfold valN
  by_cases h1 : r + 1 < 4503599627370496
  · rw [if_pos (by omega), if_pos h1]; omega
  · by_cases h2 : r < 4503599627370496
    · have e : r + 1 = 4503599627370496 := by omega
      rw [if_pos h2, if_neg h1, e]
      simp
      omega
    · rw [if_neg h2, if_neg h1]
      obtain ⟨q, hq⟩ : ∃ q, r / 4503599627370496 = q + 1 := ⟨r / 4503599627370496 - 1, by omega⟩
      by_cases h3 : r % 4503599627370496 + 1 < 4503599627370496
      · have e1 : (r + 1) / 4503599627370496 = q + 1 := by omega
        have e2 : (r + 1) % 4503599627370496 = r % 4503599627370496 + 1 := by omega
        rw [e1, e2, hq]
        exact Nat.mul_lt_mul_of_pos_right (by omega) (Nat.two_pow_pos _)
      · have e1 : (r + 1) / 4503599627370496 = q + 2 := by omega
        have e2 : (r + 1) % 4503599627370496 = 0 := by omega
        rw [e1, e2, hq]
        show (4503599627370496 + r % 4503599627370496) * 2 ^ q < (4503599627370496 + 0) * 2 ^ (q + 1)
        rw [Nat.pow_succ, Nat.mul_comm (2 ^ q) 2, ← Nat.mul_assoc]
        exact Nat.mul_lt_mul_of_pos_right (by omega) (Nat.two_pow_pos _)
theorem valN_lt {r s : Nat} (h : r < s) : valN r < valN s := by
  induction s with
  | zero => omega
  | succ s ih =>
    rcases Nat.lt_or_ge r s with h1 | h1
    · exact Nat.lt_trans (ih h1) (valN_step s)
    · obtain rfl : r = s := by omega
      exact valN_step r
theorem valN_le {r s : Nat} (h : r ≤ s) : valN r ≤ valN s := by
  rcases Nat.lt_or_ge r s with h1 | h1
  · exact Nat.le_of_lt (valN_lt h1)
  · obtain rfl : r = s := by omega
    exact Nat.le_refl _
theorem valN_zero : valN 0 = 0 := rfl
/-- A rung's sign and worth as one whole number. -/
def valZ (neg : Bool) (r : Nat) : Int := if neg then -(valN r : Int) else (valN r : Int)
/-- The order of words that are numbers or infinite: nought with a sign ahead of nought. -/
def keyZ (neg : Bool) (r : Nat) : Int := if neg then -(r : Int) - 1 else (r : Int)
theorem valZ_lt {n m : Bool} {r s : Nat} : valZ n r < valZ m s ↔ (keyZ n r < keyZ m s ∧ ¬ (r = 0 ∧ s = 0)) := by
  have hr : r = 0 ∨ 0 < valN r := by
    rcases Nat.eq_zero_or_pos r with h | h
    · exact .inl h
    · exact .inr (by have := valN_lt h; rw [valN_zero] at this; exact this)
  have hs : s = 0 ∨ 0 < valN s := by
    rcases Nat.eq_zero_or_pos s with h | h
    · exact .inl h
    · exact .inr (by have := valN_lt h; rw [valN_zero] at this; exact this)
  have z : ∀ x, x = 0 → valN x = 0 := fun x h => by rw [h]; rfl
  have hlt : r < s → valN r < valN s := valN_lt
  have hgt : s < r → valN s < valN r := valN_lt
  have heq : r = s → valN r = valN s := fun h => by rw [h]
  have z1 := z r
  have z2 := z s
  clear z
  unfold valZ keyZ
  generalize valN r = a at *
  generalize valN s = b at *
  cases n <;> cases m <;> simp <;> omega

/-- A word's sign and rung. -/
def sgnW (x : Nat) : Bool := x / 9223372036854775808 % 2 == 1
def rungW (x : Nat) : Nat := x % 9223372036854775808
theorem dbl_sw : Ieee.double.signWeight = 9223372036854775808 := by decide
theorem dbl_bin : Ieee.double.binade = 4503599627370496 := by decide
theorem dbl_inf : Ieee.double.infRung = 9218868437227405312 := by decide
theorem read_num {x : Nat} (h : rungW x < 9218868437227405312) : ∃ m a : Nat, Ieee.double.read x = .number (sgnW x) m (Ieee.double.leastPlace + (a : Int)) ∧ valN (rungW x) = m * 2 ^ a := by
  unfold Ieee.Format.read
  simp only [dbl_sw, dbl_bin, dbl_inf]
  have e : x % 9223372036854775808 = rungW x := rfl
  rw [e]
  generalize rungW x = r at *
  by_cases h1 : r < 4503599627370496
  · rw [if_pos h1]
    exact ⟨r, 0, by simp [sgnW], by unfold valN; rw [if_pos h1]; simp⟩
  · rw [if_neg h1, if_pos h]
    exact ⟨_, r / 4503599627370496 - 1, rfl, by unfold valN; rw [if_neg h1]⟩
theorem read_inf {x : Nat} (h : rungW x = 9218868437227405312) : Ieee.double.read x = .infinity (sgnW x) := by
  unfold Ieee.Format.read
  simp only [dbl_sw, dbl_bin, dbl_inf]
  have e : x % 9223372036854775808 = rungW x := rfl
  rw [e, h]
  rfl
theorem read_nan {x : Nat} (h : 9218868437227405312 < rungW x) : ∃ f, Ieee.double.read x = .nan (sgnW x) f := by
  unfold Ieee.Format.read
  simp only [dbl_sw, dbl_bin, dbl_inf]
  have e : x % 9223372036854775808 = rungW x := rfl
  rw [e]
  generalize rungW x = r at *
  rw [if_neg (by omega), if_neg (by omega), if_neg (by omega)]
  exact ⟨_, rfl⟩
/-- Shifted by as much, two whole numbers compare as they did. -/
theorem compare_shift (p q : Int) (c : Nat) : compare (p * 2 ^ c) (q * 2 ^ c) = compare p q := by
  have h : (0 : Int) < 2 ^ c := Int.pow_pos (by omega)
  rcases Int.lt_trichotomy p q with hpq | hpq | hpq
  · rw [Int.compare_eq_lt.2 hpq, Int.compare_eq_lt.2 (Int.mul_lt_mul_of_pos_right hpq h)]
  · rw [hpq, Int.compare_eq_eq.2 rfl, Int.compare_eq_eq.2 rfl]
  · rw [Int.compare_eq_gt.2 hpq, Int.compare_eq_gt.2 (Int.mul_lt_mul_of_pos_right hpq h)]
theorem signed_shift (s : Bool) (m a c : Nat) (h : c ≤ a) : Ieee.signed s m (a - c) * 2 ^ c = if s then -((m * 2 ^ a : Nat) : Int) else ((m * 2 ^ a : Nat) : Int) := by
  have e : (m <<< (a - c)) * 2 ^ c = m * 2 ^ a := by
    rw [Nat.shiftLeft_eq, Nat.mul_assoc, ← Nat.pow_add, Nat.sub_add_cancel h]
  have e2 : ((m <<< (a - c) : Nat) : Int) * 2 ^ c = ((m * 2 ^ a : Nat) : Int) := by
    rw [← e]; simp
  unfold Ieee.signed
  cases s
  · exact e2
  · show -((m <<< (a - c) : Nat) : Int) * 2 ^ c = -((m * 2 ^ a : Nat) : Int)
    rw [Int.neg_mul, e2]
theorem order_num {x y : Nat} (hx : rungW x < 9218868437227405312) (hy : rungW y < 9218868437227405312) : Ieee.double.order x y = some (compare (valZ (sgnW x) (rungW x)) (valZ (sgnW y) (rungW y))) := by
  obtain ⟨m, a, hm, hv⟩ := read_num hx
  obtain ⟨n, b, hn, hw⟩ := read_num hy
  unfold Ieee.Format.order
  rw [hm, hn]
  show some (compare (Ieee.signed (sgnW x) m (Ieee.double.leastPlace + (a : Int) - min (Ieee.double.leastPlace + (a : Int)) (Ieee.double.leastPlace + (b : Int))).toNat) (Ieee.signed (sgnW y) n (Ieee.double.leastPlace + (b : Int) - min (Ieee.double.leastPlace + (a : Int)) (Ieee.double.leastPlace + (b : Int))).toNat)) = _
  generalize Ieee.double.leastPlace = lp
  have e1 : (lp + (a : Int) - min (lp + (a : Int)) (lp + (b : Int))).toNat = a - min a b := by omega
  have e2 : (lp + (b : Int) - min (lp + (a : Int)) (lp + (b : Int))).toNat = b - min a b := by omega
  rw [e1, e2, ← compare_shift _ _ (min a b), signed_shift _ _ _ _ (Nat.min_le_left a b), signed_shift _ _ _ _ (Nat.min_le_right a b), ← hv, ← hw]
  rfl
theorem order_nan_l {x : Nat} (y : Nat) (h : 9218868437227405312 < rungW x) : Ieee.double.order x y = none := by
  obtain ⟨f, hf⟩ := read_nan h
  unfold Ieee.Format.order
  rw [hf]
  rfl
theorem order_nan_r (x : Nat) {y : Nat} (h : 9218868437227405312 < rungW y) : Ieee.double.order x y = none := by
  obtain ⟨f, hf⟩ := read_nan h
  unfold Ieee.Format.order
  rw [hf]
  cases Ieee.double.read x <;> rfl
/-- Words that are numbers or infinite compare by what they are worth. -/
theorem order_all {x y : Nat} (hx : rungW x ≤ 9218868437227405312) (hy : rungW y ≤ 9218868437227405312) : Ieee.double.order x y = some (compare (valZ (sgnW x) (rungW x)) (valZ (sgnW y) (rungW y))) := by
  rcases Nat.lt_or_ge (rungW x) 9218868437227405312 with h1 | h1
  · rcases Nat.lt_or_ge (rungW y) 9218868437227405312 with h2 | h2
    · exact order_num h1 h2
    · have e2 : rungW y = 9218868437227405312 := by omega
      obtain ⟨m, a, hm, _⟩ := read_num h1
      have hv := valN_lt h1
      unfold Ieee.Format.order
      rw [hm, read_inf e2, e2]
      unfold valZ
      generalize valN 9218868437227405312 = V at *
      show some (if sgnW y then Ordering.gt else Ordering.lt) = _
      congr 1
      generalize valN (rungW x) = A at *
      cases sgnW y <;> cases sgnW x
      · exact (Int.compare_eq_lt.2 (show (A : Int) < (V : Int) by omega)).symm
      · exact (Int.compare_eq_lt.2 (show -(A : Int) < (V : Int) by omega)).symm
      · exact (Int.compare_eq_gt.2 (show -(V : Int) < (A : Int) by omega)).symm
      · exact (Int.compare_eq_gt.2 (show -(V : Int) < -(A : Int) by omega)).symm
  · have e1 : rungW x = 9218868437227405312 := by omega
    rcases Nat.lt_or_ge (rungW y) 9218868437227405312 with h2 | h2
    · obtain ⟨m, a, hm, _⟩ := read_num h2
      have hv := valN_lt h2
      unfold Ieee.Format.order
      rw [hm, read_inf e1, e1]
      unfold valZ
      generalize valN 9218868437227405312 = V at *
      show some (if sgnW x then Ordering.lt else Ordering.gt) = _
      congr 1
      generalize valN (rungW y) = A at *
      cases sgnW y <;> cases sgnW x
      · exact (Int.compare_eq_gt.2 (show (A : Int) < (V : Int) by omega)).symm
      · exact (Int.compare_eq_lt.2 (show -(V : Int) < (A : Int) by omega)).symm
      · exact (Int.compare_eq_gt.2 (show -(A : Int) < (V : Int) by omega)).symm
      · exact (Int.compare_eq_lt.2 (show -(V : Int) < -(A : Int) by omega)).symm
    · have e2 : rungW y = 9218868437227405312 := by omega
      have hV : 0 < valN 9218868437227405312 := by
        have := valN_lt (show 0 < 9218868437227405312 by omega)
        rwa [valN_zero] at this
      unfold Ieee.Format.order
      rw [read_inf e1, read_inf e2, e1, e2]
      unfold valZ
      generalize valN 9218868437227405312 = V at *
      show some (compare (sgnW y).toNat (sgnW x).toNat) = _
      congr 1
      cases sgnW y <;> cases sgnW x
      · exact (Int.compare_eq_eq.2 rfl).symm
      · exact (Int.compare_eq_lt.2 (show -(V : Int) < (V : Int) by omega)).symm
      · exact (Int.compare_eq_gt.2 (show -(V : Int) < (V : Int) by omega)).symm
      · exact (Int.compare_eq_eq.2 rfl).symm
end Go.Proofs.Ytdgjgddobjhekaa
