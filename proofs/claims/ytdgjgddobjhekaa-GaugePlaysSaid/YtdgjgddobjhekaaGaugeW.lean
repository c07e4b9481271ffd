/-
  Sums, differences and products of floating words that are whole numbers; a room that is never more than it was. Nothing of the program is walked here. No statement is proved here.
-/
import Derived.Test.YtdgjgddobjhekaaGaugeG
import Derived.Test.YtdgjgddobjhekaaPlainNear
import Derived.Test.YtdgjgddobjhekaaPlainRk
namespace Go.Proofs.Ytdgjgddobjhekaa
open Go.RowKit

theorem word_neg (r : Nat) : Ieee.double.word true r = 9223372036854775808 + r := by unfold Ieee.Format.word; rw [dbl_sw]; rfl
theorem word_pos (r : Nat) : Ieee.double.word false r = r := rfl
theorem sgn_neg {r : Nat} (h : r < 9223372036854775808) : sgnW (9223372036854775808 + r) = true := by
  unfold sgnW
  rw [show (9223372036854775808 + r) / 9223372036854775808 = 1 by omega]
  rfl
theorem sgn_pos {r : Nat} (h : r < 9223372036854775808) : sgnW r = false := by
  unfold sgnW
  rw [Nat.div_eq_of_lt h]
  rfl
theorem rung_pos {r : Nat} (h : r < 9223372036854775808) : rungW r = r := Nat.mod_eq_of_lt h
theorem rung_neg {r : Nat} (h : r < 9223372036854775808) : rungW (9223372036854775808 + r) = r := by unfold rungW; omega
/-- A sum of two numbers: its value, exactly, is rounded once. -/
theorem add_val {x y : Nat} (hx : rungW x < 9218868437227405312) (hy : rungW y < 9218868437227405312) :
    ∃ (T : Int) (d : Nat), T * 2 ^ d = valZ (sgnW x) (rungW x) + valZ (sgnW y) (rungW y) ∧ floatBits .add .f64 x y = some (Ieee.double.write (.number (if T = 0 then sgnW x && sgnW y else decide (T < 0)) T.natAbs (-1074 + (d : Int)))) := by
  obtain ⟨m, a, hm, hv⟩ := read_num hx
  obtain ⟨n, b, hn, hw⟩ := read_num hy
  rw [least_eq] at hm hn
  refine ⟨Ieee.signed (sgnW x) m (a - min a b) + Ieee.signed (sgnW y) n (b - min a b), min a b, ?_, ?_⟩
  · rw [Int.add_mul, signed_shift _ _ _ _ (Nat.min_le_left a b), signed_shift _ _ _ _ (Nat.min_le_right a b), ← hv, ← hw]
    rfl
  · show Ieee.double.add x y = _
    unfold Ieee.Format.add
    rw [hm, hn]
    have e0 : min (-1074 + (a : Int)) (-1074 + (b : Int)) = -1074 + ((min a b : Nat) : Int) := by omega
    have e1 : (-1074 + (a : Int) - (-1074 + ((min a b : Nat) : Int))).toNat = a - min a b := by omega
    have e2 : (-1074 + (b : Int) - (-1074 + ((min a b : Nat) : Int))).toNat = b - min a b := by omega
    unfold Ieee.Datum.sum
    simp only [e0, e1, e2, Option.map_some]
/-- Of a difference likewise. -/
theorem sub_val {x y : Nat} (hx : rungW x < 9218868437227405312) (hy : rungW y < 9218868437227405312) :
    ∃ (T : Int) (d : Nat), T * 2 ^ d = valZ (sgnW x) (rungW x) - valZ (sgnW y) (rungW y) ∧ floatBits .sub .f64 x y = some (Ieee.double.write (.number (if T = 0 then sgnW x && !sgnW y else decide (T < 0)) T.natAbs (-1074 + (d : Int)))) := by
  obtain ⟨m, a, hm, hv⟩ := read_num hx
  obtain ⟨n, b, hn, hw⟩ := read_num hy
  rw [least_eq] at hm hn
  refine ⟨Ieee.signed (sgnW x) m (a - min a b) + Ieee.signed (!sgnW y) n (b - min a b), min a b, ?_, ?_⟩
  · rw [Int.add_mul, signed_shift _ _ _ _ (Nat.min_le_left a b), signed_shift _ _ _ _ (Nat.min_le_right a b), ← hv, ← hw]
    unfold valZ
    cases sgnW x <;> cases sgnW y <;> simp <;> omega
  · show Ieee.double.sub x y = _
    unfold Ieee.Format.sub
    rw [hm, hn]
    have e0 : min (-1074 + (a : Int)) (-1074 + (b : Int)) = -1074 + ((min a b : Nat) : Int) := by omega
    have e1 : (-1074 + (a : Int) - (-1074 + ((min a b : Nat) : Int))).toNat = a - min a b := by omega
    have e2 : (-1074 + (b : Int) - (-1074 + ((min a b : Nat) : Int))).toNat = b - min a b := by omega
    unfold Ieee.Datum.opposite Ieee.Datum.sum
    simp only [e0, e1, e2, Option.map_some]
/-- A whole number's word. -/
theorem whole_rung {k : Nat} (h0 : 0 < k) (h : k < 9007199254740992) : ∃ e low : Nat, e + 52 = 1074 + k.log2 ∧ 4503599627370496 ≤ low ∧ low < 9007199254740992 ∧ low * 2 ^ e = k * 2 ^ 1074 := by
  have hlog := Nat.log2_self_le (n := k) (by omega)
  have hlog2 : k < 2 ^ (k.log2 + 1) := Nat.lt_log2_self
  have hL : k.log2 ≤ 52 := by
    rcases Nat.lt_or_ge 52 k.log2 with hc | hc
    · have : 2 ^ 53 ≤ 2 ^ k.log2 := Nat.pow_le_pow_right (by omega) (by omega)
      have e53 : (2 : Nat) ^ 53 = 9007199254740992 := by decide
      omega
    · exact hc
  obtain ⟨c, hc⟩ : ∃ c, k.log2 + c = 52 := ⟨52 - k.log2, by omega⟩
  refine ⟨1022 + k.log2, k * 2 ^ c, by omega, ?_, ?_, ?_⟩
  · calc 4503599627370496 = 2 ^ (k.log2 + c) := by rw [hc]
      _ = 2 ^ k.log2 * 2 ^ c := Nat.pow_add _ _ _
      _ ≤ k * 2 ^ c := Nat.mul_le_mul_right _ hlog
  · calc k * 2 ^ c < 2 ^ (k.log2 + 1) * 2 ^ c := Nat.mul_lt_mul_of_pos_right hlog2 (Nat.two_pow_pos c)
      _ = 2 ^ (k.log2 + 1 + c) := by rw [← Nat.pow_add]
      _ = 2 ^ 53 := by rw [show k.log2 + 1 + c = 53 by omega]
      _ = 9007199254740992 := by decide
  · rw [Nat.mul_assoc, ← Nat.pow_add, show c + (1022 + k.log2) = 1074 by omega]
theorem fN_zero : fN 0 = 0 := by kernel_rfl
theorem fN_one : fN 1 = 4607182418800017408 := by kernel_rfl
theorem fN_word {k : Nat} (h0 : 0 < k) (h : k < 9007199254740992) : ∃ e low : Nat, e ≤ 1074 ∧ 1022 ≤ e ∧ 4503599627370496 ≤ low ∧ low < 9007199254740992 ∧ low * 2 ^ e = k * 2 ^ 1074 ∧ fN k = e * 4503599627370496 + low := by
  obtain ⟨e, low, h1, h2, h3, h4⟩ := whole_rung h0 h
  have hL : k.log2 ≤ 52 := by
    rcases Nat.lt_or_ge 52 k.log2 with hc | hc
    · have : 2 ^ 53 ≤ 2 ^ k.log2 := Nat.pow_le_pow_right (by omega) (by omega)
      have e53 : (2 : Nat) ^ 53 = 9007199254740992 := by decide
      have := Nat.log2_self_le (n := k) (by omega)
      omega
    · exact hc
  refine ⟨e, low, by omega, by omega, h2, h3, h4, ?_⟩
  have hv := valN_scale (e := e) (low := low) (by omega) (.inr h2)
  have hn := nearest_eq (m := k) (d := 1074) (R := e * 4503599627370496 + low) h0 (by omega) (by rw [hv, h4]) false
  rw [word_pos] at hn
  unfold fN
  have e1 : floatOfInt .f64 (k : Int) = Ieee.double.write (.number (decide ((k : Int) < 0)) (k : Int).natAbs 0) := rfl
  rw [e1, show decide ((k : Int) < 0) = false by simp, Int.natAbs_natCast]
  show Ieee.double.nearest false k 0 = _
  rw [← hn]
  rfl
theorem fN_lt {k : Nat} (h : k < 9007199254740992) : fN k < 9218868437227405312 := by
  rcases Nat.eq_zero_or_pos k with rfl | h0
  · rw [fN_zero]; omega
  · obtain ⟨e, low, h1, h2, h3, h4, h5, h6⟩ := fN_word h0 h
    rw [h6]; omega
theorem fN_val {k : Nat} (h : k < 9007199254740992) : valN (fN k) = k * 2 ^ 1074 := by
  rcases Nat.eq_zero_or_pos k with rfl | h0
  · rw [fN_zero]; generalize 2 ^ 1074 = P; rw [Nat.zero_mul]; exact valN_zero
  · obtain ⟨e, low, h1, h2, h3, h4, h5, h6⟩ := fN_word h0 h
    rw [h6, valN_scale (by omega) (.inr h3), h5]
theorem fN_rung {k : Nat} (h : k < 9007199254740992) : rungW (fN k) = fN k := rung_pos (by have := fN_lt h; omega)
theorem fN_sgn {k : Nat} (h : k < 9007199254740992) : sgnW (fN k) = false := sgn_pos (by have := fN_lt h; omega)
theorem nan_not {x : Nat} (h : rungW x ≤ 9218868437227405312) : nanW x = false := decide_eq_false (by omega)
theorem fN_nan {k : Nat} (h : k < 9007199254740992) : nanW (fN k) = false := nan_not (by rw [fN_rung h]; have := fN_lt h; omega)
theorem fN_lt_iff {a b : Nat} (ha : a < 9007199254740992) (hb : b < 9007199254740992) : ltW (fN a) (fN b) = decide (a < b) := by
  have hp : 0 < 2 ^ 1074 := Nat.two_pow_pos 1074
  unfold ltW
  rw [fN_nan ha, fN_nan hb, fN_sgn ha, fN_sgn hb, fN_rung ha, fN_rung hb]
  unfold valZ
  rw [fN_val ha, fN_val hb]
  simp only [Bool.not_false, Bool.true_and, Bool.false_eq_true, if_false]
  rw [decide_eq_decide]
  generalize 2 ^ 1074 = P at *
  constructor
  · intro h
    have h' : a * P < b * P := by exact_mod_cast h
    exact Nat.lt_of_mul_lt_mul_right h'
  · intro h
    exact_mod_cast Nat.mul_lt_mul_of_pos_right h hp
theorem openW_fN {k : Nat} (h : k < 9007199254740992) : openW (fN k) = false := by
  have h1 := fN_lt h
  unfold openW kindW
  rw [fN_nan h, fN_rung h, if_neg (by simp), if_neg (by omega), fN_sgn h]
  split <;> rfl
end Go.Proofs.Ytdgjgddobjhekaa
