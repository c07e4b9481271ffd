/-
  The document's ranks of floating words, by their keys. Nothing of the program is named here. No statement is proved here.
-/
import Derived.Test.YtdgjgddobjhekaaPlainSub
namespace Go.Proofs.Ytdgjgddobjhekaa
open Go.RowKit

def rankR (x : Nat) : Int := if kindW x = 0 then (if sgnW x = true then 1 else 4) else [0, 3, 2, 5, 0, 6].getD (kindW x) 0
def rk (k : Int) : Int := if k < -9218868437227405312 then 0 else if k < -1 then 1 else if k = -1 then 2 else if k = 0 then 3 else if k < 9218868437227405312 then 4 else if k = 9218868437227405312 then 5 else 6
theorem rank_key (x : Nat) : rankR x = rk (keyW x) := by
  unfold rankR kindW rk
  cases hn : nanW x
  · rw [keyW_num hn]
    have hle : ¬ 9218868437227405312 < rungW x := of_decide_eq_false hn
    unfold keyZ
    generalize rungW x = r at *
    by_cases h1 : r = 9218868437227405312
    · subst h1
      cases sgnW x <;> rfl
    · by_cases h2 : r = 0
      · subst h2
        cases sgnW x <;> rfl
      · cases hs : sgnW x
        · simp [h1, h2]
          omega
        · simp [h1, h2]
          omega
  · rw [keyW_nan hn]
    rfl
theorem eq_bits (x y : Nat) : (FloatKind.f64.format.order x y == some .eq) = (!nanW x && !nanW y && !ltW x y && !ltW y x) := by
  show (Ieee.double.order x y == some .eq) = _
  unfold ltW nanW
  by_cases hx : 9218868437227405312 < rungW x
  · rw [order_nan_l y hx, decide_eq_true hx]; rfl
  · by_cases hy : 9218868437227405312 < rungW y
    · rw [order_nan_r x hy, decide_eq_true hy, decide_eq_false hx]; rfl
    · rw [order_all (by omega) (by omega), decide_eq_false hx, decide_eq_false hy]
      generalize valZ (sgnW x) (rungW x) = p
      generalize valZ (sgnW y) (rungW y) = q
      rcases Int.lt_trichotomy p q with h | h | h
      · rw [Int.compare_eq_lt.2 h]; simp [h]
      · subst h; rw [Int.compare_eq_eq.2 rfl]; simp
      · rw [Int.compare_eq_gt.2 h]; simp [h]
theorem kind_plain {x : Nat} (h : kindW x = 0) : nanW x = false ∧ rungW x ≠ 0 ∧ rungW x ≠ 9218868437227405312 := by
  unfold kindW at h
  split at h
  · omega
  rename_i h1
  split at h
  · split at h <;> omega
  rename_i h2
  split at h
  · split at h <;> omega
  rename_i h3
  exact ⟨by simpa using h1, h3, h2⟩
theorem cmpR_lt {a b : Nat} (h : rankR a < rankR b) : cmpW a b = -1 := by
  rw [rank_key, rank_key] at h
  unfold cmpW
  generalize keyW a = p at *
  generalize keyW b = q at *
  have : p < q := by
    unfold rk at h
    repeat' split at h
    all_goals omega
  rw [if_pos this]
theorem cmpR_gt {a b : Nat} (h : rankR b < rankR a) : cmpW a b = 1 := by
  rw [cmpW_anti, cmpR_lt h]; rfl
theorem key_odd {x : Nat} (h : kindW x ≠ 0) : keyW x < -9218868437227405312 ∧ keyW x = -9218868437227405313 ∨ keyW x = -1 ∨ keyW x = 0 ∨ keyW x = 9218868437227405312 ∨ keyW x = 9223372036854775808 := by
  unfold kindW at h
  cases hn : nanW x
  · rw [hn] at h
    rw [keyW_num hn]
    unfold keyZ
    by_cases h1 : rungW x = 9218868437227405312
    · rw [h1]; cases sgnW x <;> simp
    · by_cases h2 : rungW x = 0
      · rw [h2]; cases sgnW x <;> simp
      · exfalso
        apply h
        simp [h1, h2]
  · rw [keyW_nan hn]; simp
theorem key_even {x : Nat} (h : kindW x = 0) : (keyW x < -1 ∧ -9218868437227405313 < keyW x) ∨ (0 < keyW x ∧ keyW x < 9218868437227405312) := by
  obtain ⟨hn, h0, h1⟩ := kind_plain h
  have hle : ¬ 9218868437227405312 < rungW x := of_decide_eq_false hn
  rw [keyW_num hn]
  unfold keyZ
  cases sgnW x
  · simp; omega
  · simp; omega
theorem cmpR_odd {a b : Nat} (h : rankR a = rankR b) (hk : kindW a ≠ 0) : cmpW a b = 0 := by
  have ka := key_odd hk
  rw [rank_key, rank_key] at h
  have hkb : kindW b ≠ 0 := by
    intro hb
    have kb := key_even hb
    generalize keyW a = p at *
    generalize keyW b = q at *
    unfold rk at h
    repeat' split at h
    all_goals omega
  have kb := key_odd hkb
  unfold cmpW
  generalize keyW a = p at *
  generalize keyW b = q at *
  have : p = q := by
    unfold rk at h
    repeat' split at h
    all_goals omega
  rw [if_neg (by omega), if_neg (by omega)]
theorem plain_pair {a b : Nat} (h : rankR a = rankR b) (hk : kindW a = 0) : kindW b = 0 := by
  by_cases hb : kindW b = 0
  · exact hb
  · exfalso
    have ka := key_even hk
    have kb := key_odd hb
    rw [rank_key, rank_key] at h
    generalize keyW a = p at *
    generalize keyW b = q at *
    unfold rk at h
    repeat' split at h
    all_goals omega
theorem cmpR_plain {a b : Nat} (h : rankR a = rankR b) (hk : kindW a = 0) :
    cmpW a b = if (FloatKind.f64.format.order a b == some .eq) = true then 0 else if (FloatKind.f64.format.order a b == some .lt) = true then -1 else 1 := by
  have hkb := plain_pair h hk
  obtain ⟨na, za, _⟩ := kind_plain hk
  obtain ⟨nb, zb, _⟩ := kind_plain hkb
  rw [eq_bits, lt_bits, na, nb]
  have e1 : ltW a b = decide (keyW a < keyW b) := by
    unfold ltW
    rw [na, nb, keyW_num na, keyW_num nb, Bool.eq_iff_iff]
    simp only [Bool.not_false, Bool.true_and, decide_eq_true_eq]
    rw [valZ_lt]
    exact ⟨fun h => h.1, fun h => ⟨h, fun hh => za hh.1⟩⟩
  have e2 : ltW b a = decide (keyW b < keyW a) := by
    unfold ltW
    rw [na, nb, keyW_num na, keyW_num nb, Bool.eq_iff_iff]
    simp only [Bool.not_false, Bool.true_and, decide_eq_true_eq]
    rw [valZ_lt]
    exact ⟨fun h => h.1, fun h => ⟨h, fun hh => za hh.2⟩⟩
  rw [e1, e2]
  unfold cmpW
  rcases Int.lt_trichotomy (keyW a) (keyW b) with g | g | g
  · have g2 : ¬ keyW b < keyW a := by omega
    simp [g, g2]
  · simp [g]
  · have g2 : ¬ keyW a < keyW b := by omega
    simp [g, g2]
end Go.Proofs.Ytdgjgddobjhekaa
