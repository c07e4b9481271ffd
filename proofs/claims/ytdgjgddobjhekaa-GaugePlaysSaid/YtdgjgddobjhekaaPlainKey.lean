/-
  The order of floating words by one whole number, NaN above all; and which kind a word is. Nothing of the program is named here. No statement is proved here.
-/
import Derived.Test.YtdgjgddobjhekaaPlainIeee
namespace Go.Proofs.Ytdgjgddobjhekaa

def nanW (x : Nat) : Bool := decide (9218868437227405312 < rungW x)
def keyW (x : Nat) : Int := if nanW x then 9223372036854775808 else keyZ (sgnW x) (rungW x)
def kindW (x : Nat) : Nat := if nanW x then 5 else if rungW x = 9218868437227405312 then (if sgnW x then 4 else 3) else if rungW x = 0 then (if sgnW x then 2 else 1) else 0
def cmpW (a b : Nat) : Int := if keyW a < keyW b then -1 else if keyW b < keyW a then 1 else 0
theorem cmpW_self (a : Nat) : cmpW a a = 0 := by unfold cmpW; rw [if_neg (by omega), if_neg (by omega)]
theorem cmpW_anti (a b : Nat) : cmpW a b = -cmpW b a := by
  unfold cmpW
  generalize keyW a = x
  generalize keyW b = y
  split <;> split <;> first | rfl | omega | (split <;> first | rfl | omega)
theorem cmpW_trans (a b c : Nat) (h1 : cmpW a b ≤ 0) (h2 : cmpW b c ≤ 0) : cmpW a c ≤ 0 ∧ (cmpW a c < 0 ∨ (cmpW a b = 0 ∧ cmpW b c = 0)) := by
  unfold cmpW at *
  generalize keyW a = x at *
  generalize keyW b = y at *
  generalize keyW c = z at *
  have g1 : x ≤ y := by
    split at h1
    · omega
    · split at h1
      · omega
      · omega
  have g2 : y ≤ z := by
    split at h2
    · omega
    · split at h2
      · omega
      · omega
  by_cases hxz : x < z
  · rw [if_pos hxz]
    exact ⟨by omega, .inl (by omega)⟩
  · have e1 : x = y := by omega
    have e2 : y = z := by omega
    subst e1 e2
    simp
theorem rung_lt (x : Nat) : rungW x < 9223372036854775808 := Nat.mod_lt _ (by omega)
/-- Below, above, alike: by what two words are worth. -/
theorem lt_word (x y : Nat) : (Ieee.double.order x y == some .lt) = (!nanW x && !nanW y && decide (valZ (sgnW x) (rungW x) < valZ (sgnW y) (rungW y))) := by
  unfold nanW
  by_cases hx : 9218868437227405312 < rungW x
  · rw [order_nan_l y hx, decide_eq_true hx]; rfl
  · by_cases hy : 9218868437227405312 < rungW y
    · rw [order_nan_r x hy, decide_eq_true hy, decide_eq_false hx]; rfl
    · rw [order_all (by omega) (by omega), decide_eq_false hx, decide_eq_false hy]
      generalize valZ (sgnW x) (rungW x) = p
      generalize valZ (sgnW y) (rungW y) = q
      rcases Int.lt_trichotomy p q with h | h | h
      · rw [Int.compare_eq_lt.2 h]; simp [h]
      · subst h; rw [Int.compare_eq_eq.2 rfl]; simp
      · rw [Int.compare_eq_gt.2 h]; simp; omega
theorem gt_word (x y : Nat) : (Ieee.double.order x y == some .gt) = (!nanW x && !nanW y && decide (valZ (sgnW y) (rungW y) < valZ (sgnW x) (rungW x))) := by
  unfold nanW
  by_cases hx : 9218868437227405312 < rungW x
  · rw [order_nan_l y hx, decide_eq_true hx]; rfl
  · by_cases hy : 9218868437227405312 < rungW y
    · rw [order_nan_r x hy, decide_eq_true hy, decide_eq_false hx]; rfl
    · rw [order_all (by omega) (by omega), decide_eq_false hx, decide_eq_false hy]
      generalize valZ (sgnW x) (rungW x) = p
      generalize valZ (sgnW y) (rungW y) = q
      rcases Int.lt_trichotomy p q with h | h | h
      · rw [Int.compare_eq_lt.2 h]; simp; omega
      · subst h; rw [Int.compare_eq_eq.2 rfl]; simp
      · rw [Int.compare_eq_gt.2 h]; simp [h]
theorem eq_self_word (x : Nat) : (Ieee.double.order x x == some .eq) = !nanW x := by
  unfold nanW
  by_cases hx : 9218868437227405312 < rungW x
  · rw [order_nan_l x hx, decide_eq_true hx]; rfl
  · rw [order_all (by omega) (by omega), decide_eq_false hx, Int.compare_eq_eq.2 rfl]; rfl
end Go.Proofs.Ytdgjgddobjhekaa
