/-
  The place of the greatest of floating words, as a function; two that are none are the same. Nothing of the program is named here. No statement is proved here.
-/
import Derived.Test.YtdgjgddobjhekaaPlainCmp
namespace Go.Proofs.Ytdgjgddobjhekaa

def busyF (L : Nat → Nat) : Nat → Int
  | 0 => -1
  | k + 1 => if nanW (L k) = true then busyF L k else if busyF L k < 0 ∨ 0 < cmpW (L k) (L (busyF L k).toNat) then (k : Int) else busyF L k
theorem busyF_bd (L : Nat → Nat) : ∀ k, -1 ≤ busyF L k ∧ busyF L k < k
  | 0 => by simp [busyF]
  | k + 1 => by
    have := busyF_bd L k
    rw [busyF]
    split
    · omega
    · split <;> omega
theorem busy_nan {L : Nat → Nat} {k : Nat} (h : nanW (L k) = true) : busyF L (k + 1) = busyF L k := by rw [busyF, if_pos h]
theorem busy_new {L : Nat → Nat} {k : Nat} (h : nanW (L k) = false) (h2 : busyF L k < 0) : busyF L (k + 1) = (k : Int) := by
  rw [busyF, if_neg (by simp [h]), if_pos (.inl h2)]
theorem busy_more {L : Nat → Nat} {k j : Nat} (h : nanW (L k) = false) (hj : busyF L k = (j : Int)) (h2 : 0 < cmpW (L k) (L j)) : busyF L (k + 1) = (k : Int) := by
  rw [busyF, if_neg (by simp [h]), if_pos (.inr (by rw [hj]; exact h2))]
theorem busy_less {L : Nat → Nat} {k j : Nat} (h : nanW (L k) = false) (hj : busyF L k = (j : Int)) (h2 : ¬ 0 < cmpW (L k) (L j)) : busyF L (k + 1) = (j : Int) := by
  rw [busyF, if_neg (by simp [h]), if_neg (by rw [hj]; intro hc; rcases hc with hc | hc; omega; exact h2 hc), hj]
theorem cmpW_nans {a b : Nat} (ha : nanW a = true) (hb : nanW b = true) : cmpW a b = 0 := by
  unfold cmpW
  rw [keyW_nan ha, keyW_nan hb]
  simp
theorem kind_five (x : Nat) : ((kindW x : Int) == 5) = nanW x := by
  unfold kindW
  cases h : nanW x
  · simp only [Bool.false_eq_true, if_false]
    split
    · split <;> decide
    · split
      · split <;> decide
      · decide
  · simp
end Go.Proofs.Ytdgjgddobjhekaa
