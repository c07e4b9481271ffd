/-
  Plain arithmetic of layer 2's tags. Nothing of the program is named here. No statement is proved here.
-/
import Derived.Test.YthamjkccljhhcaaPlainFrame
namespace Go.Proofs.Ythamjkccljhhcaa

theorem or_vid (a b : Nat) (hb : b < 4096) : (a * 4096) ||| b = a * 4096 + b := by
  have := Nat.shiftLeft_add_eq_or_of_lt (i := 12) (b := b) (by simpa using hb) a
  rw [Nat.shiftLeft_eq] at this
  simpa using this.symm
theorem and_high (t : Nat) (ht : t < 65536) : t &&& 61440 = t / 4096 * 4096 := by
  have e1 : (61440 : Nat) = (2 ^ 4 - 1) <<< 12 := by decide
  have e2 : t / 4096 * 4096 = (t >>> 12) <<< 12 := by rw [Nat.shiftLeft_eq, Nat.shiftRight_eq_div_pow]
  rw [e1, e2]
  apply Nat.eq_of_testBit_eq
  intro i
  simp only [Nat.testBit_and, Nat.testBit_shiftLeft, Nat.testBit_shiftRight, Nat.testBit_two_pow_sub_one]
  by_cases h12 : i ≥ 12
  · by_cases h16 : i < 16
    · have : i - 12 < 4 := by omega
      have e : 12 + (i - 12) = i := by omega
      simp [h12, this, e]
    · have : t.testBit i = false := Nat.testBit_lt_two_pow (Nat.lt_of_lt_of_le ht (by
        have : 2 ^ 16 ≤ 2 ^ i := Nat.pow_le_pow_right (by omega) (by omega)
        simpa using this))
      have e : 12 + (i - 12) = i := by omega
      simp [h12, this, e]
  · simp [h12]
theorem and_vid (t : Nat) : t &&& 4095 = t % 4096 := by
  have := Nat.and_two_pow_sub_one_eq_mod t 12
  simpa using this
theorem oErr_bad {l : List Nat} (h : errN l ≠ 0) (t : Bool) (v : Int) : oErr l t v = errN l := by unfold oErr; rw [if_pos h]
theorem oErr_vid {l : List Nat} (h : errN l = 0) {v : Int} (hv : v < 1 ∨ 4094 < v) : oErr l true v = 6 := by unfold oErr; rw [if_neg (by omega), if_pos ⟨rfl, hv⟩]
theorem oErr_tag {l : List Nat} (h : errN l = 0) {v : Int} (h1 : 1 ≤ v) (h2 : v ≤ 4094) : oErr l true v = 0 := by unfold oErr; rw [if_neg (by omega), if_neg (by omega)]
theorem oErr_plain {l : List Nat} (h : errN l = 0) (v : Int) : oErr l false v = 0 := by unfold oErr; rw [if_neg (by omega), if_neg (by simp)]
/-- What both answer. -/
def outR (l : List Nat) (tagged : Bool) (vid : Int) : List Nat := if oErr l tagged vid = 0 then oBytes l tagged vid.toNat else []
end Go.Proofs.Ythamjkccljhhcaa
