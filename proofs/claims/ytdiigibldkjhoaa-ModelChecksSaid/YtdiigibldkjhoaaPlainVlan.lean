/-
  Plain arithmetic of layer 3: sets of ports as numbers. Nothing of the program is named here. No statement is proved here.
-/
import Derived.Test.YtdiigibldkjhoaaPlain
namespace Go.Proofs.Ytdiigibldkjhoaa

theorem bit_lt {p : Nat} (hp : p < 64) : 2 ^ p < 18446744073709551616 := Nat.lt_of_lt_of_eq (Nat.pow_lt_pow_right (by omega) hp) (by decide)
theorem and_one (s k : Nat) : s &&& 2 ^ k = if s.testBit k = true then 2 ^ k else 0 := by
  apply Nat.eq_of_testBit_eq
  intro i
  rw [Nat.testBit_and, Nat.testBit_two_pow]
  split
  · rename_i h
    rw [Nat.testBit_two_pow]
    by_cases hk : k = i
    · subst hk; simp [h]
    · simp [hk]
  · rename_i h
    by_cases hk : k = i
    · subst hk; simp [h]
    · simp [hk]
theorem or_bit_same {s k : Nat} (h : s.testBit k = true) : s ||| 2 ^ k = s := by
  apply Nat.eq_of_testBit_eq
  intro i
  rw [Nat.testBit_or, Nat.testBit_two_pow]
  by_cases hk : k = i
  · subst hk; simp [h]
  · simp [hk]
theorem or_bit_add {s k : Nat} (hs : s < 18446744073709551616) (hk : k < 64) (h : s.testBit k = false) : s ||| 2 ^ k = s + 2 ^ k := by
  have h1 := bit_lt hk
  have hx : (BitVec.ofNat 65 s).toNat = s := by rw [BitVec.toNat_ofNat]; exact Nat.mod_eq_of_lt (by omega)
  have hy : (BitVec.ofNat 65 (2 ^ k)).toNat = 2 ^ k := by rw [BitVec.toNat_ofNat]; exact Nat.mod_eq_of_lt (by omega)
  have h0 : BitVec.ofNat 65 s &&& BitVec.ofNat 65 (2 ^ k) = 0#65 := by
    apply BitVec.eq_of_toNat_eq
    rw [BitVec.toNat_and, hx, hy, and_one, h]
    rfl
  have := congrArg BitVec.toNat (BitVec.add_eq_or_of_and_eq_zero _ _ h0)
  rw [BitVec.toNat_add, BitVec.toNat_or, hx, hy, Nat.mod_eq_of_lt (by omega)] at this
  exact this.symm
/-- Is a port in a set? The set with it, and without it. -/
def hasB (s : Nat) (p : Int) : Bool := decide (0 ≤ p ∧ p < 64) && s.testBit p.toNat
def withN (s : Nat) (p : Int) : Nat := if 0 ≤ p ∧ p < 64 then s ||| 2 ^ p.toNat else s
def withoutN (s : Nat) (p : Int) : Nat := if hasB s p = true then s - 2 ^ p.toNat else s
theorem hasB_out (s : Nat) {p : Int} (hp : p < 0 ∨ 64 ≤ p) : hasB s p = false := by
  unfold hasB
  rw [decide_eq_false (by omega)]; rfl
theorem hasB_in (s : Nat) {k : Nat} (hk : k < 64) : hasB s (k : Int) = s.testBit k := by
  unfold hasB
  rw [decide_eq_true (by omega), Int.toNat_natCast]; rfl
theorem has_and (s k : Nat) : (((s &&& 2 ^ k : Nat) : Int) != 0) = s.testBit k := by
  rw [and_one]
  have : 0 < 2 ^ k := Nat.two_pow_pos k
  generalize 2 ^ k = y at *
  cases h : s.testBit k
  · simp
  · simp
    omega
theorem withN_out (s : Nat) {p : Int} (hp : p < 0 ∨ 64 ≤ p) : withN s p = s := by unfold withN; rw [if_neg (by omega)]
theorem withN_in (s : Nat) {k : Nat} (hk : k < 64) : withN s (k : Int) = s ||| 2 ^ k := by unfold withN; rw [if_pos (by omega), Int.toNat_natCast]
theorem withoutN_out (s : Nat) {p : Int} (hp : p < 0 ∨ 64 ≤ p) : withoutN s p = s := by unfold withoutN; rw [hasB_out s hp]; rfl
theorem withoutN_in (s : Nat) {k : Nat} (hk : k < 64) : withoutN s (k : Int) = if s.testBit k = true then s - 2 ^ k else s := by unfold withoutN; rw [hasB_in s hk, Int.toNat_natCast]
/-- Without a bit, by what the bits of both are. -/
theorem without_of_bits {s k t : Nat} (hs : t < 18446744073709551616) (hk : k < 64) (h : ∀ i, t.testBit i = (s.testBit i && !decide (k = i))) : t = if s.testBit k = true then s - 2 ^ k else s := by
  have ht : t.testBit k = false := by rw [h k]; simp
  split
  · rename_i hb
    have e : t ||| 2 ^ k = s := by
      apply Nat.eq_of_testBit_eq
      intro i
      rw [Nat.testBit_or, Nat.testBit_two_pow, h i]
      by_cases hk : k = i
      · subst hk; simp [hb]
      · simp [hk]
    rw [or_bit_add hs hk ht] at e
    omega
  · rename_i hb
    apply Nat.eq_of_testBit_eq
    intro i
    rw [h i]
    by_cases hk : k = i
    · subst hk; simp at hb; simp [hb]
    · simp [hk]
theorem andNot_one {s k : Nat} (hs : s < 18446744073709551616) (hk : k < 64) : s &&& (18446744073709551615 - 2 ^ k) = if s.testBit k = true then s - 2 ^ k else s := by
  have h1 := bit_lt hk
  refine without_of_bits (Nat.lt_of_le_of_lt Nat.and_le_left hs) hk fun i => ?_
  have e : 18446744073709551615 - 2 ^ k = 2 ^ 64 - (2 ^ k + 1) := by omega
  rw [Nat.testBit_and, e, Nat.testBit_two_pow_sub_succ (by omega), Nat.testBit_two_pow]
  by_cases hi : i < 64
  · simp [hi]
  · have : s.testBit i = false := Nat.testBit_lt_two_pow (Nat.lt_of_lt_of_le hs (show 2 ^ 64 ≤ 2 ^ i from Nat.pow_le_pow_right (by omega) (by omega)))
    simp [this]
theorem and_all {s : Nat} (hs : s < 18446744073709551616) : s &&& (18446744073709551615 - 0) = s := by
  have := Nat.and_two_pow_sub_one_eq_mod s 64
  have h2 : s % 2 ^ 64 = s := Nat.mod_eq_of_lt hs
  rw [h2] at this
  exact this
theorem withoutN_lt {s : Nat} (hs : s < 18446744073709551616) (p : Int) : withoutN s p < 18446744073709551616 := by
  unfold withoutN
  split
  · exact Nat.lt_of_le_of_lt (Nat.sub_le _ _) hs
  · exact hs
theorem withN_lt {s : Nat} (hs : s < 18446744073709551616) (p : Int) : withN s p < 18446744073709551616 := by
  unfold withN
  split
  · exact Nat.or_lt_two_pow (n := 64) hs (bit_lt (by omega))
  · exact hs
end Go.Proofs.Ytdiigibldkjhoaa
