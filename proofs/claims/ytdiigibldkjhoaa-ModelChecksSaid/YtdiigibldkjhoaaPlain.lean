/-
  Plain arithmetic of layers 1 to 3: bytes of a number, an address's kind, its text. Nothing of the program is named here. No statement is proved here.
-/
import Derived.Laws.BitsAllLaws
import Derived.Below
namespace Go.Proofs.Ytdiigibldkjhoaa

theorem and_low (m : Nat) : m &&& 281474976710655 = m % 281474976710656 := by
  have := Nat.and_two_pow_sub_one_eq_mod m 48
  simpa using this
theorem andNot_15 (a : Nat) (ha : a < 18446744073709551616) : a &&& (18446744073709551615 - 15) = a / 16 * 16 := by
  have e1 : (18446744073709551615 - 15 : Nat) = (2 ^ 60 - 1) <<< 4 := by decide
  have e2 : a / 16 * 16 = (a >>> 4) <<< 4 := by rw [Nat.shiftLeft_eq, Nat.shiftRight_eq_div_pow]
  rw [e1, e2]
  apply Nat.eq_of_testBit_eq
  intro i
  simp only [Nat.testBit_and, Nat.testBit_shiftLeft, Nat.testBit_shiftRight, Nat.testBit_two_pow_sub_one]
  by_cases h4 : i ≥ 4
  · by_cases h64 : i < 64
    · have : i - 4 < 60 := by omega
      have e : 4 + (i - 4) = i := by omega
      simp [h4, this, e]
    · have : a.testBit i = false := Nat.testBit_lt_two_pow (Nat.lt_of_lt_of_le ha (by
        have : 2 ^ 64 ≤ 2 ^ i := Nat.pow_le_pow_right (by omega) (by omega)
        simpa using this))
      have e : 4 + (i - 4) = i := by omega
      simp [h4, this, e]
  · simp [h4]
theorem and_bit (a k : Nat) : a &&& 2 ^ k = (a / 2 ^ k % 2) * 2 ^ k := by
  have hc : a.testBit k = decide (a / 2 ^ k % 2 = 1) := Nat.testBit_eq_decide_div_mod_eq ..
  have h2 : a / 2 ^ k % 2 = 0 ∨ a / 2 ^ k % 2 = 1 := by omega
  apply Nat.eq_of_testBit_eq
  intro i
  rw [Nat.testBit_and, Nat.testBit_two_pow]
  by_cases hi : k = i
  · subst hi
    rcases h2 with h | h <;> simp [hc, h]
  · rcases h2 with h | h <;> simp [h, hi]
theorem and_40 (a : Nat) : a &&& 1099511627776 = (a / 1099511627776 % 2) * 1099511627776 := by
  have := and_bit a 40
  simpa using this
theorem and_41 (a : Nat) : a &&& 2199023255552 = (a / 2199023255552 % 2) * 2199023255552 := by
  have := and_bit a 41
  simpa using this
theorem and_15 (a : Nat) : a &&& 15 = a % 16 := by
  have := Nat.and_two_pow_sub_one_eq_mod a 4
  simpa using this
theorem or_byte (a b : Nat) (hb : b < 256) : (a * 256) ||| b = a * 256 + b := by
  have := Nat.shiftLeft_add_eq_or_of_lt (i := 8) (b := b) (by simpa using hb) a
  rw [Nat.shiftLeft_eq] at this
  simpa using this.symm
theorem or_nib (a b : Nat) (hb : b < 16) : (a * 16) ||| b = a * 16 + b := by
  have := Nat.shiftLeft_add_eq_or_of_lt (i := 4) (b := b) (by simpa using hb) a
  rw [Nat.shiftLeft_eq] at this
  simpa using this.symm

/-- The six bytes of an address. -/
def mb (m : Nat) : List Nat := [m / 1099511627776 % 256, m / 4294967296 % 256, m / 16777216 % 256, m / 65536 % 256, m / 256 % 256, m % 256]
theorem mb_length (m : Nat) : (mb m).length = 6 := rfl
theorem mb_lt (m : Nat) : ∀ x ∈ mb m, x < 256 := by
  intro x hx
  simp only [mb, List.mem_cons, List.not_mem_nil, or_false] at hx
  omega
/-- The last k of them. -/
def lastk (m : Nat) : Nat → List Nat
  | 0 => []
  | k + 1 => (m / 256 ^ k % 256) :: lastk m k
theorem lastk_length (m k : Nat) : (lastk m k).length = k := by
  induction k with
  | zero => rfl
  | succ k ih => simp [lastk, ih]
theorem lastk_six (m : Nat) : lastk m 6 = mb m := by simp [lastk, mb]
theorem mb_low (m : Nat) : mb (m % 281474976710656) = mb m := by
  simp only [mb, List.cons.injEq, and_true]
  omega
/-- Its kind. -/
def kindN (m : Nat) : Nat :=
  if m % 281474976710656 = 281474976710655 then 2 else if m % 281474976710656 / 16 * 16 = 1652522221568 then 3 else m / 1099511627776 % 2
theorem reserved_iff (m : Nat) : m % 281474976710656 / 16 * 16 = 1652522221568 ↔
    (m / 1099511627776 % 256 = 1 ∧ m / 4294967296 % 256 = 128 ∧ m / 16777216 % 256 = 194 ∧ m / 65536 % 256 = 0 ∧ m / 256 % 256 = 0 ∧ m % 256 < 16) := by
  omega
def localN (m : Nat) : Bool := decide (m / 2199023255552 % 2 = 1)

/-- A digit of base 16. -/
def digN (c : Nat) : Option Nat := if 48 ≤ c ∧ c ≤ 57 then some (c - 48) else if 97 ≤ c ∧ c ≤ 102 then some (c - 87) else none
theorem digN_lt {c d : Nat} (h : digN c = some d) : d < 16 := by
  unfold digN at h
  split at h
  · simp at h; omega
  · split at h
    · simp at h; omega
    · simp at h
/-- The number of the first k signs. -/
def parK (s : List Nat) : Nat → Option Nat
  | 0 => some 0
  | k + 1 => match parK s k with
    | none => none
    | some n => if k % 3 = 2 then (if s.getD k 0 = 45 then some n else none) else match digN (s.getD k 0) with
      | none => none
      | some d => some (n * 16 + d)
def parseN (s : List Nat) : Option Nat := if s.length = 17 then parK s 17 else none
theorem parK_none {s : List Nat} {k j : Nat} (h : parK s k = none) (hj : k ≤ j) : parK s j = none := by
  induction j with
  | zero => have : k = 0 := by omega
            subst this; exact h
  | succ j ih =>
    rcases Nat.lt_or_ge k (j + 1) with hlt | hge
    · rw [parK, ih (by omega)]
    · have : k = j + 1 := by omega
      subst this; exact h
theorem parK_sep {s : List Nat} {k n : Nat} (h : parK s k = some n) (hk : k % 3 = 2) : parK s (k + 1) = if s.getD k 0 = 45 then some n else none := by rw [parK, h]; simp only [hk, if_true]
theorem parK_dig {s : List Nat} {k n : Nat} (h : parK s k = some n) (hk : k % 3 ≠ 2) : parK s (k + 1) = (digN (s.getD k 0)).map (n * 16 + ·) := by
  rw [parK, h]; simp only [hk, if_false]
  cases digN (s.getD k 0) <;> rfl
/-- The number grows by at most a digit a sign, and not at a separator. -/
theorem parK_lt {s : List Nat} {k n : Nat} (h : parK s k = some n) : n < 16 ^ (k - k / 3) := by
  induction k generalizing n with
  | zero => simp [parK] at h; subst h; simp
  | succ k ih =>
    cases hp : parK s k with
    | none => rw [parK, hp] at h; simp at h
    | some m =>
      have hm := ih hp
      by_cases hk : k % 3 = 2
      · rw [parK_sep hp hk] at h
        split at h
        · simp at h; subst h
          have : k + 1 - (k + 1) / 3 = k - k / 3 := by omega
          rw [this]; exact hm
        · simp at h
      · rw [parK_dig hp hk] at h
        cases hd : digN (s.getD k 0) with
        | none => rw [hd] at h; simp at h
        | some d =>
          rw [hd] at h
          simp at h
          have hd16 := digN_lt hd
          have : k + 1 - (k + 1) / 3 = (k - k / 3) + 1 := by omega
          rw [this, Nat.pow_succ]
          omega
theorem parK_small {s : List Nat} {k n : Nat} (h : parK s k = some n) (hk : k ≤ 17) : n < 281474976710656 :=
  Nat.lt_of_lt_of_le (parK_lt h) (by
    have : 16 ^ (k - k / 3) ≤ 16 ^ 12 := Nat.pow_le_pow_right (by omega) (by omega)
    simpa using this)
/-- A string's bytes as numbers. -/
def sl (s : ByteArray) : List Nat := s.data.toList.map (·.toNat)
theorem sl_length (s : ByteArray) : (sl s).length = s.size := by simp [sl]
theorem sl_at (s : ByteArray) (k : Nat) (h : k < s.size) : (s[k]'h).toNat = (sl s).getD k 0 := by
  have h2 : k < s.data.size := h
  have e : s.data[k]? = some (s[k]'h) := Array.getElem?_eq_getElem h2
  simp [sl, List.getD_eq_getElem?_getD, List.getElem?_map, e]
theorem sl_lt (s : ByteArray) (k : Nat) : (sl s).getD k 0 < 256 := by
  rcases Nat.lt_or_ge k s.size with h | h
  · rw [← sl_at s k h]; exact UInt8.toNat_lt _
  · rw [List.getD_eq_getElem?_getD, List.getElem?_eq_none (by rw [sl_length]; exact h)]; simp

/-- A digit's sign; the text of an address's first k bytes. -/
def hexc (d : Nat) : Nat := if d < 10 then 48 + d else 87 + d
def texK (m : Nat) : Nat → List Nat
  | 0 => []
  | k + 1 => texK m k ++ (if 0 < k then [45] else []) ++ [hexc ((mb m).getD k 0 / 16), hexc ((mb m).getD k 0 % 16)]
theorem texK_length (m k : Nat) : (texK m k).length = if k = 0 then 0 else 3 * k - 1 := by
  induction k with
  | zero => rfl
  | succ k ih =>
    rw [texK]
    by_cases h : k = 0
    · subst h; simp [texK]
    · simp [ih, h, show 0 < k by omega]; omega
theorem hexc_lt (d : Nat) (h : d < 16) : hexc d < 256 := by unfold hexc; split <;> omega
theorem mb_getD_lt (m k : Nat) : (mb m).getD k 0 < 256 := by
  rw [List.getD_eq_getElem?_getD]
  rcases Nat.lt_or_ge k (mb m).length with h | h
  · rw [List.getElem?_eq_getElem h]; exact mb_lt m _ (List.getElem_mem h)
  · rw [List.getElem?_eq_none h]; simp
theorem texK_lt (m k : Nat) : ∀ x ∈ texK m k, x < 256 := by
  induction k with
  | zero => simp [texK]
  | succ k ih =>
    intro x hx
    have hb := mb_getD_lt m k
    have h1 := hexc_lt ((mb m).getD k 0 / 16) (by omega)
    have h2 := hexc_lt ((mb m).getD k 0 % 16) (by omega)
    rw [texK] at hx
    simp only [List.mem_append, List.mem_cons, List.not_mem_nil, or_false] at hx
    rcases hx with (hx | hx) | hx | hx
    · exact ih x hx
    · split at hx
      · simp at hx; omega
      · simp at hx
    · omega
    · omega
def texN (m : Nat) : List Nat := texK m 6
/-- Numbers as a string of bytes. -/
def stB (l : List Nat) : ByteArray := ⟨(l.map UInt8.ofNat).toArray⟩
theorem stB_append (a b : List Nat) : stB a ++ stB b = stB (a ++ b) := by
  apply ByteArray.ext
  simp [stB, ByteArray.data_append]
theorem stB_size (l : List Nat) : (stB l).size = l.length := by
  show (stB l).data.size = _
  simp [stB]
theorem sl_stB (l : List Nat) (h : ∀ x ∈ l, x < 256) : sl (stB l) = l := by
  unfold sl stB
  simp only [List.map_map]
  conv => rhs; rw [← List.map_id l]
  apply List.map_congr_left
  intro x hx
  have := h x hx
  simp
  omega
theorem stB_sl (s : ByteArray) : stB (sl s) = s := by
  apply ByteArray.ext
  simp [stB, sl, Function.comp_def]
end Go.Proofs.Ytdiigibldkjhoaa
