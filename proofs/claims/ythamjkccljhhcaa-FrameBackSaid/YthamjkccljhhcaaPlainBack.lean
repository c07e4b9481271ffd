/-
  A frame that gets a tag, and loses it again, or gets another one. Nothing of the program is named here. No statement is proved here.
-/
import Derived.Test.YthamjkccljhhcaaPlainOut
namespace Go.Proofs.Ythamjkccljhhcaa

def atN (l : List Nat) : Nat := if tagB l then 16 else 12
def tciN (l : List Nat) : Nat := if tagB l then num2 l 14 else 0
/-- The bytes with a tag, written out. -/
def tagged (l : List Nat) (k : Nat) : List Nat := l.take 12 ++ ([129, 0] ++ by2 k) ++ l.drop (atN l)
theorem head_at (l : List Nat) : headN l = atN l + 2 := by unfold headN atN; split <;> rfl
theorem at_cases (l : List Nat) : atN l = 12 ∨ atN l = 16 := by unfold atN; split <;> omega
theorem at_len {l : List Nat} (h : errN l = 0) : 60 ≤ l.length ∧ l.length ≤ 1502 + atN l := by
  obtain ⟨h1, h2, _⟩ := errN_ok h
  rw [head_at] at h2
  omega
theorem tagged_len {l : List Nat} (h : errN l = 0) (k : Nat) : (tagged l k).length = l.length - atN l + 16 := by
  obtain ⟨h1, h2⟩ := at_len h
  unfold tagged by2
  simp
  omega
theorem tagged_take {l : List Nat} (h : errN l = 0) (k : Nat) : (tagged l k).take 12 = l.take 12 := by
  obtain ⟨h1, h2⟩ := at_len h
  have h12 : (l.take 12).length = 12 := by rw [List.length_take]; omega
  unfold tagged
  rw [List.append_assoc, List.take_append_of_le_length (by omega), List.take_of_length_le (by omega)]
theorem tagged_drop {l : List Nat} (h : errN l = 0) (k : Nat) : (tagged l k).drop 16 = l.drop (atN l) := by
  obtain ⟨h1, h2⟩ := at_len h
  have h16 : (l.take 12 ++ ([129, 0] ++ by2 k)).length = 16 := by simp [by2]; omega
  unfold tagged
  rw [List.drop_append_of_le_length (by omega), List.drop_of_length_le (by omega)]
  rfl
theorem tagged_mid {l : List Nat} (h : errN l = 0) (k : Nat) (i : Nat) (hi : i < 4) : (tagged l k).getD (12 + i) 0 = [129, 0, k / 256, k % 256].getD i 0 := by
  obtain ⟨h1, h2⟩ := at_len h
  have h12 : (l.take 12).length = 12 := by rw [List.length_take]; omega
  unfold tagged by2
  rw [List.append_assoc, List.getD_eq_getElem?_getD, List.getElem?_append_right (by omega), h12, show 12 + i - 12 = i by omega, List.getElem?_append_left (by simp; omega), ← List.getD_eq_getElem?_getD]
  rfl
theorem tagged_tells {l : List Nat} (h : errN l = 0) (k : Nat) : errN (tagged l k) = 0 ∧ tagB (tagged l k) = true ∧ num2 (tagged l k) 14 = k := by
  obtain ⟨h1, h2⟩ := at_len h
  have m0 := tagged_mid h k 0 (by omega)
  have m1 := tagged_mid h k 1 (by omega)
  have m2 := tagged_mid h k 2 (by omega)
  have m3 := tagged_mid h k 3 (by omega)
  simp at m0 m1 m2 m3
  have n12 : num2 (tagged l k) 12 = 33024 := by
    show (tagged l k).getD 12 0 * 256 + (tagged l k).getD 13 0 = _
    simp only [List.getD_eq_getElem?_getD]
    rw [m0, m1]
  have n14 : num2 (tagged l k) 14 = k := by
    show (tagged l k).getD 14 0 * 256 + (tagged l k).getD 15 0 = _
    simp only [List.getD_eq_getElem?_getD]
    rw [m2, m3]; omega
  have ht : tagB (tagged l k) = true := by unfold tagB; rw [n12]; rfl
  refine ⟨?_, ht, n14⟩
  have hh : headN (tagged l k) = 18 := by unfold headN; rw [ht]; rfl
  have hty : num2 (tagged l k) 16 = num2 l (atN l) := by
    have e1 := num2_drop (tagged l k) 16 0
    have e2 := num2_drop l (atN l) 0
    rw [tagged_drop h k] at e1
    rw [e2] at e1
    exact e1.symm
  obtain ⟨_, _, hm⟩ := errN_ok h
  rw [head_at, show atN l + 2 - 2 = atN l by omega] at hm
  have hlen := tagged_len h k
  have hat := at_cases l
  unfold errN
  rw [hh, hlen, if_neg (by omega), if_neg (by omega), hty, show l.length - atN l + 16 - 18 = l.length - (atN l + 2) by omega, hm]
  rfl
end Go.Proofs.Ythamjkccljhhcaa
