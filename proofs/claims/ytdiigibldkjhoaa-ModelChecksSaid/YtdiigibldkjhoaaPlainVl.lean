/-
  Rows of VLANs as lists, and the first place at which something holds. Nothing of the program is named here. No statement is proved here.
-/
import Derived.Test.YtdiigibldkjhoaaBase
import Derived.Test.YtdiigibldkjhoaaPlainVlan
namespace Go.Proofs.Ytdiigibldkjhoaa
open Go.RowKit

/-- A VLAN: its number, its ports, and those without a tag. -/
structure Vl where
  vid : Int
  mem : Nat
  unt : Nat
def vl0 : Vl := ⟨0, 0, 0⟩
def Vl.ok (x : Vl) : Prop := (-9223372036854775808 ≤ x.vid ∧ x.vid ≤ 9223372036854775807) ∧ x.mem < 18446744073709551616 ∧ x.unt < 18446744073709551616
def Vl.cells (x : Vl) : List Value := [.int .i64 x.vid, .int .u64 (x.mem : Nat), .int .u64 (x.unt : Nat)]
def vlc : List Vl → List Value
  | [] => []
  | x :: l => x.cells ++ vlc l
theorem vlc_length : ∀ l : List Vl, (vlc l).length = l.length * 3
  | [] => rfl
  | x :: l => by
    have := vlc_length l
    simp [vlc, Vl.cells, this]
    omega
theorem vlc_append : ∀ a b : List Vl, vlc (a ++ b) = vlc a ++ vlc b
  | [], b => rfl
  | x :: a, b => by simp [vlc, vlc_append a b]
theorem vlc_at : ∀ (l : List Vl) (j f : Nat), f < 3 → (vlc l)[j * 3 + f]? = (l[j]?).bind fun x => x.cells[f]?
  | [], j, f, _ => by simp [vlc]
  | x :: l, 0, f, h => by
    rw [vlc, List.getElem?_append_left (by simp [Vl.cells]; omega)]
    simp
  | x :: l, j + 1, f, h => by
    have := vlc_at l j f h
    rw [vlc, List.getElem?_append_right (by simp [Vl.cells]; omega)]
    have e : (j + 1) * 3 + f - x.cells.length = j * 3 + f := by simp [Vl.cells]; omega
    rw [e, this]
    simp
theorem vlc_take : ∀ (l : List Vl) (k : Nat), (vlc l).take (k * 3) = vlc (l.take k)
  | [], k => by simp [vlc]
  | x :: l, 0 => by simp [vlc]
  | x :: l, k + 1 => by
    have := vlc_take l k
    rw [vlc, List.take_append, List.take_of_length_le (by simp [Vl.cells]; omega)]
    have e : (k + 1) * 3 - x.cells.length = k * 3 := by simp [Vl.cells]; omega
    rw [e, this]
    simp [vlc]
theorem vlc_one (l : List Vl) : ∀ u ∈ vlc l, u.oneCell' = true := by
  induction l with
  | nil => simp [vlc]
  | cons x l ih =>
    intro u hu
    rw [vlc, List.mem_append] at hu
    rcases hu with h | h
    · simp [Vl.cells] at h
      rcases h with rfl | rfl | rfl <;> rfl
    · exact ih u h
theorem vl_ok {l : List Vl} (h : ∀ x ∈ l, x.ok) (k : Nat) : (l.getD k vl0).ok := by
  rw [List.getD_eq_getElem?_getD]
  rcases Nat.lt_or_ge k l.length with hk | hk
  · rw [List.getElem?_eq_getElem hk]; exact h _ (List.getElem_mem hk)
  · rw [List.getElem?_eq_none hk]
    simp [Vl.ok, vl0]
/-- The cells of such a row. -/
theorem Sl.vlAt {w : World} {B n : Nat} {v : Value} {l : List Vl} (h : Sl w B 3 v n (vlc l)) (hn : 0 < n) :
    ∃ b off cap, v = .slice (some ⟨b, off, none⟩) n cap ∧ n ≤ cap ∧ cap ≤ maxLen ∧ b < B ∧ l.length = n ∧
      ∀ j, j < n → w.cell? ⟨b, off + j * 3, none⟩ = some (.int .i64 (l.getD j vl0).vid) ∧ w.cell? ⟨b, off + j * 3 + 1, none⟩ = some (.int .u64 ((l.getD j vl0).mem : Nat)) ∧ w.cell? ⟨b, off + j * 3 + 2, none⟩ = some (.int .u64 ((l.getD j vl0).unt : Nat)) := by
  have hl := h.len
  rw [vlc_length] at hl
  obtain ⟨b, off, cap, rfl, h1, h2, h3, h4⟩ := h.at_ hn
  refine ⟨b, off, cap, rfl, h1, h2, h3, by omega, fun j hj => ?_⟩
  have hjl : j < l.length := by omega
  have a0 := h4 (j * 3 + 0) (by omega)
  have a1 := h4 (j * 3 + 1) (by omega)
  have a2 := h4 (j * 3 + 2) (by omega)
  rw [vlc_at l j _ (by omega), List.getElem?_eq_getElem hjl] at a0 a1 a2
  simp only [List.getD_eq_getElem?_getD, List.getElem?_eq_getElem hjl, Option.getD_some]
  exact ⟨a0, a1, a2⟩
theorem Sl.vlLen {w : World} {B n : Nat} {v : Value} {l : List Vl} (h : Sl w B 3 v n (vlc l)) : l.length = n := by
  have hl := h.len
  rw [vlc_length] at hl
  omega

/-- The first place below k at which f holds; -1: none. -/
def firstI (f : Nat → Bool) : Nat → Int
  | 0 => -1
  | k + 1 => if 0 ≤ firstI f k then firstI f k else if f k = true then (k : Int) else -1
theorem firstI_none (f : Nat → Bool) : ∀ k, (∀ i, i < k → f i = false) → firstI f k = -1
  | 0, _ => rfl
  | k + 1, h => by
    rw [firstI, firstI_none f k fun i hi => h i (by omega), if_neg (by omega), h k (by omega)]
    rfl
theorem firstI_at (f : Nat → Bool) (k : Nat) (h : ∀ i, i < k → f i = false) (hk : f k = true) : ∀ n, k < n → firstI f n = (k : Int)
  | 0, h0 => by omega
  | n + 1, h0 => by
    rw [firstI]
    rcases Nat.lt_or_ge k n with h1 | h1
    · rw [firstI_at f k h hk n h1, if_pos (by omega)]
    · obtain rfl : k = n := by omega
      rw [firstI_none f k h, if_neg (by omega), if_pos hk]
theorem firstI_bd (f : Nat → Bool) : ∀ k, -1 ≤ firstI f k ∧ firstI f k < k
  | 0 => by simp [firstI]
  | k + 1 => by
    have := firstI_bd f k
    rw [firstI]
    split
    · omega
    · split <;> omega
/-- Where a VLAN of a number stands; whether frames may come in; where they may go out. -/
def vidAt (l : List Vl) (vid : Int) (i : Nat) : Bool := (l.getD i vl0).vid == vid
def findN (l : List Vl) (vid : Int) (n : Nat) : Int := firstI (vidAt l vid) n
def enterN (l : List Vl) (vid port : Int) (n : Nat) : Nat := if findN l vid n < 0 then 7 else if hasB (l.getD (findN l vid n).toNat vl0).mem port = true then 0 else 8
def leaveN (l : List Vl) (vid port : Int) (n : Nat) : Nat := if findN l vid n < 0 then 0 else withoutN (l.getD (findN l vid n).toNat vl0).mem port
end Go.Proofs.Ytdiigibldkjhoaa
