/-
  A switch's rules as lists, and what is asked of a plan. Nothing of the program is named here. No statement is proved here.
-/
import Derived.Test.YtdiigibldkjhoaaBase
import Derived.Test.YtdiigibldkjhoaaPlainVl
import Derived.Test.YtdiigibldkjhoaaPlainVlanC
namespace Go.Proofs.Ytdiigibldkjhoaa
open Go.RowKit

/-- A port's rule: the VLAN of frames that tell none, which frames it takes. -/
structure Rl where
  pv : Int
  ac : Int
def rl0 : Rl := ⟨0, 0⟩
def Rl.cells (x : Rl) : List Value := [.int .i64 x.pv, .int .i64 x.ac]
def rlc : List Rl → List Value
  | [] => []
  | x :: l => x.cells ++ rlc l
theorem rlc_length : ∀ l : List Rl, (rlc l).length = l.length * 2
  | [] => rfl
  | x :: l => by
    have := rlc_length l
    simp [rlc, Rl.cells, this]
    omega
theorem rlc_append : ∀ a b : List Rl, rlc (a ++ b) = rlc a ++ rlc b
  | [], b => rfl
  | x :: a, b => by simp [rlc, rlc_append a b]
theorem rlc_at : ∀ (l : List Rl) (j f : Nat), f < 2 → (rlc l)[j * 2 + f]? = (l[j]?).bind fun x => x.cells[f]?
  | [], j, f, _ => by simp [rlc]
  | x :: l, 0, f, h => by
    rw [rlc, List.getElem?_append_left (by simp [Rl.cells]; omega)]
    simp
  | x :: l, j + 1, f, h => by
    have := rlc_at l j f h
    rw [rlc, List.getElem?_append_right (by simp [Rl.cells]; omega)]
    have e : (j + 1) * 2 + f - x.cells.length = j * 2 + f := by simp [Rl.cells]; omega
    rw [e, this]
    simp
theorem rlc_one (l : List Rl) : ∀ u ∈ rlc l, u.oneCell' = true := by
  induction l with
  | nil => simp [rlc]
  | cons x l ih =>
    intro u hu
    rw [rlc, List.mem_append] at hu
    rcases hu with h | h
    · simp [Rl.cells] at h
      rcases h with rfl | rfl <;> rfl
    · exact ih u h
/-- The cells of such a row. -/
theorem Sl.rlAt {w : World} {B n : Nat} {v : Value} {l : List Rl} (h : Sl w B 2 v n (rlc l)) (hn : 0 < n) :
    ∃ b off cap, v = .slice (some ⟨b, off, none⟩) n cap ∧ n ≤ cap ∧ cap ≤ maxLen ∧ b < B ∧ l.length = n ∧
      ∀ j, j < n → w.cell? ⟨b, off + j * 2, none⟩ = some (.int .i64 (l.getD j rl0).pv) ∧ w.cell? ⟨b, off + j * 2 + 1, none⟩ = some (.int .i64 (l.getD j rl0).ac) := by
  have hl := h.len
  rw [rlc_length] at hl
  obtain ⟨b, off, cap, rfl, h1, h2, h3, h4⟩ := h.at_ hn
  refine ⟨b, off, cap, rfl, h1, h2, h3, by omega, fun j hj => ?_⟩
  have hjl : j < l.length := by omega
  have a0 := h4 (j * 2 + 0) (by omega)
  have a1 := h4 (j * 2 + 1) (by omega)
  rw [rlc_at l j _ (by omega), List.getElem?_eq_getElem hjl] at a0 a1
  simp only [List.getD_eq_getElem?_getD, List.getElem?_eq_getElem hjl, Option.getD_some]
  exact ⟨a0, a1⟩
theorem Sl.rlLen {w : World} {B n : Nat} {v : Value} {l : List Rl} (h : Sl w B 2 v n (rlc l)) : l.length = n := by
  have hl := h.len
  rw [rlc_length] at hl
  omega
/-- Is a rule none that may be? -/
def badR (l : List Rl) (k : Nat) : Bool := !(ruleB (l.getD k rl0).pv (l.getD k rl0).ac)
/-- The first place whose rule may not be: m (the length: there is none). -/
def FirstBad (l : List Rl) (n m : Nat) : Prop := m ≤ n ∧ (∀ i, i < m → badR l i = false) ∧ (m < n → badR l m = true)
theorem firstBad_ex (l : List Rl) : ∀ n, ∃ m, FirstBad l n m
  | 0 => ⟨0, Nat.le_refl _, fun i h => by omega, fun h => by omega⟩
  | n + 1 => by
    obtain ⟨m, h1, h2, h3⟩ := firstBad_ex l n
    by_cases e : m < n
    · exact ⟨m, by omega, h2, fun _ => h3 e⟩
    · have e' : m = n := by omega
      subst e'
      cases hb : badR l m
      · exact ⟨m + 1, by omega, fun i hi => by
          by_cases f : i = m
          · rw [f]; exact hb
          · exact h2 i (by omega), fun h => by omega⟩
      · exact ⟨m, by omega, h2, fun _ => hb⟩
def withinI (n most : Int) : Bool := decide (1 ≤ n) && decide (n ≤ most)
end Go.Proofs.Ytdiigibldkjhoaa
