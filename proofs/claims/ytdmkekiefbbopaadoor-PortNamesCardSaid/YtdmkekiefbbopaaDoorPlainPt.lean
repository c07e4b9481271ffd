/-
  How a port stands, as plain numbers. No statement is proved here.
-/
import Derived.Test.YtdmkekiefbbopaaDoorPlainKy
set_option linter.unusedVariables false
namespace Go.Proofs.YtdmkekiefbbopaaDoor

def rightS (s : Int) : Bool := decide (0 ≤ s) && decide (s ≤ 4)
theorem rightS_iff {s : Int} : rightS s = true ↔ 0 ≤ s ∧ s ≤ 4 := by simp [rightS]
theorem rightS_no {s : Int} (h : ¬ (0 ≤ s ∧ s ≤ 4)) : rightS s = false := by
  rw [Bool.eq_false_iff]; exact fun e => h (rightS_iff.1 e)
def wordS (s : Int) (e : Nat) : Nat := if rightS s then e * 256 + s.toNat else 0
theorem wordS_yes {s : Int} {e : Nat} (h : rightS s = true) : wordS s e = e * 256 + s.toNat := if_pos h
theorem wordS_no {s : Int} {e : Nat} (h : rightS s = false) : wordS s e = 0 := by unfold wordS; rw [h]; rfl
def okS (w : Nat) : Bool := decide (w < 1099511627776) && decide (w % 256 ≤ 4)
theorem okS_iff {w : Nat} : okS w = true ↔ w < 1099511627776 ∧ w % 256 ≤ 4 := by simp [okS]
theorem okS_no {w : Nat} (h : ¬ (w < 1099511627776 ∧ w % 256 ≤ 4)) : okS w = false := by
  rw [Bool.eq_false_iff]; exact fun e => h (okS_iff.1 e)
def stateW (w : Nat) : Nat := if okS w then w % 256 else 0
def epochW (w : Nat) : Nat := if okS w then w / 256 else 0
theorem or_8 (s e : Nat) (hs : s < 256) : s ||| e * 256 = e * 256 + s := by
  have := Nat.shiftLeft_add_eq_or_of_lt (i := 8) (b := s) (by simpa using hs) e
  rw [Nat.shiftLeft_eq] at this
  rw [Nat.or_comm]
  simpa using this.symm
theorem wordS_lt (s : Int) (e : Nat) (he : e < 4294967296) : wordS s e < 1099511627776 := by
  unfold wordS
  split
  · rename_i h
    have := rightS_iff.1 h
    omega
  · omega
theorem okS_back {w : Nat} (h : okS w = true) : wordS (stateW w : Int) (epochW w) = w := by
  have h' := okS_iff.1 h
  unfold stateW epochW
  rw [if_pos h, if_pos h, wordS_yes (rightS_iff.2 (by omega))]
  omega
theorem wordS_back {s : Int} {e : Nat} (h : rightS s = true) (he : e < 4294967296) : okS (wordS s e) = true ∧ (stateW (wordS s e) : Int) = s ∧ epochW (wordS s e) = e := by
  have h' := rightS_iff.1 h
  have h1 := wordS_yes (e := e) h
  have ho : okS (wordS s e) = true := okS_iff.2 (by rw [h1]; omega)
  refine ⟨ho, ?_, ?_⟩
  · unfold stateW; rw [if_pos ho, h1]; omega
  · unfold epochW; rw [if_pos ho, h1]; omega
theorem epochW_lt (w : Nat) : epochW w < 4294967296 := by
  unfold epochW
  split
  · rename_i h; have := okS_iff.1 h; omega
  · omega
theorem stateW_le (w : Nat) : stateW w ≤ 4 := by
  unfold stateW
  split
  · rename_i h; have := okS_iff.1 h; omega
  · omega
end Go.Proofs.YtdmkekiefbbopaaDoor
