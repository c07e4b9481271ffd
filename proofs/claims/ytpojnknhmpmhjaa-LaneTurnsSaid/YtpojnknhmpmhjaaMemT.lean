/-
  Layer 6's told; what is done by its number, at the program's memory and at the document's. No statement is proved here.
-/
import Derived.Test.YtpojnknhmpmhjaaMemD
import Derived.Deep.QuietTactic
set_option linter.unusedVariables false
namespace Go.Proofs.Ytpojnknhmpmhjaa
open Go.RowKit

theorem MemDid.at_ {T : TypeId} {lo b : Nat} {s s' : MemS} {v v' : Value} {w : World} {e : Ending} {w' : World} (h : MemDid T lo b s v w e w') (hv : v = v') (hs : s = s') : e = .returned v' ∧ MemAt w' T lo b s' ∧ Touch lo w w' := by
  subst hv hs; exact h
theorem MemAt.lo_lt {w : World} {T : TypeId} {lo b : Nat} {s : MemS} (h : MemAt w T lo b s) : lo + 3 ≤ w.heap.size := by
  obtain ⟨bc, bl, h⟩ := h
  have := h.own.lt
  have := h.cells.lt
  have := h.locks.lt
  have := h.b1
  have := h.b2
  have := h.c1
  have := h.c2
  have := h.l1
  have := h.l2
  have := h.n1
  have := h.n2
  have := h.n3
  omega

/-- What is done by its number: what it answers, and how the memory is then. -/
def opV (k : Nat) (a who : Int) (s : MemS) : Int :=
  if k = 0 then peekS s a else if k = 1 then 0 else if k = 2 then (if takeB s a who = true then 1 else 0) else if k = 3 then (if freeB s a who = true then 1 else 0) else if k = 4 then peekS s a else IntKind.u64.wrap (holdS s a)
def opS (k : Nat) (a who v : Int) (s : MemS) : MemS :=
  if k = 0 then loadS s a else if k = 1 then storeS s a v else if k = 2 then takeS s a who else if k = 3 then freeS s a who else s
theorem loadS_t (s : MemS) (i : Int) : (loadS s i).t ≤ s.t + 1 := by
  unfold loadS
  split
  · exact Int.le_refl _
  · omega
theorem storeS_t (s : MemS) (i v : Int) : (storeS s i v).t ≤ s.t + 1 := by
  unfold storeS
  split
  · exact Int.le_refl _
  · omega
theorem takeS_t (s : MemS) (l who : Int) : (takeS s l who).t ≤ s.t + 1 := by
  unfold takeS
  split
  · split
    · exact Int.le_refl _
    · exact Int.le_refl _
  · omega
theorem freeS_t (s : MemS) (l who : Int) : (freeS s l who).t ≤ s.t + 1 := by
  unfold freeS
  split
  · split
    · exact Int.le_refl _
    · exact Int.le_refl _
  · omega
theorem opS_t (k : Nat) (a who v : Int) (s : MemS) : (opS k a who v s).t ≤ s.t + 1 := by
  unfold opS
  split
  · exact loadS_t _ _
  · split
    · exact storeS_t _ _ _
    · split
      · exact takeS_t _ _ _
      · split
        · exact freeS_t _ _ _
        · omega

end Go.Proofs.Ytpojnknhmpmhjaa
