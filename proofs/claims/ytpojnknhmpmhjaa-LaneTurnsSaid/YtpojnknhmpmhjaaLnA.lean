/-
  Rings in one memory, in the world; one goes on, the others stay. No statement is proved here.
-/
import Derived.Test.YtpojnknhmpmhjaaPlainLn
set_option linter.unusedVariables false
namespace Go.Proofs.Ytpojnknhmpmhjaa
open Go.RowKit

/-- Rings of one memory, each in a block of its own. -/
structure RgsAt (w : World) (lo b n : Nat) (rbs : Nat → Nat) (G : Nat → RgS) : Prop where
  ring : ∀ i, i < n → RingAt w lo b (rbs i) (G i)
  inj : ∀ i j, i < n → j < n → rbs i = rbs j → i = j
theorem RgsAt.tch {D : Nat → Prop} {w w' : World} {lo b n : Nat} {rbs : Nat → Nat} {G : Nat → RgS} (h : RgsAt w lo b n rbs G) (ht : Tch D w w') (hd : ∀ k, lo ≤ k → k < lo + 3 → ¬ D k) (hr : ∀ i, i < n → ¬ D (rbs i)) : RgsAt w' lo b n rbs G :=
  ⟨fun i hi => (h.ring i hi).tch ht hd (hr i hi), h.inj⟩
theorem RgsAt.below {w w' : World} {lo b n : Nat} {rbs : Nat → Nat} {G : Nat → RgS} (h : RgsAt w lo b n rbs G) (hb : Below w.heap.size w w') : RgsAt w' lo b n rbs G :=
  ⟨fun i hi => (h.ring i hi).below hb, h.inj⟩
/-- Ring k went on: nothing but the memory, itself, and new blocks or blocks of D behind all was turned. -/
theorem RgsAt.go {w w' : World} {lo b n : Nat} {rbs : Nat → Nat} {G : Nat → RgS} {D : Nat → Prop} (h : RgsAt w lo b n rbs G) {k : Nat} (hk : k < n) {g' : RgS} (hr : RingAt w' lo b (rbs k) g') (hC : ∀ i, i < n → i ≠ k → g'.m.C = (G i).m.C)
    (ht : Tch D w w') (hd : ∀ i, i < n → i ≠ k → ¬ D (rbs i)) : RgsAt w' lo b n rbs (updG G k g') := by
  refine ⟨fun i hi => ?_, h.inj⟩
  by_cases hik : i = k
  · subst hik; rw [updG_same]; exact hr
  · rw [updG_other G hik]
    have hi' := h.ring i hi
    exact ⟨hr.mem, rowIs_tch hi'.row ht (hd i hi hik), hi'.out, hi'.fits.withM (hC i hi hik)⟩
theorem RgsAt.goD {w w' : World} {lo b n pb : Nat} {rbs : Nat → Nat} {G : Nat → RgS} (h : RgsAt w lo b n rbs G) {k : Nat} (hk : k < n) {g' : RgS} (hr : RingAt w' lo b (rbs k) g') (hC : ∀ i, i < n → i ≠ k → g'.m.C = (G i).m.C)
    (ht : Tch (RingD lo (rbs k) pb) w w') (hp : ∀ i, i < n → rbs i ≠ pb) : RgsAt w' lo b n rbs (updG G k g') :=
  h.go hk hr hC ht fun i hi hik hd => by
    have h1 := (h.ring i hi).out
    rcases hd with hd | hd | hd
    · omega
    · exact hik (h.inj i k hi hk hd)
    · exact hp i hi hd
end Go.Proofs.Ytpojnknhmpmhjaa
