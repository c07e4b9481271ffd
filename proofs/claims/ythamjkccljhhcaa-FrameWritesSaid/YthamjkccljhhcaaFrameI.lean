/-
  What both parsers answer, written out; and the words for the document's Out. No statement is proved here.
-/
import Derived.Test.YthamjkccljhhcaaFrameG
namespace Go.Proofs.Ythamjkccljhhcaa
open Go.RowKit

theorem ParsesTo.ok {l : List Nat} {w w' : World} {e : Ending} (h : ParsesTo l w e w') (he : errN l = 0) :
    ∃ A c, e = .returned (.tuple #[.agg #[.int .u64 (ofk l 6 : Nat), .int .u64 (ofk (l.drop 6) 6 : Nat), .bool (tagB l), .int .u16 ((if tagB l then num2 l 14 else 0 : Nat) : Int), .int .u16 (num2 l (headN l - 2) : Nat), .slice A (l.length - headN l) c], .int .i64 0]) ∧
      w'.ownsRow w.heap.size 5 1 (.slice A (l.length - headN l) c) (l.length - headN l) (bv (l.drop (headN l))) ∧ Below w.heap.size w w' := by
  obtain ⟨lv, h1, h2, h3⟩ := h
  have hp : parR l = parF l := by unfold parR; rw [if_pos he]
  rw [hp, he] at h1
  rw [hp] at h2
  have hn : (parF l).load.length = l.length - headN l := by simp [parF]
  rw [hn] at h2
  obtain ⟨A, c, rfl, _, _⟩ := (Sl.of_own h2).form
  exact ⟨A, c, h1, h2, h3⟩
theorem ParsesTo.err {l : List Nat} {w w' : World} {e : Ending} (h : ParsesTo l w e w') (he : errN l ≠ 0) :
    ∃ A c, e = .returned (.tuple #[.agg #[.int .u64 0, .int .u64 0, .bool false, .int .u16 0, .int .u16 0, .slice A 0 c], .int .i64 (errN l : Nat)]) ∧ w'.ownsRow w.heap.size 5 1 (.slice A 0 c) 0 [] ∧ Below w.heap.size w w' := by
  obtain ⟨lv, h1, h2, h3⟩ := h
  have hp : parR l = Fr.zero := by unfold parR; rw [if_neg he]
  rw [hp] at h1 h2
  obtain ⟨A, c, rfl, _, _⟩ := (Sl.of_own h2).form
  exact ⟨A, c, h1, h2, h3⟩
end Go.Proofs.Ythamjkccljhhcaa
