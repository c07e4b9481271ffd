/-
  An argument opened: a slice of numbers of 64 bits. No statement is proved here.
-/
import Derived.Test.YtfijjipdnejenaaWords
namespace Go.Proofs.Ytfijjipdnejenaa
open Go.ChangeShapes Go.WideShapes Go.RowKit
section
variable {H : Type} {enc : TypeId × Value → H} {P : Program} {w : World} {held : Bool}
/-- A slice of numbers of 64 bits that came in. -/
theorem open_u64s {r : Reach} {b0 : Nat} {t e : TypeId} {v : Value} {d : DataW H} {ps : List MemPlace} (ht : P.underlying t = some (.slice e)) (he : P.underlying e = some (.int .u64)) (hc : P.cellsOf e = 1)
    (hval : Value.okWide P w r b0 t v) (hd : DataW.Trod enc P w 0 (fun _ => true) held t v d ps) :
    ∃ l : List Int, Sl w w.heap.size 1 v l.length (kv .u64 l) ∧ ∀ x ∈ l, 0 ≤ x ∧ x ≤ 18446744073709551615 := by
  obtain ⟨l, h, hl⟩ := open_kinds ht he hc hval hd
  exact ⟨l, h, fun x hx => Go.bounds_u64 (hl x hx)⟩
end
end Go.Proofs.Ytfijjipdnejenaa
