/-
  An argument opened: a slice of ints. No statement is proved here.
-/
import Derived.Test.YtpojnknhmpmhjaaWords
namespace Go.Proofs.Ytpojnknhmpmhjaa
open Go.ChangeShapes Go.WideShapes Go.RowKit
section
variable {H : Type} {enc : TypeId × Value → H} {P : Program} {w : World} {held : Bool}
/-- A slice of ints that came in. -/
theorem open_i64s {r : Reach} {b0 : Nat} {t e : TypeId} {v : Value} {d : DataW H} {ps : List MemPlace} (ht : P.underlying t = some (.slice e)) (he : P.underlying e = some (.int .i64)) (hc : P.cellsOf e = 1)
    (hval : Value.okWide P w r b0 t v) (hd : DataW.Trod enc P w 0 (fun _ => true) held t v d ps) :
    ∃ l : List Int, Sl w w.heap.size 1 v l.length (kv .i64 l) ∧ ∀ x ∈ l, -9223372036854775808 ≤ x ∧ x ≤ 9223372036854775807 := by
  obtain ⟨l, h, hl⟩ := open_kinds ht he hc hval hd
  exact ⟨l, h, fun x hx => Go.bounds_i64 (hl x hx)⟩
end
end Go.Proofs.Ytpojnknhmpmhjaa
