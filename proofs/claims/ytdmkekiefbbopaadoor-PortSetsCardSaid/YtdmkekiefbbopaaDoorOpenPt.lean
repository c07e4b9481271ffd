/-
  An argument opened: a stand (an int, and a number of 32 bits). No statement is proved here.
-/
import Derived.Test.YtdmkekiefbbopaaDoorOpenFl
namespace Go.Proofs.YtdmkekiefbbopaaDoor
open Go.ChangeShapes Go.WideShapes Go.RowKit Go.Deep
section
variable {H : Type} {enc : TypeId × Value → H} {P : Program} {w : World} {held : Bool} {base : Nat} {spare : Nat → Bool}
theorem open_stand {r : Reach} {b0 : Nat} {t t0 t1 : TypeId} {fs : Array Field} {v : Value} {d : DataW H} {p : List MemPlace} (hs : P.underlying t = some (.struct fs)) (hl : leaves P 8 t = some [t0, t1]) (hn : P.cellsOf t = 2) (h0 : P.underlying t0 = some (.int .i64)) (h1 : P.underlying t1 = some (.int .u32))
    (hv : Value.okWide P w r b0 t v) (h : DataW.Trod enc P w base spare held t v d p) :
    ∃ (a : Int) (m : Nat), v = .agg #[.int .i64 a, .int .u32 (m : Int)] ∧ m < 4294967296 := by
  obtain ⟨l, rfl, hlen, hf⟩ := open_flat hs hl hn hv h
  obtain ⟨u0, e0, g0⟩ := hf 0 t0 rfl
  obtain ⟨u1, e1, g1⟩ := hf 1 t1 rfl
  obtain ⟨a, rfl, ha⟩ := g0.i64 h0
  obtain ⟨m, rfl, hm⟩ := g1.u32 h1
  match l, hlen with
  | [x, y], _ =>
    simp at e0 e1
    subst e0 e1
    exact ⟨a, m, rfl, hm⟩
end
end Go.Proofs.YtdmkekiefbbopaaDoor
