/-
  An argument opened: a slice of jobs (a bool, an int, a number of 64 bits). No statement is proved here.
-/
import Derived.Test.YtjbdmifcdgllcaaOpen
set_option linter.unusedVariables false
namespace Go.Proofs.Ytjbdmifcdgllcaa
open Go.ChangeShapes Go.WideShapes Go.RowKit Go.Deep

/-- A slice of structs of a bool, an int and a number of 64 bits. -/
def Jobs15 (w : World) (v : Value) : Prop := ∃ (A : Option Addr) (n cap : Nat), v = .slice A n cap ∧ n ≤ cap ∧ cap ≤ maxLen ∧ (0 < n → ∃ b off, A = some ⟨b, off, none⟩ ∧ b < w.heap.size ∧
  ∀ i, i < n → ∃ (z : Bool) (r u : Int), w.cell? ⟨b, off + i * 3, none⟩ = some (.bool z) ∧ w.cell? ⟨b, off + i * 3 + 1, none⟩ = some (.int .i64 r) ∧ w.cell? ⟨b, off + i * 3 + 2, none⟩ = some (.int .u64 u))
section
variable {H : Type} {enc : TypeId × Value → H} {P : Program} {w : World} {base : Nat} {spare : Nat → Bool} {held : Bool}
theorem open_jobs15 {r : Reach} {b0 : Nat} {t e : TypeId} {f0 f1 f2 : Field} {v : Value} {d : DataW H} {p : List MemPlace} (ht : P.underlying t = some (.slice e)) (hs : P.underlying e = some (.struct #[f0, f1, f2])) (hone : oneCellFields P #[f0, f1, f2] = true) (hC : P.cellsOf e = 3)
    (h0 : P.underlying f0.type = some .bool) (h1 : P.underlying f1.type = some (.int .i64)) (h2 : P.underlying f2.type = some (.int .u64))
    (hv : Value.okWide P w r b0 t v) (h : DataW.Trod enc P w 0 (fun _ => true) held t v d p) : Jobs15 w v := by
  obtain ⟨A, n, cap, rfl, hn, hc, hh⟩ := open_rows ht hs hone hC (by simp) hv h
  refine ⟨A, n, cap, rfl, hn, hc, fun h => ?_⟩
  obtain ⟨b, off, rfl, hb, hcell⟩ := hh h
  refine ⟨b, off, rfl, hb, fun i hi => ?_⟩
  obtain ⟨u0, e0, g0⟩ := hcell i hi 0 f0 rfl
  obtain ⟨u1, e1, g1⟩ := hcell i hi 1 f1 rfl
  obtain ⟨u2, e2, g2⟩ := hcell i hi 2 f2 rfl
  obtain ⟨x0, rfl⟩ := g0.bool h0
  obtain ⟨x1, rfl, _⟩ := g1.i64 h1
  obtain ⟨x2, rfl, _⟩ := g2.u64 h2
  exact ⟨x0, x1, x2, by simpa using e0, e1, e2⟩
end
end Go.Proofs.Ytjbdmifcdgllcaa
