/-
  Arguments opened: a slice of numbers of 64 bits, two ints, a struct of an int and a number of 64 bits. No statement is proved here.
-/
import Derived.Test.YtcnfilbmmlolmaaMzA
namespace Go.Proofs.Ytcnfilbmmlolmaa
open Go.ChangeShapes Go.WideShapes Go.RowKit Go.Deep
section
variable {H : Type} {enc : TypeId × Value → H} {P : Program} {w : World} {held : Bool}
/-- A slice of numbers of 64 bits that came in. -/
theorem open_u64s {r : Reach} {b0 : Nat} {t e : TypeId} {v : Value} {d : DataW H} {ps : List MemPlace} (ht : P.underlying t = some (.slice e)) (he : P.underlying e = some (.int .u64)) (hc : P.cellsOf e = 1)
    (hval : Value.okWide P w r b0 t v) (hd : DataW.Trod enc P w 0 (fun _ => true) held t v d ps) :
    ∃ l : List Int, Sl w w.heap.size 1 v l.length (kv .u64 l) ∧ ∀ x ∈ l, 0 ≤ x ∧ x ≤ 18446744073709551615 := by
  obtain ⟨l, h, hl⟩ := open_kinds ht he hc hval hd
  exact ⟨l, h, fun x hx => Go.bounds_u64 (hl x hx)⟩
/-- Two ints in an array. -/
theorem open_arr2 {base : Nat} {spare : Nat → Bool} {r : Reach} {b0 : Nat} {t e : TypeId} {v : Value} {d : DataW H} {ps : List MemPlace} (ht : P.underlying t = some (.array 2 e)) (he : P.underlying e = some (.int .i64)) (hc : P.cellsOf e = 1) (hct : P.cellsOf t = 2)
    (hval : Value.okWide P w r b0 t v) (hd : DataW.Trod enc P w base spare held t v d ps) :
    ∃ x y : Int, v = .agg #[.int .i64 x, .int .i64 y] := by
  simp only [Value.okWide, ht] at hval
  obtain ⟨cs, rfl, hsz, _⟩ := hval
  rw [hct] at hsz
  obtain ⟨l⟩ := cs
  match l, hsz with
  | [c0, c1], _ =>
    obtain ⟨fuel, hf⟩ := hd
    obtain ⟨xs, m, _, _, _, hxl, hg⟩ := DataW.trod_array ht hf
    have h0 := hg 0 (by omega)
    have h1 := hg 1 (by omega)
    rw [hc] at h0 h1
    rw [List.getElem?_eq_getElem (show 0 < xs.length by omega)] at h0
    rw [List.getElem?_eq_getElem (show 1 < xs.length by omega)] at h1
    have k0 : Holds1 enc P w base spare held e c0 := ⟨m, _, h0⟩
    have k1 : Holds1 enc P w base spare held e c1 := ⟨m, _, h1⟩
    obtain ⟨x, rfl, _⟩ := k0.i64 he
    obtain ⟨y, rfl, _⟩ := k1.i64 he
    exact ⟨x, y, rfl⟩
/-- A struct of an int and a number of 64 bits. -/
theorem open_iw {base : Nat} {spare : Nat → Bool} {r : Reach} {b0 : Nat} {t : TypeId} {f0 f1 : Field} {v : Value} {d : DataW H} {p : List MemPlace} (hs : P.underlying t = some (.struct #[f0, f1])) (hone : oneCellFields P #[f0, f1] = true) (hC : P.cellsOf t = 2)
    (h0 : P.underlying f0.type = some (.int .i64)) (h1 : P.underlying f1.type = some (.int .u64)) (hv : Value.okWide P w r b0 t v) (h : DataW.Trod enc P w base spare held t v d p) :
    ∃ (x : Int) (y : Nat), v = .agg #[.int .i64 x, .int .u64 (y : Int)] ∧ y < 18446744073709551616 := by
  obtain ⟨l, rfl, hl, hf⟩ := open_fields hs hone hC hv h
  obtain ⟨u0, e0, g0⟩ := hf 0 f0 rfl
  obtain ⟨u1, e1, g1⟩ := hf 1 f1 rfl
  obtain ⟨x0, rfl, _⟩ := g0.i64 h0
  obtain ⟨x1, rfl, hx⟩ := g1.u64 h1
  match l, hl with
  | [a, b], _ =>
    simp at e0 e1
    subst e0 e1
    exact ⟨x0, x1, rfl, hx⟩
end
end Go.Proofs.Ytcnfilbmmlolmaa
