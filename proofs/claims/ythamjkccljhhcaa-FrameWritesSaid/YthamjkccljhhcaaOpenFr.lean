/-
  A frame that came in by value, and that its load is no longer than what can be read. No statement is proved here.
-/
import Derived.Test.YthamjkccljhhcaaOpen
import Derived.Test.YthamjkccljhhcaaFrameX
import Derived.SizedLaws
namespace Go.Proofs.Ythamjkccljhhcaa
open Go.ChangeShapes Go.WideShapes Go.RowKit Go.Deep
section
variable {H : Type} {enc : TypeId × Value → H} {P : Program} {w : World} {held : Bool}
/-- A slice of bytes in a field: its length is within what was read. -/
theorem load_reach {t e : TypeId} {fs : Array Field} {cs : Array Value} {d : DataW H} {p : List MemPlace} (hs : P.underlying t = some (.struct fs)) (hone : oneCellFields P fs = true)
    (h : DataW.Trod enc P w 0 (fun _ => true) held t (.agg cs) d p) {j : Nat} {f : Field} (hj : fs[j]? = some f) (ht : P.underlying f.type = some (.slice e)) (he : P.underlying e = some (.int .u8)) (hc : P.cellsOf e = 1) (hb : P.bytesOf e = 1)
    (hw : ∀ n ∈ d.weights P t, n ≤ reachBytes) {A : Option Addr} {n cap : Nat} (hu : cs[j]? = some (.slice A n cap)) : n ≤ reachBytes := by
  obtain ⟨fuel, hf⟩ := h
  obtain ⟨xs, m, _, hx, hlen, hxl, hg⟩ := DataW.trod_struct hs hf
  obtain ⟨ho, hk⟩ := hone_of hone j f hj
  have hjl : j < fs.size := (Array.getElem?_eq_some_iff.1 hj).1
  have h1 := hg j f hj
  rw [ho, hk] at h1
  have hjc : j < cs.size := (Array.getElem?_eq_some_iff.1 hu).1
  have h2 : (((Value.agg cs).cells.toList).drop j).take 1 = [.slice A n cap] := by
    have e2 : (Value.agg cs).cells.toList = cs.toList := rfl
    have hv := (Array.getElem?_eq_some_iff.1 hu).2
    rw [e2, List.drop_eq_getElem_cons (by simpa using hjc)]
    simp [hv]
  rw [h2] at h1
  have hxj : xs[j]? = some (xs[j]'(by omega)) := List.getElem?_eq_getElem _
  rw [hxj] at h1
  have hd : d = .agg (xs.map (·.1)) := congrArg Prod.fst hx
  rcases open_ints ht he hc h1 with ⟨hcs, _⟩ | ⟨a, l, c, zs, hcs, _, hl, hm, hz, hy, _, _⟩
  · simp at hcs
    omega
  · simp at hcs
    obtain ⟨_, rfl, rfl⟩ := hcs
    have hw2 := hw ((lits (H := H) IntKind.u8 (zs.take n)).length * 1 + (lits (H := H) IntKind.u8 (zs.drop n)).length * 1) (by
      rw [hd]
      simp only [DataW.weights, hs]
      refine DataW.weights_mem_each (j := j) (t := f.type) (d := (xs[j]'(by omega)).1) (by simp [hj]) (by simp [hxj]) _ ?_
      rw [hy]
      simp [DataW.weights, ht, hb])
    simp [lits] at hw2
    simp at hz
    omega
theorem open_fr {r : Reach} {b0 : Nat} {t e : TypeId} {f0 f1 f2 f3 f4 f5 : Field} {v : Value} {d : DataW H} {p : List MemPlace} (hs : P.underlying t = some (.struct #[f0, f1, f2, f3, f4, f5])) (hone : oneCellFields P #[f0, f1, f2, f3, f4, f5] = true) (hC : P.cellsOf t = 6)
    (h0 : P.underlying f0.type = some (.int .u64)) (h1 : P.underlying f1.type = some (.int .u64)) (h2 : P.underlying f2.type = some .bool) (h3 : P.underlying f3.type = some (.int .u16)) (h4 : P.underlying f4.type = some (.int .u16)) (h5 : P.underlying f5.type = some (.slice e)) (he : P.underlying e = some (.int .u8)) (hc : P.cellsOf e = 1) (hb : P.bytesOf e = 1)
    (hw : ∀ n ∈ d.weights P t, n ≤ reachBytes) (hv : Value.okWide P w r b0 t v) (h : DataW.Trod enc P w 0 (fun _ => true) held t v d p) :
    ∃ (f : Fr) (A : Option Addr) (k cap : Nat), v = frV f (.slice A k cap) ∧ f.dst < 18446744073709551616 ∧ f.src < 18446744073709551616 ∧ f.tci < 65536 ∧ f.typ < 65536 ∧ f.load.length = k ∧ k ≤ 140737488351232 ∧ Sl w w.heap.size 1 (.slice A k cap) k (bv f.load) ∧ ∀ x ∈ f.load, x < 256 := by
  obtain ⟨l, rfl, hl, hf⟩ := open_fields hs hone hC hv h
  obtain ⟨u0, e0, g0⟩ := hf 0 f0 rfl
  obtain ⟨u1, e1, g1⟩ := hf 1 f1 rfl
  obtain ⟨u2, e2, g2⟩ := hf 2 f2 rfl
  obtain ⟨u3, e3, g3⟩ := hf 3 f3 rfl
  obtain ⟨u4, e4, g4⟩ := hf 4 f4 rfl
  obtain ⟨u5, e5, g5⟩ := hf 5 f5 rfl
  obtain ⟨a, rfl, ha⟩ := g0.u64 h0
  obtain ⟨s, rfl, hs2⟩ := g1.u64 h1
  obtain ⟨t2, rfl⟩ := g2.bool h2
  obtain ⟨c, rfl, hc2⟩ := g3.u16 h3
  obtain ⟨y, rfl, hy2⟩ := g4.u16 h4
  obtain ⟨L, hL, hLb⟩ := g5.bytes h5 he hc
  obtain ⟨A, cap, rfl, _, _⟩ := hL.form
  have hr := load_reach hs hone h (j := 5) (f := f5) rfl h5 he hc hb hw (A := A) (n := L.length) (cap := cap) (by simpa using e5)
  match l, hl with
  | [x0, x1, x2, x3, x4, x5], _ =>
    simp at e0 e1 e2 e3 e4 e5
    subst e0 e1 e2 e3 e4 e5
    exact ⟨⟨a, s, t2, c, y, L⟩, A, L.length, cap, rfl, ha, hs2, hc2, hy2, rfl, by have : reachBytes = 140737488351232 := rfl; omega, hL, hLb⟩
end
end Go.Proofs.Ythamjkccljhhcaa
