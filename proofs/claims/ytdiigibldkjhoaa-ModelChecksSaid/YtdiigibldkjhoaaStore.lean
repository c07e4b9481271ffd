/-
  A whole struct stored, or loaded, at a stroke: the cells behind it, and what else stays. No statement is proved here.
-/
import Derived.Test.YtdiigibldkjhoaaKit
import Derived.Deep.MidRow
namespace Go.Proofs.Ytdiigibldkjhoaa
open Go.RowKit

theorem heap_setCell_far (w : World) (p : Addr) (v : Value) {k : Nat} (h : k ≠ p.block) : (w.setCell p v).heap[k]? = w.heap[k]? := by
  unfold World.setCell
  simp only [Array.getElem?_modify]
  rw [if_neg (fun e => h e.symm)]
theorem heap_setCells_far (b : Nat) : ∀ (vs : List Value) (o : Nat) (w : World) {k : Nat}, k ≠ b → (w.setCells b o vs).heap[k]? = w.heap[k]?
  | [], _, _, _, _ => rfl
  | v :: r, o, w, _, h => (heap_setCells_far b r (o + 1) _ h).trans (heap_setCell_far w ⟨b, o, none⟩ v h)
theorem below_setCells {B b : Nat} (hB : B ≤ b) : ∀ (vs : List Value) (o : Nat) (w0 w : World), Below B w0 w → Below B w0 (w.setCells b o vs)
  | [], _, _, _, h => h
  | v :: r, o, w0, _, h => below_setCells hB r (o + 1) w0 _ (h.setCell hB v)
theorem size_setCells (b : Nat) : ∀ (vs : List Value) (o : Nat) (w : World), (w.setCells b o vs).heap.size = w.heap.size
  | [], _, _ => rfl
  | v :: r, o, w => (size_setCells b r (o + 1) _).trans (by simp)
theorem own_heap {w w' : World} {base size n : Nat} {e : TypeId} {v : Value} {xs : List Value} (h : w.ownsRow base e size v n xs) (hk : ∀ k, base ≤ k → w'.heap[k]? = w.heap[k]?) : w'.ownsRow base e size v n xs := by
  refine ⟨h.1, ?_⟩
  rcases h.2 with hn | ⟨g, cap, cur, hv, hg, hh, r⟩
  · exact .inl hn
  · exact .inr ⟨g, cap, cur, hv, hg, (hk g hg).trans hh, r⟩
/-- The world behind a struct that was stored. -/
structure Stored (w : World) (b o : Nat) (vs : List Value) (w' : World) : Prop where
  cells : ∀ j v, vs[j]? = some v → w'.cell? ⟨b, o + j, none⟩ = some v
  far : ∀ k, k ≠ b → w'.heap[k]? = w.heap[k]?
  size : w'.heap.size = w.heap.size
  below : ∀ B, B ≤ b → Below B w w'
  marks : ∀ p, w'.frozen? p = w.frozen? p
theorem Stored.mk_ (w : World) (b o : Nat) (vs : List Value) (ht : w.there b o vs.length) : Stored w b o vs (w.setCells b o vs) :=
  ⟨World.rangeAt_setCells_same w b o vs ht, fun _ h => heap_setCells_far b vs o w h, size_setCells b vs o w, fun _ hB => below_setCells hB vs o w w (Below.refl _ _), fun p => World.frozen?_setCells b vs o w p⟩
section
variable {P : Program}
theorem step_store {ops : Array Oper} {op : Oper} {a : Act} {w : World} {K : Act → World → Prop} {Q : Exit → Act → World → Prop} {E : Prop} (hgd : op.guard = none) (ty : TypeId) (x y : Operand) (ho : op.op = .store ty x y)
    (b o : Nat) (cells : Array Value) (hx : a.eval x = .pointer (some ⟨b, o, none⟩)) (hy : a.eval y = .agg cells)
    (ht : w.there b o cells.size) (hi : (P.info? ty).map (·.size) = some cells.size) (h1 : cells.all (·.oneCell') = true)
    (h : ∀ w', Stored w b o cells.toList w' → K (a.put op.dst undef) w') : if Region.wanted op (yielded ops a.tmps) = true then Oper.wp P op a w K Q else E := by
  have hw : Region.wanted op (yielded ops a.tmps) = true := by simp [Region.wanted, hgd]
  rw [if_pos hw]
  exact wp_store_mid ty x y ho b o cells hx hy ht hi h1 (h _ (Stored.mk_ w b o cells.toList (by simpa using ht)))
theorem wpList_store {ops : Array Oper} {rest : List Oper} {op : Oper} {a : Act} {w : World} {Q : Exit → Act → World → Prop} (hgd : op.guard = none) (ty : TypeId) (x y : Operand) (ho : op.op = .store ty x y)
    (b o : Nat) (cells : Array Value) (hx : a.eval x = .pointer (some ⟨b, o, none⟩)) (hy : a.eval y = .agg cells)
    (ht : w.there b o cells.size) (hi : (P.info? ty).map (·.size) = some cells.size) (h1 : cells.all (·.oneCell') = true)
    (h : ∀ w', Stored w b o cells.toList w' → wpList P ops Q rest (a.put op.dst undef) w') : wpList P ops Q (op :: rest) a w :=
  wpList_store_mid hgd ty x y ho b o cells hx hy ht hi h1 (h _ (Stored.mk_ w b o cells.toList (by simpa using ht)))
end
end Go.Proofs.Ytdiigibldkjhoaa
