/-
  More plain words for memory: a slice that the call makes whole, and a cell of a slice stored to. No statement is proved here.
-/
import Derived.Test.YtdiigibldkjhoaaBase2
namespace Go.Proofs.Ytdiigibldkjhoaa
open Go.RowKit

/-- 'make([]T, k)'. -/
theorem run_mkFull {P : Program} (w : World) {t e : TypeId} {z : Value} {size bytes : Nat} (hT : ST P t e z size bytes) (k : Nat) (hk : bytes * k ≤ 281474976710656) :
    (Instr.makeSlice t (.int .i64 (k : Int)) (.int .i64 (k : Int))).run P w = .ok (.slice (some ⟨w.heap.size, 0, none⟩) k k) (w.alloc (.cells (mkC z size k) e)) := by
  obtain ⟨i, ht, hi, hz, hsz, hby, hzs, hs0, hb0⟩ := hT
  have h1 : k ≤ bytes * k := Nat.le_mul_of_pos_left _ hb0
  have h2 : (i.bytes : Int) * (k : Int) ≤ 281474976710656 := by
    have h3 : ((bytes * k : Nat) : Int) ≤ 281474976710656 := by omega
    rw [hby]
    rwa [Int.natCast_mul] at h3
  have := run_make (P := P) w t e i z ht hi hz .i64 .i64 (k : Int) (k : Int) (by omega) (Int.le_refl _) h2 (by omega)
  rw [hsz] at this
  exact this
theorem own_mkFull_at {w : World} {B g k : Nat} {z : Value} {e : TypeId} (hz : z.cells = #[z]) (hg : w.heap.size = g) (hB : B ≤ g) (hk : k ≤ maxLen) : (w.alloc (.cells (mkC z 1 k) e)).ownsRow B e 1 (.slice (some ⟨g, 0, none⟩) k k) k (List.replicate k z) := by
  have := own_lit_at (w := w) (B := B) (e := e) (cs := mkC z 1 k) (n := k) hg hB (by rw [mkC_size, Nat.mul_one]) hk
  unfold mkC at this ⊢
  rw [Nat.mul_one, hz, toList_madeCells_one] at this
  rw [Nat.mul_one, hz]
  exact this
theorem Sl.mkFull_at {w : World} {g k : Nat} {z : Value} {e : TypeId} (hz : z.cells = #[z]) (hg : w.heap.size = g) (hk : k ≤ maxLen) : Sl (w.alloc (.cells (mkC z 1 k) e)) (g + 1) 1 (.slice (some ⟨g, 0, none⟩) k k) k (List.replicate k z) := by
  subst hg
  have := Sl.of_own (own_mkFull_at (w := w) (B := w.heap.size) (e := e) hz rfl (Nat.le_refl _) hk)
  simpa using this

/-- A store to the i-th element. -/
theorem Sl.set {w : World} {B n b off cap i : Nat} {xs : List Value} (h : Sl w B 1 (.slice (some ⟨b, off, none⟩) n cap) n xs) (hi : i < n) (u : Value) : Sl (w.setCell ⟨b, off + i, none⟩ u) B 1 (.slice (some ⟨b, off, none⟩) n cap) n (xs.set i u) := by
  obtain ⟨hl, A', cap', hv, h1, h2, h3⟩ := h
  injection hv with e1 _ e2
  subst e1 e2
  refine ⟨by rw [List.length_set]; exact hl, _, cap, rfl, h1, h2, fun h0 => ?_⟩
  obtain ⟨b', off', hA, hB, hc⟩ := h3 h0
  injection hA with hA
  injection hA with e3 e4
  subst e3 e4
  refine ⟨b, off, rfl, hB, fun j hj => ?_⟩
  by_cases hij : i = j
  · subst hij
    have hx := hc i hj
    have hsome : xs[i]? = some (xs[i]'(by omega)) := List.getElem?_eq_getElem _
    rw [World.cell?_setCell_same _ _ _ (hx.trans hsome), List.getElem?_set_self (by omega)]
  · rw [World.cell?_setCell_other _ _ _ _ (by simp), hc j hj, List.getElem?_set_ne hij]
theorem bv_set (l : List Nat) (i x : Nat) : (bv l).set i (.int .u8 (x : Int)) = bv (l.set i x) := by simp [bv, List.map_set]
theorem bv_zeros (k : Nat) : List.replicate k (Value.int .u8 0) = bv (List.replicate k 0) := by simp [bv]
end Go.Proofs.Ytdiigibldkjhoaa
