/-
  More plain words for memory: a slice that the call makes with room, kept closed to the walk. No statement is proved here.
-/
import Derived.Test.YtdiigibldkjhoaaBase
namespace Go.Proofs.Ytdiigibldkjhoaa
open Go.RowKit

/-- The cells that a make lays. -/
def mkC (z : Value) (size M : Nat) : Array Value := madeCells z.cells (M * size)
theorem mkC_size (z : Value) (size M : Nat) : (mkC z size M).size = M * size := size_madeCells _ _
/-- 'make([]T, 0, M)'. -/
theorem run_mk {P : Program} (w : World) {t e : TypeId} {z : Value} {size bytes : Nat} (hT : ST P t e z size bytes) (M : Nat) (hM : bytes * M ≤ 281474976710656) :
    (Instr.makeSlice t (.int .i64 0) (.int .i64 (M : Int))).run P w = .ok (.slice (some ⟨w.heap.size, 0, none⟩) 0 M) (w.alloc (.cells (mkC z size M) e)) := by
  obtain ⟨i, ht, hi, hz, hsz, hby, hzs, hs0, hb0⟩ := hT
  have h1 : M ≤ bytes * M := Nat.le_mul_of_pos_left _ hb0
  have h2 : (i.bytes : Int) * (M : Int) ≤ 281474976710656 := by
    have h3 : ((bytes * M : Nat) : Int) ≤ 281474976710656 := by omega
    rw [hby]
    rwa [Int.natCast_mul] at h3
  have := run_make (P := P) w t e i z ht hi hz .i64 .i64 0 (M : Int) (Int.le_refl _) (by omega) h2 (by omega)
  rw [hsz] at this
  exact this
theorem own_made_at {w : World} {B g M size : Nat} {z : Value} {e : TypeId} (hg : w.heap.size = g) (hB : B ≤ g) (hM : M ≤ maxLen) : (w.alloc (.cells (mkC z size M) e)).ownsRow B e size (.slice (some ⟨g, 0, none⟩) 0 M) 0 [] := by
  subst hg
  exact World.ownsRow_made w _ M hB hM (mkC_size _ _ _)
end Go.Proofs.Ytdiigibldkjhoaa
