/-
  The document's copy of places. No statement is proved here.
-/
import Derived.Test.YtcnfilbmmlolmaaBuC
set_option linter.unusedVariables false
namespace Go.Proofs.Ytcnfilbmmlolmaa
open Go.RowKit

theorem listP_succ (f : Nat → Pl) (k : Nat) : listP f (k + 1) = listP f k ++ [f k] := by simp [listP, List.range_succ]
theorem plc_one1 (x : Pl) : plc [x] = x.cells := by simp [plc]
/-- An owned row of places, as a row that may be stored to. -/
theorem RowOf.of_own {w : World} {B n : Nat} {v : Value} {f : Nat → Pl} {T : TypeId} (h : w.ownsRow B T 6 v n (plc (listP f n))) : RowOf w T B v n f := by
  obtain ⟨_, h⟩ := h
  rcases h with ⟨rfl, rfl⟩ | ⟨g, cap, cur, rfl, hg, hh, hnc, hcm, hcs, htake⟩
  · exact ⟨none, 0, rfl, Nat.le_refl _, by simp [maxLen], fun hn => by omega⟩
  · refine ⟨_, cap, rfl, hnc, hcm, fun hn => ⟨g, fun j => cur.getD j (.bool false), rfl, hg, ⟨cur, hh, hcs, fun i hi => by simp [Array.getD_eq_getD_getElem?, Array.getElem?_eq_getElem (show i < cur.size by omega)]⟩, fun j hj => ?_⟩⟩
    have h1 : (plc (listP f n))[j]? = some (rowP f j) := by
      have e : j = j / 6 * 6 + j % 6 := by omega
      have hq : j / 6 < n := by omega
      have hm : j % 6 < 6 := by omega
      have := plc_at (listP f n) (j / 6) (j % 6) hm
      rw [← e] at this
      rw [this]
      simp only [listP, List.getElem?_map, List.getElem?_range hq, Option.map_some, Option.bind_some]
      unfold rowP
      rw [List.getD_eq_getElem?_getD, List.getElem?_eq_getElem (show j % 6 < (f (j / 6)).cells.length by simpa [Pl.cells] using hm)]
      rfl
    rw [← htake, List.getElem?_take, if_pos hj, Array.getElem?_toList] at h1
    simp [Array.getD_eq_getD_getElem?, h1]

theorem litN6 (w : World) (cs : Array Value) (e : TypeId) (hs : cs.size = 6) : Sl (w.alloc (.cells cs e)) (w.heap.size + 1) 6 (.slice (some ⟨w.heap.size, 0, none⟩) 1 1) 1 cs.toList := by
  refine ⟨by simpa using hs, _, 1, rfl, Nat.le_refl _, by simp [maxLen], fun _ => ⟨w.heap.size, 0, rfl, by omega, fun j hj => ?_⟩⟩
  simp [go_sem]
end Go.Proofs.Ytcnfilbmmlolmaa
