/-
  A row of VLANs that came in, as a list. No statement is proved here.
-/
import Derived.Test.YtiafegkjamhneaaOpen
import Derived.Test.YtiafegkjamhneaaPlainVl
namespace Go.Proofs.Ytiafegkjamhneaa
open Go.ChangeShapes Go.WideShapes Go.RowKit Go.Deep

theorem list_of {α : Type} (d : α) {Q : Nat → α → Prop} : ∀ n, (∀ i, i < n → ∃ x, Q i x) → ∃ l : List α, l.length = n ∧ ∀ i, i < n → Q i (l.getD i d)
  | 0, _ => ⟨[], rfl, fun i hi => by omega⟩
  | n + 1, h => by
    obtain ⟨l, hl, hq⟩ := list_of d n fun i hi => h i (by omega)
    obtain ⟨x, hx⟩ := h n (by omega)
    refine ⟨l ++ [x], by simp [hl], fun i hi => ?_⟩
    rcases Nat.lt_or_ge i n with h1 | h1
    · have := hq i h1
      rw [List.getD_eq_getElem?_getD, List.getElem?_append_left (by omega), ← List.getD_eq_getElem?_getD]
      exact this
    · obtain rfl : i = n := by omega
      rw [List.getD_eq_getElem?_getD, List.getElem?_append_right (by omega), hl]
      simpa using hx
theorem Sl.of_vls {w : World} {B n b off cap : Nat} {l : List Vl} (hl : l.length = n) (h1 : n ≤ cap) (h2 : cap ≤ maxLen) (hb : b < B)
    (h : ∀ j, j < n → w.cell? ⟨b, off + j * 3, none⟩ = some (.int .i64 (l.getD j vl0).vid) ∧ w.cell? ⟨b, off + j * 3 + 1, none⟩ = some (.int .u64 ((l.getD j vl0).mem : Nat)) ∧ w.cell? ⟨b, off + j * 3 + 2, none⟩ = some (.int .u64 ((l.getD j vl0).unt : Nat))) :
    Sl w B 3 (.slice (some ⟨b, off, none⟩) n cap) n (vlc l) := by
  refine ⟨by rw [vlc_length, hl], _, cap, rfl, h1, h2, fun _ => ⟨b, off, rfl, hb, fun j hj => ?_⟩⟩
  have e : j = j / 3 * 3 + j % 3 := by omega
  have hm : j % 3 < 3 := by omega
  have hq : j / 3 < n := by omega
  obtain ⟨c0, c1, c2⟩ := h (j / 3) hq
  have hql : j / 3 < l.length := by omega
  have hv : (vlc l)[j]? = (l[j / 3]?).bind fun x => x.cells[j % 3]? := by
    have := vlc_at l (j / 3) (j % 3) hm
    rw [← e] at this
    exact this
  rw [hv, List.getElem?_eq_getElem hql]
  simp only [List.getD_eq_getElem?_getD, List.getElem?_eq_getElem hql, Option.getD_some] at c0 c1 c2
  have ea : off + j = off + j / 3 * 3 + j % 3 := by omega
  rw [ea]
  rcases (show j % 3 = 0 ∨ j % 3 = 1 ∨ j % 3 = 2 by omega) with h | h | h
  · rw [h]; exact c0
  · rw [h]; exact c1
  · rw [h]; exact c2
section
variable {H : Type} {enc : TypeId × Value → H} {P : Program} {w : World} {held : Bool}
theorem open_vls {r : Reach} {b0 : Nat} {t e : TypeId} {f0 f1 f2 : Field} {v : Value} {d : DataW H} {p : List MemPlace} (ht : P.underlying t = some (.slice e)) (hs : P.underlying e = some (.struct #[f0, f1, f2])) (hone : oneCellFields P #[f0, f1, f2] = true) (hC : P.cellsOf e = 3)
    (h0 : P.underlying f0.type = some (.int .i64)) (h1 : P.underlying f1.type = some (.int .u64)) (h2 : P.underlying f2.type = some (.int .u64))
    (hv : Value.okWide P w r b0 t v) (h : DataW.Trod enc P w 0 (fun _ => true) held t v d p) :
    ∃ l : List Vl, Sl w w.heap.size 3 v l.length (vlc l) ∧ ∀ x ∈ l, x.ok := by
  obtain ⟨A, n, cap, rfl, hn, hm, hc⟩ := open_rows ht hs hone hC (by simp) hv h
  rcases Nat.eq_zero_or_pos n with hz | hz
  · subst hz
    exact ⟨[], ⟨by simp [vlc], A, cap, rfl, by simp, hm, fun h => absurd h (by simp)⟩, by simp⟩
  · obtain ⟨b, off, rfl, hb, hcell⟩ := hc hz
    have hex : ∀ i, i < n → ∃ x : Vl, x.ok ∧ w.cell? ⟨b, off + i * 3, none⟩ = some (.int .i64 x.vid) ∧ w.cell? ⟨b, off + i * 3 + 1, none⟩ = some (.int .u64 (x.mem : Nat)) ∧ w.cell? ⟨b, off + i * 3 + 2, none⟩ = some (.int .u64 (x.unt : Nat)) := by
      intro i hi
      obtain ⟨u0, e0, g0⟩ := hcell i hi 0 f0 rfl
      obtain ⟨u1, e1, g1⟩ := hcell i hi 1 f1 rfl
      obtain ⟨u2, e2, g2⟩ := hcell i hi 2 f2 rfl
      obtain ⟨a, rfl, ha⟩ := g0.i64 h0
      obtain ⟨m, rfl, hm⟩ := g1.u64 h1
      obtain ⟨u, rfl, hu⟩ := g2.u64 h2
      exact ⟨⟨a, m, u⟩, ⟨ha, hm, hu⟩, e0, e1, e2⟩
    obtain ⟨l, hl, hq⟩ := list_of vl0 n hex
    refine ⟨l, ?_, fun x hx => ?_⟩
    · rw [hl]
      exact Sl.of_vls hl hn hm hb fun j hj => (hq j hj).2
    · obtain ⟨i, hi, rfl⟩ := List.getElem_of_mem hx
      have := (hq i (by omega)).1
      rw [List.getD_eq_getElem?_getD, List.getElem?_eq_getElem hi] at this
      exact this
end
end Go.Proofs.Ytiafegkjamhneaa
