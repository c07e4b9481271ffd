/-
  A model's Stand. No statement is proved here.
-/
import Derived.Test.YtcnfilbmmlolmaaMoX
set_option linter.unusedVariables false
namespace Go.Proofs.Ytcnfilbmmlolmaa
open Go.RowKit

set_option maxHeartbeats 1600000 in
theorem model_Stand {w : World} {L A S1 Q bp : Nat} {uv : Value} {P r nv : Nat} {lv : List Vl} {st : Nat → Int × Nat} {G : Nat → Value} (h : MdAt w L A S1 Q uv (.pointer (some ⟨bp, 0, none⟩)) P r nv lv st G) (p : Nat) (hp : p < P) :
    Calls Try.prog 21 #[.pointer (some ⟨A, 0, none⟩), .int .i64 (p : Nat)] w (Says (.agg #[.int .i64 (st p).1, .int .u32 ((st p).2 : Nat)]) w) := by
  have hpb : portB P (p : Int) = true := by unfold portB; simp; omega
  have hip := fun w' (hb : Below w.heap.size w w') => model_isPort (h.call hb) (p : Int)
  rw [hpb] at hip
  have HIP := Lib.hid hip
  have HH := Lib.hid h
  have d1 : decide (p < P) = true := decide_eq_true hp
  have HPP := Lib.hid hp
  have hAz : A < w.heap.size := h.cells.lt
  clear h hip hpb hp
  go_enter Try.func21, Try.ntmps21
  go_wp2_with fail
  refine (HIP.out _ ((Below.refl _ _).alloc (Nat.le_refl _) _)).mono ?_
  rintro e w1 ⟨rfl, hb⟩
  have hBZ : Below w.heap.size w w1 := ((Below.refl _ _).alloc (Nat.le_refl _) _).trans (hb.mono (by simp))
  have r0 : w1.cell? ⟨w.heap.size, 0, none⟩ = some (.int .i64 0) := by
    rw [hb.cell (by show w.heap.size < _; simp)]
    simp [go_sem]
  have r1 : w1.cell? ⟨w.heap.size, 1, none⟩ = some (.int .u32 0) := by
    rw [hb.cell (by show w.heap.size < _; simp)]
    simp [go_sem]
  have rf : ∀ o, w1.frozen? ⟨w.heap.size, o, none⟩ = false := fun o => by
    rw [hb.frozen (p := ⟨w.heap.size, o, none⟩) (by show w.heap.size < _; simp)]
    simp [go_sem]
  have f0 := rf 0
  have f1 := rf 1
  have HM := Lib.hid (HH.out.call hBZ)
  have HBZ := Lib.hid hBZ
  have c1 : w1.cell? ⟨A, 1, none⟩ = some (.slice (some ⟨S1, 0, none⟩) P P) := HM.out.cells.cell (by omega)
  obtain ⟨s0, s1⟩ := thereS HM.out p HPP.out
  clear hb hBZ rf
  go_wp2
  exact bodyPost_ret (v := .agg #[.int .i64 (st p).1, .int .u32 ((st p).2 : Nat)]) (by simp [results, Try.results21, go_sem, r0, r1]) rfl ⟨rfl, (by (repeat' (first | (with_reducible exact HBZ.out) | (with_reducible refine Below.setCell ?_ ?_ _) | go_size)))⟩
end Go.Proofs.Ytcnfilbmmlolmaa
