/-
  Sizes that may be: the program's and the document's. No statement is proved here.
-/
import Derived.Test.YtcnfilbmmlolmaaBkC
set_option linter.unusedVariables false
namespace Go.Proofs.Ytcnfilbmmlolmaa
open Go.RowKit

def inB (x y : Int) : Bool := decide (1 ≤ x) && decide (x ≤ y)
def rightS (a b c : Int) : Bool := (inB a 8 && inB b 16) && inB c 8
set_option maxHeartbeats 800000 in
theorem book_within (x y : Int) (w : World) :
    Calls Try.prog 80 #[.int .i64 x, .int .i64 y] w (Says (.bool (inB x y)) w) := by
  unfold inB
  by_cases h : 1 ≤ x
  · have d : decide (1 ≤ x) = true := by simpa using h
    rw [d]
    by_cases h2 : x ≤ y
    · have d2 : decide (x ≤ y) = true := by simpa using h2
      rw [d2]
      clear d d2
      go_enter Try.func80, Try.ntmps80
      go_wp2
      go_ret
      exact ⟨by simp, Below.refl _ _⟩
    · have d2 : decide (x ≤ y) = false := by simpa using h2
      rw [d2]
      clear d d2
      go_enter Try.func80, Try.ntmps80
      go_wp2
      go_ret
      exact ⟨by simp, Below.refl _ _⟩
  · have d : decide (1 ≤ x) = false := by simpa using h
    rw [d]
    clear d
    go_enter Try.func80, Try.ntmps80
    go_wp2
    go_ret
    exact ⟨by simp, Below.refl _ _⟩
set_option maxHeartbeats 3200000 in
theorem book_Right (a b c : Int) (w : World) :
    Calls Try.prog 41 #[.agg #[.int .i64 a, .int .i64 b, .int .i64 c]] w (Says (.bool (rightS a b c)) w) := by
  have H1 := Lib.hid fun W => book_within a 8 W
  have H2 := Lib.hid fun W => book_within b 16 W
  have H3 := Lib.hid fun W => book_within c 8 W
  unfold rightS
  generalize inB a 8 = x at *
  generalize inB b 16 = y at *
  generalize inB c 8 = z at *
  cases x
  · go_enter Try.func41, Try.ntmps41
    go_wp2_with fail
    refine (H1.out _).mono ?_
    rintro e w1 ⟨rfl, hb⟩
    have HB1 : Hid (Below w.heap.size w w1) := Below.trans ((Below.refl _ _).alloc (Nat.le_refl _) _) (hb.mono (by simp))
    clear hb
    go_wp2
    go_ret
    exact ⟨by simp, HB1.out⟩
  · cases y
    · go_enter Try.func41, Try.ntmps41
      go_wp2_with fail
      refine (H1.out _).mono ?_
      rintro e w1 ⟨rfl, hb⟩
      have HB1 : Hid (Below w.heap.size w w1) := Below.trans ((Below.refl _ _).alloc (Nat.le_refl _) _) (hb.mono (by simp))
      have k1 : w1.cell? ⟨w.heap.size, 1, none⟩ = some (.int .i64 b) := by rw [(bcell hb).1 _ _ (by simp)]; simp [go_sem]
      clear hb
      go_wp2_with fail
      refine (H2.out _).mono ?_
      rintro e w2 ⟨rfl, hb⟩
      have HB2 : Hid (Below w.heap.size w w2) := HB1.out.trans (hb.mono HB1.out.size)
      clear hb
      go_wp2
      go_ret
      exact ⟨by simp, HB2.out⟩
    · go_enter Try.func41, Try.ntmps41
      go_wp2_with fail
      refine (H1.out _).mono ?_
      rintro e w1 ⟨rfl, hb⟩
      have HB1 : Hid (Below w.heap.size w w1) := Below.trans ((Below.refl _ _).alloc (Nat.le_refl _) _) (hb.mono (by simp))
      have k1 : w1.cell? ⟨w.heap.size, 1, none⟩ = some (.int .i64 b) := by rw [(bcell hb).1 _ _ (by simp)]; simp [go_sem]
      have k2 : w1.cell? ⟨w.heap.size, 2, none⟩ = some (.int .i64 c) := by rw [(bcell hb).1 _ _ (by simp)]; simp [go_sem]
      have hz : w.heap.size + 1 ≤ w1.heap.size := by have := hb.size; simpa using this
      clear hb
      go_wp2_with fail
      refine (H2.out _).mono ?_
      rintro e w2 ⟨rfl, hb⟩
      have HB2 : Hid (Below w.heap.size w w2) := HB1.out.trans (hb.mono HB1.out.size)
      have k2 := ((bcell hb).1 w.heap.size 2 (by omega)).trans k2
      clear hb
      go_wp2_with fail
      refine (H3.out _).mono ?_
      rintro e w3 ⟨rfl, hb⟩
      have HB3 : Hid (Below w.heap.size w w3) := HB2.out.trans (hb.mono HB2.out.size)
      clear hb
      go_wp2
      go_ret
      exact ⟨by simp, HB3.out⟩
theorem rightS_yes {a b c : Int} (h : rightS a b c = true) : (1 ≤ a ∧ a ≤ 8) ∧ (1 ≤ b ∧ b ≤ 16) ∧ 1 ≤ c ∧ c ≤ 8 := by
  unfold rightS inB at h
  simp at h
  omega
end Go.Proofs.Ytcnfilbmmlolmaa
