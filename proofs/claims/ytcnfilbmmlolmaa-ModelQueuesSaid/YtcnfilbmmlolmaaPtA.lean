/-
  Ports: their states, words and stands, the program's own and the document's. No statement is proved here.
-/
import Derived.Test.YtcnfilbmmlolmaaMzA
set_option linter.unusedVariables false
namespace Go.Proofs.Ytcnfilbmmlolmaa
open Go.RowKit

set_option maxHeartbeats 800000 in
theorem port_Right (s : Int) (w : World) : Calls Try.prog 109 #[.int .i64 s] w fun e w' => e = .returned (.bool (rightSt s)) ∧ w = w' := by
  by_cases h1 : 0 ≤ s
  · have d1 : decide (s ≥ 0) = true := by simpa using h1
    have d1' : decide (0 ≤ s) = true := by simpa using h1
    by_cases h2 : s ≤ 4
    · have d2 : decide (s ≤ 4) = true := by simpa using h2
      have hr : rightSt s = true := rightSt_iff.2 ⟨h1, h2⟩
      rw [hr]
      go_enter Try.func109, Try.ntmps109
      go_wp2
      go_ret
      exact ⟨by first | rfl | (simp; done) | (simp [h1, h2]; done), rfl⟩
    · have d2 : decide (s ≤ 4) = false := by simpa using h2
      have hr : rightSt s = false := rightSt_no (by omega)
      rw [hr]
      go_enter Try.func109, Try.ntmps109
      go_wp2
      go_ret
      exact ⟨by first | rfl | (simp; done) | (simp [h1, h2]; done), rfl⟩
  · have d1 : decide (s ≥ 0) = false := by simpa using h1
    have d1' : decide (0 ≤ s) = false := by simpa using h1
    have hr : rightSt s = false := rightSt_no (by omega)
    rw [hr]
    go_enter Try.func109, Try.ntmps109
    go_wp2
    go_ret
    exact ⟨by first | rfl | (simp; done) | (simp [h1]; done), rfl⟩

set_option maxHeartbeats 800000 in
theorem ref16_Right (s : Int) (w : World) : Calls Try.prog 25 #[.int .i64 s] w fun e w' => e = .returned (.bool (rightSt s)) ∧ w = w' := by
  by_cases h1 : 0 ≤ s
  · have d1 : decide (s ≥ 0) = true := by simpa using h1
    have d1' : decide (0 ≤ s) = true := by simpa using h1
    by_cases h2 : s ≤ 4
    · have d2 : decide (s ≤ 4) = true := by simpa using h2
      have hr : rightSt s = true := rightSt_iff.2 ⟨h1, h2⟩
      rw [hr]
      go_enter Try.func25, Try.ntmps25
      go_wp2
      go_ret
      exact ⟨by first | rfl | (simp; done) | (simp [h1, h2]; done), rfl⟩
    · have d2 : decide (s ≤ 4) = false := by simpa using h2
      have hr : rightSt s = false := rightSt_no (by omega)
      rw [hr]
      go_enter Try.func25, Try.ntmps25
      go_wp2
      go_ret
      exact ⟨by first | rfl | (simp; done) | (simp [h1, h2]; done), rfl⟩
  · have d1 : decide (s ≥ 0) = false := by simpa using h1
    have d1' : decide (0 ≤ s) = false := by simpa using h1
    have hr : rightSt s = false := rightSt_no (by omega)
    rw [hr]
    go_enter Try.func25, Try.ntmps25
    go_wp2
    go_ret
    exact ⟨by first | rfl | (simp; done) | (simp [h1]; done), rfl⟩

set_option maxHeartbeats 800000 in
theorem port_Forwards (s : Int) (w : World) : Calls Try.prog 92 #[.int .i64 s] w fun e w' => e = .returned (.bool (decide (s = 4))) ∧ w = w' := by
  have hh : decide (s = 4) = (s == 4) := by by_cases h4 : s = 4 <;> simp [h4]
  rw [hh]
  go_enter Try.func92, Try.ntmps92
  go_wp2
  go_ret
  exact ⟨by first | rfl | (simp; done), rfl⟩

end Go.Proofs.Ytcnfilbmmlolmaa
