/-
  A memory that isn't there, and counts of which there is none. No statement is proved here.
-/
import Derived.Test.YtpojnknhmpmhjaaMemO
set_option linter.unusedVariables false
namespace Go.Proofs.Ytpojnknhmpmhjaa
open Go.RowKit

theorem nil_Cells (w : World) :
    Calls Try.prog 46 #[.pointer none] w fun e w' => e = .returned (.int .i64 0) ∧ w = w' := by
  go_enter Try.func46, Try.ntmps46
  go_wp2
  go_ret
  exact ⟨rfl, rfl⟩

theorem nil_Time (w : World) :
    Calls Try.prog 27 #[.pointer none] w fun e w' => e = .returned (.int .i64 0) ∧ w = w' := by
  go_enter Try.func27, Try.ntmps27
  go_wp2
  go_ret
  exact ⟨rfl, rfl⟩

theorem nil_hasCell (i : Int) (w : World) :
    Calls Try.prog 62 #[.pointer none, .int .i64 i] w fun e w' => e = .returned (.bool false) ∧ w = w' := by
  by_cases hi : 0 ≤ i
  · have hd : decide (0 ≤ i) = true := by simpa using hi
    have hn : decide (i < 0) = false := by simp; omega
    have hn2 : ¬ i < 0 := by omega
    go_enter Try.func62, Try.ntmps62
    go_wp2_with fail
    refine (nil_Cells _).mono ?_
    rintro e w1 ⟨rfl, rfl⟩
    go_wp2
    go_ret
    exact ⟨ret_bool (by simp), rfl⟩
  · have hd : decide (0 ≤ i) = false := by simpa using hi
    go_enter Try.func62, Try.ntmps62
    go_wp2
    go_ret
    exact ⟨rfl, rfl⟩

theorem nil_Load (i : Int) (w : World) :
    Calls Try.prog 51 #[.pointer none, .int .i64 i] w fun e w' => e = .returned (.int .u64 0) ∧ w = w' := by
  go_enter Try.func51, Try.ntmps51
  go_wp2_with fail
  refine (nil_hasCell i _).mono ?_
  rintro e w1 ⟨rfl, rfl⟩
  go_wp2
  go_ret
  exact ⟨rfl, rfl⟩

theorem nil_Store (i v : Int) (w : World) :
    Calls Try.prog 47 #[.pointer none, .int .i64 i, .int .u64 v] w fun e w' => e = .returned (.tuple #[]) ∧ w = w' := by
  go_enter Try.func47, Try.ntmps47
  go_wp2_with fail
  refine (nil_hasCell i _).mono ?_
  rintro e w1 ⟨rfl, rfl⟩
  go_wp2
  refine bodyPost_ret (results_none rfl _ _ _) rfl ?_
  exact ⟨rfl, rfl⟩

theorem nil_Peek (i : Int) (w : World) :
    Calls Try.prog 49 #[.pointer none, .int .i64 i] w fun e w' => e = .returned (.int .u64 0) ∧ w = w' := by
  go_enter Try.func49, Try.ntmps49
  go_wp2_with fail
  refine (nil_hasCell i _).mono ?_
  rintro e w1 ⟨rfl, rfl⟩
  go_wp2
  go_ret
  exact ⟨rfl, rfl⟩

set_option maxHeartbeats 800000 in
theorem mem_New_bad (C L : Int) (h : C < 1 ∨ 1048576 < C ∨ L < 0 ∨ 128 < L) (w : World) :
    Calls Try.prog 11 #[.int .i64 C, .int .i64 L] w fun e w' => e = .returned (.tuple #[.pointer none, .int .i64 1]) ∧ w = w' := by
  by_cases h0 : C < 1
  · have d0 : decide (C < 1) = true := by simpa using h0
    go_enter Try.func11, Try.ntmps11
    go_wp2
    go_ret2
    exact ⟨rfl, rfl⟩
  have d0 : decide (C < 1) = false := by simpa using h0
  by_cases h1 : 1048576 < C
  · have d1 : decide (1048576 < C) = true := by simpa using h1
    have g1 : decide (C > 1048576) = true := d1
    go_enter Try.func11, Try.ntmps11
    go_wp2
    go_ret2
    exact ⟨rfl, rfl⟩
  have d1 : decide (1048576 < C) = false := by simpa using h1
  have g1 : decide (C > 1048576) = false := d1
  by_cases h2 : L < 0
  · have d2 : decide (L < 0) = true := by simpa using h2
    go_enter Try.func11, Try.ntmps11
    go_wp2
    go_ret2
    exact ⟨rfl, rfl⟩
  have d2 : decide (L < 0) = false := by simpa using h2
  have h3 : 128 < L := by omega
  have d3 : decide (128 < L) = true := by simpa using h3
  have g3 : decide (L > 128) = true := d3
  go_enter Try.func11, Try.ntmps11
  go_wp2
  go_ret2
  exact ⟨rfl, rfl⟩

end Go.Proofs.Ytpojnknhmpmhjaa
