/-
  Sizes of books: may they be? as the program has them, and such as may be. No statement is proved here.
-/
import Derived.Test.YtcnfilbmmlolmaaBkD
import Derived.Test.YtcnfilbmmlolmaaMzA
set_option linter.unusedVariables false
namespace Go.Proofs.Ytcnfilbmmlolmaa
open Go.RowKit

set_option maxHeartbeats 800000 in
theorem law11_To (a b c : Int) (w : World) :
    Calls Try.prog 37 #[.agg #[.int .i64 a, .int .i64 b, .int .i64 c]] w (Says (.agg #[.int .i64 a, .int .i64 b, .int .i64 c]) w) := by
  go_enter Try.func37, Try.ntmps37
  go_wp2
  exact bodyPost_ret (v := .agg #[.int .i64 a, .int .i64 b, .int .i64 c]) (by simp [results, Try.results37, go_sem]) rfl ⟨rfl, (by (repeat' (first | (with_reducible exact Below.refl _ _) | (with_reducible refine Below.setCell ?_ ?_ _) | (with_reducible refine Below.alloc ?_ ?_ _) | go_size)))⟩
set_option maxHeartbeats 6400000 in
theorem ref11_Right (a b c : Int) (w : World) :
    Calls Try.prog 32 #[.agg #[.int .i64 a, .int .i64 b, .int .i64 c]] w (Says (.bool (rightS a b c)) w) := by
  unfold rightS inB
  by_cases h1 : 1 ≤ a
  · have d1 : decide (1 ≤ a) = true := by simpa using h1
    by_cases h2 : a ≤ 8
    · have d2 : decide (a ≤ 8) = true := by simpa using h2
      by_cases h3 : 1 ≤ b
      · have d3 : decide (1 ≤ b) = true := by simpa using h3
        by_cases h4 : b ≤ 16
        · have d4 : decide (b ≤ 16) = true := by simpa using h4
          by_cases h5 : 1 ≤ c
          · have d5 : decide (1 ≤ c) = true := by simpa using h5
            by_cases h6 : c ≤ 8
            · have d6 : decide (c ≤ 8) = true := by simpa using h6
              rw [d1, d2, d3, d4, d5, d6]
              clear d1 d2 d3 d4 d5 d6
              go_enter Try.func32, Try.ntmps32
              go_wp2
              go_ret
              exact ⟨by simp, (Below.refl _ _).alloc (Nat.le_refl _) _⟩
            · have d6 : decide (c ≤ 8) = false := by simpa using h6
              rw [d1, d2, d3, d4, d5, d6]
              clear d1 d2 d3 d4 d5 d6
              go_enter Try.func32, Try.ntmps32
              go_wp2
              go_ret
              exact ⟨by simp, (Below.refl _ _).alloc (Nat.le_refl _) _⟩
          · have d5 : decide (1 ≤ c) = false := by simpa using h5
            rw [d1, d2, d3, d4, d5]
            clear d1 d2 d3 d4 d5
            go_enter Try.func32, Try.ntmps32
            go_wp2
            go_ret
            exact ⟨by simp, (Below.refl _ _).alloc (Nat.le_refl _) _⟩
        · have d4 : decide (b ≤ 16) = false := by simpa using h4
          rw [d1, d2, d3, d4]
          clear d1 d2 d3 d4
          go_enter Try.func32, Try.ntmps32
          go_wp2
          go_ret
          exact ⟨by simp, (Below.refl _ _).alloc (Nat.le_refl _) _⟩
      · have d3 : decide (1 ≤ b) = false := by simpa using h3
        rw [d1, d2, d3]
        clear d1 d2 d3
        go_enter Try.func32, Try.ntmps32
        go_wp2
        go_ret
        exact ⟨by simp, (Below.refl _ _).alloc (Nat.le_refl _) _⟩
    · have d2 : decide (a ≤ 8) = false := by simpa using h2
      rw [d1, d2]
      clear d1 d2
      go_enter Try.func32, Try.ntmps32
      go_wp2
      go_ret
      exact ⟨by simp, (Below.refl _ _).alloc (Nat.le_refl _) _⟩
  · have d1 : decide (1 ≤ a) = false := by simpa using h1
    rw [d1]
    clear d1
    go_enter Try.func32, Try.ntmps32
    go_wp2
    go_ret
    exact ⟨by simp, (Below.refl _ _).alloc (Nat.le_refl _) _⟩
theorem fix_size (x : Int) (k : Nat) (hk : 1 ≤ k) (hk2 : k ≤ 16) : ∃ S : Nat, 1 ≤ S ∧ S ≤ k ∧ wrap64 (1 + wrap64 ((IntKind.u64.wrap x).tmod (k : Int))) = (S : Int) := by
  have h1 : 0 ≤ IntKind.u64.wrap x := by rw [IntKind.wrap_u64]; omega
  rw [Int.tmod_eq_emod_of_nonneg h1]
  have a1 := Int.emod_nonneg (IntKind.u64.wrap x) (show (k : Int) ≠ 0 by omega)
  have a2 := Int.emod_lt_of_pos (IntKind.u64.wrap x) (show 0 < (k : Int) by omega)
  generalize IntKind.u64.wrap x % (k : Int) = y at *
  refine ⟨(1 + y).toNat, by omega, by omega, ?_⟩
  rw [IntWalk.wrap64_in y (by omega), IntWalk.wrap64_in _ (by omega)]
  omega
set_option maxHeartbeats 1600000 in
theorem ref11_Fix (a b c : Int) (S B n : Nat) (h1 : wrap64 (1 + wrap64 ((IntKind.u64.wrap a).tmod ((8 : Nat) : Int))) = (S : Int)) (h2 : wrap64 (1 + wrap64 ((IntKind.u64.wrap b).tmod ((16 : Nat) : Int))) = (B : Int)) (h3 : wrap64 (1 + wrap64 ((IntKind.u64.wrap c).tmod ((8 : Nat) : Int))) = (n : Int)) (w : World) :
    Calls Try.prog 66 #[.agg #[.int .i64 a, .int .i64 b, .int .i64 c]] w (Says (.agg #[.int .i64 (S : Nat), .int .i64 (B : Nat), .int .i64 (n : Nat)]) w) := by
  rw [show ((8 : Nat) : Int) = 8 from rfl] at h1 h3
  rw [show ((16 : Nat) : Int) = 16 from rfl] at h2
  go_enter Try.func66, Try.ntmps66
  go_wp2
  exact bodyPost_ret (v := .agg #[.int .i64 (S : Nat), .int .i64 (B : Nat), .int .i64 (n : Nat)]) (by simp [results, Try.results66, go_sem]) rfl ⟨rfl, (by (repeat' (first | (with_reducible exact Below.refl _ _) | (with_reducible refine Below.setCell ?_ ?_ _) | (with_reducible refine Below.alloc ?_ ?_ _) | go_size)))⟩
end Go.Proofs.Ytcnfilbmmlolmaa
