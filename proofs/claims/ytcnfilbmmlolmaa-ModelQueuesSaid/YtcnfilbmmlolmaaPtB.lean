/-
  Ports: stands out of words, and set, the program's own and the document's. No statement is proved here.
-/
import Derived.Test.YtcnfilbmmlolmaaPtA
import Derived.StillTailTactics
set_option linter.unusedVariables false
namespace Go.Proofs.Ytcnfilbmmlolmaa
open Go.RowKit

theorem of_no {a : Nat} (h : okS a = false) : stateW a = 0 ∧ epochW a = 0 := by
  unfold stateW epochW; rw [h]; exact ⟨rfl, rfl⟩
theorem of_yes {a : Nat} (h : okS a = true) : stateW a = a % 256 ∧ epochW a = a / 256 := by
  unfold stateW epochW; rw [h]; exact ⟨rfl, rfl⟩

set_option maxHeartbeats 1600000 in
theorem port_Set (s x : Int) (k : Nat) (w : World) : Calls Try.prog 90 #[.agg #[.int .i64 s, .int .u32 (k : Int)], .int .i64 x] w (Says (if rightSt x = true then .tuple #[.agg #[.int .i64 x, .int .u32 (((k + 1) % 4294967296 : Nat) : Int)], .int .i64 0] else .tuple #[.agg #[.int .i64 0, .int .u32 0], .int .i64 7]) w) := by
  have HR := Lib.hid (fun W => port_Right x W)
  by_cases h : rightSt x = true
  · rw [if_pos h]
    rw [h] at HR
    have hk : IntKind.u32.wrap ((k : Int) + 1) = (((k + 1) % 4294967296 : Nat) : Int) := by rw [IntKind.wrap_u32]; omega
    generalize (((k + 1) % 4294967296 : Nat) : Int) = K at *
    generalize (k : Int) = k at *
    clear h
    go_enter Try.func90, Try.ntmps90
    go_wp2_with fail
    refine (HR.out _).mono ?_
    rintro e w1 ⟨rfl, rfl⟩
    go_wp2
    exact bodyPost_ret (v := .tuple #[.agg #[.int .i64 x, .int .u32 K], .int .i64 0]) (by first | (simp [results, Try.results90, go_sem]; done) | (simp_all [results, Try.results90, go_sem]; done)) rfl ⟨rfl, (by (repeat' (first | (with_reducible exact Below.refl _ _) | (with_reducible assumption) | (with_reducible refine Below.setCell ?_ ?_ _) | (with_reducible refine Below.alloc ?_ ?_ _) | (with_reducible refine below_drewN ?_ _) | (with_reducible refine Below.drew ?_) | go_size)))⟩
  · rw [if_neg h]
    have h : rightSt x = false := by simpa using h
    rw [h] at HR
    clear h
    go_enter Try.func90, Try.ntmps90
    go_wp2_with fail
    refine (HR.out _).mono ?_
    rintro e w1 ⟨rfl, rfl⟩
    go_wp2
    exact bodyPost_ret (v := .tuple #[.agg #[.int .i64 0, .int .u32 0], .int .i64 7]) (by first | (simp [results, Try.results90, go_sem]; done) | (simp_all [results, Try.results90, go_sem]; done)) rfl ⟨rfl, (by (repeat' (first | (with_reducible exact Below.refl _ _) | (with_reducible assumption) | (with_reducible refine Below.setCell ?_ ?_ _) | (with_reducible refine Below.alloc ?_ ?_ _) | (with_reducible refine below_drewN ?_ _) | (with_reducible refine Below.drew ?_) | go_size)))⟩

end Go.Proofs.Ytcnfilbmmlolmaa
