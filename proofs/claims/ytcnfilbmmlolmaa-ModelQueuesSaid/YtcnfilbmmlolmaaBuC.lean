/-
  What comes of an entry whose key has an old one; the document's copy of places. No statement is proved here.
-/
import Derived.Test.YtcnfilbmmlolmaaBuA
import Derived.Deep.RegionHeld3
set_option linter.unusedVariables false
namespace Go.Proofs.Ytcnfilbmmlolmaa
open Go.RowKit

theorem againE_at (o e : En) : againE o e = if o = e ∨ (o.st = true ∧ e.st = false) then 0 else if e.st = false ∧ o.port = e.port then 1 else 2 := rfl
set_option maxHeartbeats 3200000 in
theorem bucket_again (a0 : Int) (q0 : Nat) (p0 : Int) (t0 : Bool) (s0 : Nat) (a1 : Int) (q1 : Nat) (p1 : Int) (t1 : Bool) (s1 : Nat) (hk : a0 = a1 ∧ q0 = q1) (w : World) :
    Calls Try.prog 120 #[.agg #[.int .i64 a0, .int .u64 (q0 : Int), .int .i64 p0, .bool t0, .int .u32 (s0 : Int)], .agg #[.int .i64 a1, .int .u64 (q1 : Int), .int .i64 p1, .bool t1, .int .u32 (s1 : Int)]] w (Says (.int .i64 (againE ⟨a0, q0, p0, t0, s0⟩ ⟨a1, q1, p1, t1, s1⟩ : Nat)) w) := by
  have ha := againE_at ⟨a0, q0, p0, t0, s0⟩ ⟨a1, q1, p1, t1, s1⟩
  obtain ⟨rfl, rfl⟩ := hk
  simp only [En.mk.injEq, true_and] at ha
  generalize againE ⟨a0, q0, p0, t0, s0⟩ ⟨a0, q0, p1, t1, s1⟩ = r at *
  have HA := Lib.hid ha
  clear ha
  by_cases hp : p0 = p1
  · subst hp
    by_cases hs : s0 = s1
    · subst hs
      cases t0 <;> cases t1
      all_goals
        go_enter Try.func120, Try.ntmps120
        go_wp2
        go_ret
        exact ⟨ret_i64 (by rw [HA.out]; simp), (by (repeat' (first | (with_reducible exact Below.refl _ _) | (with_reducible assumption) | (with_reducible refine Below.setCell ?_ ?_ _) | (with_reducible refine Below.alloc ?_ ?_ _) | (with_reducible refine below_drewN ?_ _) | (with_reducible refine Below.drew ?_) | go_size)))⟩
    · have hs1 : ¬ (s0 : Int) = (s1 : Int) := by omega
      have hs2 : ((s0 : Int) == (s1 : Int)) = false := by simp; omega
      cases t0 <;> cases t1
      all_goals
        go_enter Try.func120, Try.ntmps120
        go_wp2
        go_ret
        exact ⟨ret_i64 (by rw [HA.out]; simp [hs]), (by (repeat' (first | (with_reducible exact Below.refl _ _) | (with_reducible assumption) | (with_reducible refine Below.setCell ?_ ?_ _) | (with_reducible refine Below.alloc ?_ ?_ _) | (with_reducible refine below_drewN ?_ _) | (with_reducible refine Below.drew ?_) | go_size)))⟩
  · have hp1 : (p0 == p1) = false := by simpa using hp
    cases t0 <;> cases t1
    all_goals
      go_enter Try.func120, Try.ntmps120
      go_wp2
      go_ret
      exact ⟨ret_i64 (by rw [HA.out]; simp [hp]), (by (repeat' (first | (with_reducible exact Below.refl _ _) | (with_reducible assumption) | (with_reducible refine Below.setCell ?_ ?_ _) | (with_reducible refine Below.alloc ?_ ?_ _) | (with_reducible refine below_drewN ?_ _) | (with_reducible refine Below.drew ?_) | go_size)))⟩
end Go.Proofs.Ytcnfilbmmlolmaa
