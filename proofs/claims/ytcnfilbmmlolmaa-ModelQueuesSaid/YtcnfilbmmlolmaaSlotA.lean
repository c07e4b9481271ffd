/-
  Entries: whether they may be, and their words, the program's own and the document's. No statement is proved here.
-/
import Derived.Test.YtcnfilbmmlolmaaKeyB
set_option linter.unusedVariables false
namespace Go.Proofs.Ytcnfilbmmlolmaa
open Go.RowKit

theorem rightE_at (v : Int) (m : Nat) (p : Int) (st : Bool) (s : Nat) : rightE ⟨v, m, p, st, s⟩ = (rightK v m && (decide (0 ≤ p) && decide (p < 64) && !(st && decide (s ≠ 0)))) := by
  unfold rightE
  cases st <;> simp [Bool.decide_and, Bool.and_assoc]

set_option maxHeartbeats 1600000 in
theorem slot_Right (v : Int) (m : Nat) (hm : m < 18446744073709551616) (p : Int) (st : Bool) (s : Nat) (hs : s < 4294967296) (w : World) :
    Calls Try.prog 118 #[.agg #[.int .i64 v, .int .u64 (m : Int), .int .i64 p, .bool st, .int .u32 (s : Int)]] w (Says (.bool (rightE ⟨v, m, p, st, s⟩)) w) := by
  have hR := fun W => key_Right v m hm W
  rw [rightE_at]
  generalize rightK v m = r at *
  have HR := Lib.hid hR
  clear hR hm
  cases st
  · cases r
    · go_enter Try.func118, Try.ntmps118
      go_wp2_with fail
      refine (HR.out _).mono ?_
      rintro e w1 ⟨rfl, hb⟩
      obtain ⟨hc, _⟩ := bcell hb
      have c2 : w1.cell? ⟨w.heap.size, 2, none⟩ = some (.int .i64 p) := by rw [hc _ _ (by simp)]; simp [go_sem]
      have HB := Lib.hid (Below.trans ((Below.refl _ _).alloc (Nat.le_refl _) _) (hb.mono (by simp)))
      clear hc hb
      go_wp2
      all_goals go_ret
      all_goals refine ⟨ret_bool ?_, HB.out⟩
      all_goals first | rfl | (simp; done) | (simp_all; done) | (simp; omega) | (rw [Bool.eq_iff_iff]; simp; omega)
    · go_enter Try.func118, Try.ntmps118
      go_wp2_with fail
      refine (HR.out _).mono ?_
      rintro e w1 ⟨rfl, hb⟩
      obtain ⟨hc, _⟩ := bcell hb
      have c2 : w1.cell? ⟨w.heap.size, 2, none⟩ = some (.int .i64 p) := by rw [hc _ _ (by simp)]; simp [go_sem]
      have HB := Lib.hid (Below.trans ((Below.refl _ _).alloc (Nat.le_refl _) _) (hb.mono (by simp)))
      clear hc hb
      go_wp2
      all_goals go_ret
      all_goals refine ⟨ret_bool ?_, HB.out⟩
      all_goals first | rfl | (simp; done) | (simp_all; done) | (simp; omega) | (rw [Bool.eq_iff_iff]; simp; omega)
  · by_cases hz : s = 0
    · subst hz
      cases r
      · go_enter Try.func118, Try.ntmps118
        go_wp2_with fail
        refine (HR.out _).mono ?_
        rintro e w1 ⟨rfl, hb⟩
        obtain ⟨hc, _⟩ := bcell hb
        have c2 : w1.cell? ⟨w.heap.size, 2, none⟩ = some (.int .i64 p) := by rw [hc _ _ (by simp)]; simp [go_sem]
        have HB := Lib.hid (Below.trans ((Below.refl _ _).alloc (Nat.le_refl _) _) (hb.mono (by simp)))
        clear hc hb
        go_wp2
        all_goals go_ret
        all_goals refine ⟨ret_bool ?_, HB.out⟩
        all_goals first | rfl | (simp; done) | (simp_all; done) | (simp; omega) | (rw [Bool.eq_iff_iff]; simp; omega)
      · go_enter Try.func118, Try.ntmps118
        go_wp2_with fail
        refine (HR.out _).mono ?_
        rintro e w1 ⟨rfl, hb⟩
        obtain ⟨hc, _⟩ := bcell hb
        have c2 : w1.cell? ⟨w.heap.size, 2, none⟩ = some (.int .i64 p) := by rw [hc _ _ (by simp)]; simp [go_sem]
        have HB := Lib.hid (Below.trans ((Below.refl _ _).alloc (Nat.le_refl _) _) (hb.mono (by simp)))
        clear hc hb
        go_wp2
        all_goals go_ret
        all_goals refine ⟨ret_bool ?_, HB.out⟩
        all_goals first | rfl | (simp; done) | (simp_all; done) | (simp; omega) | (rw [Bool.eq_iff_iff]; simp; omega)
    · have hz1 : ¬ (s : Int) = 0 := by omega
      cases r
      · go_enter Try.func118, Try.ntmps118
        go_wp2
        go_ret
        exact ⟨ret_bool (by first | rfl | (simp; done) | (simp [hz]; done)), ((Below.refl _ _).alloc (Nat.le_refl _) _)⟩
      · go_enter Try.func118, Try.ntmps118
        go_wp2
        go_ret
        exact ⟨ret_bool (by first | rfl | (simp; done) | (simp [hz]; done)), ((Below.refl _ _).alloc (Nat.le_refl _) _)⟩

end Go.Proofs.Ytcnfilbmmlolmaa
