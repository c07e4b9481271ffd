/-
  The order of floating words, the program's own. No statement is proved here.
-/
import Derived.Test.YtdgjgddobjhekaaGaugeA
import Derived.Test.YtdgjgddobjhekaaPlainCmp
set_option linter.unusedVariables false
namespace Go.Proofs.Ytdgjgddobjhekaa
open Go.RowKit

set_option maxHeartbeats 800000 in
theorem gauge_rank (x : Nat) (hx : x < 18446744073709551616) (w : World) :
    Calls Try.prog 30 #[.float .f64 x] w fun e w' => e = .returned (.int .i64 (rankW x)) ∧ w = w' := by
  have hk := fun W => gauge_Kind x hx W
  unfold rankW
  generalize kindW x = k at *
  have HK := Lib.hid hk
  clear hk hx
  by_cases h2 : k = 2
  · subst h2
    rw [if_pos rfl]
    go_enter Try.func30, Try.ntmps30
    go_wp2_with fail
    refine (HK.out _).mono ?_
    rintro e w1 ⟨rfl, rfl⟩
    go_wp2
    go_ret
    exact ⟨rfl, rfl⟩
  · rw [if_neg h2]
    have q2 : ((k : Int) == 2) = false := by simp; omega
    by_cases h5 : k = 5
    · subst h5
      rw [if_pos rfl]
      go_enter Try.func30, Try.ntmps30
      go_wp2_with fail
      refine (HK.out _).mono ?_
      rintro e w1 ⟨rfl, rfl⟩
      go_wp2
      go_ret
      exact ⟨rfl, rfl⟩
    · rw [if_neg h5]
      have q5 : ((k : Int) == 5) = false := by simp; omega
      clear h2 h5
      go_enter Try.func30, Try.ntmps30
      go_wp2_with fail
      refine (HK.out _).mono ?_
      rintro e w1 ⟨rfl, rfl⟩
      go_wp2
      go_ret
      exact ⟨rfl, rfl⟩
theorem cmp_isNaN (x : Int) (w : World) :
    Calls Try.prog 38 #[.int .i64 x] w fun e w' => e = .returned (.bool false) ∧ w = w' := by
  go_enter Try.func38, Try.ntmps38
  go_wp2
  go_ret
  exact ⟨ret_bool (by simp), rfl⟩
set_option maxHeartbeats 800000 in
theorem cmp_Compare (p q : Int) (w : World) :
    Calls Try.prog 29 #[.int .i64 p, .int .i64 q] w fun e w' => e = .returned (.int .i64 (cmp3 p q)) ∧ w = w' := by
  unfold cmp3
  by_cases h1 : p < q
  · rw [if_pos h1]
    go_enter Try.func29, Try.ntmps29
    go_wp2_with fail
    refine (cmp_isNaN _ _).mono ?_
    rintro e w1 ⟨rfl, rfl⟩
    go_wp2_with fail
    refine (cmp_isNaN _ _).mono ?_
    rintro e w1 ⟨rfl, rfl⟩
    go_wp2
    go_ret
    exact ⟨rfl, rfl⟩
  · rw [if_neg h1]
    by_cases h2 : q < p
    · rw [if_pos h2]
      have h3 : p > q := h2
      go_enter Try.func29, Try.ntmps29
      go_wp2_with fail
      refine (cmp_isNaN _ _).mono ?_
      rintro e w1 ⟨rfl, rfl⟩
      go_wp2_with fail
      refine (cmp_isNaN _ _).mono ?_
      rintro e w1 ⟨rfl, rfl⟩
      go_wp2
      go_ret
      exact ⟨rfl, rfl⟩
    · rw [if_neg h2]
      have h3 : ¬ p > q := h2
      go_enter Try.func29, Try.ntmps29
      go_wp2_with fail
      refine (cmp_isNaN _ _).mono ?_
      rintro e w1 ⟨rfl, rfl⟩
      go_wp2_with fail
      refine (cmp_isNaN _ _).mono ?_
      rintro e w1 ⟨rfl, rfl⟩
      go_wp2
      go_ret
      exact ⟨rfl, rfl⟩
set_option maxHeartbeats 800000 in
theorem gauge_Compare (a b : Nat) (ha : a < 18446744073709551616) (hb : b < 18446744073709551616) (w : World) :
    Calls Try.prog 9 #[.float .f64 a, .float .f64 b] w fun e w' => e = .returned (.int .i64 (cmpW a b)) ∧ w = w' := by
  have hl := lt_bits a b
  have hg := gt_bits a b
  have hra := fun W => gauge_rank a ha W
  have hrb := fun W => gauge_rank b hb W
  cases h1 : ltW a b
  · rw [h1] at hl
    cases h2 : ltW b a
    · rw [h2] at hg
      rw [cmp_rest h1 h2]
      have RA := Lib.hid hra
      have RB := Lib.hid hrb
      have RC := Lib.hid fun W => cmp_Compare (rankW a) (rankW b) W
      generalize rankW a = p at *
      generalize rankW b = q at *
      generalize cmp3 p q = r at *
      clear hra hrb h1 h2 ha hb
      go_enter Try.func9, Try.ntmps9
      go_wp2_with fail
      refine (RA.out _).mono ?_
      rintro e w1 ⟨rfl, rfl⟩
      go_wp2_with fail
      refine (RB.out _).mono ?_
      rintro e w1 ⟨rfl, rfl⟩
      go_wp2_with fail
      refine (RC.out _).mono ?_
      rintro e w1 ⟨rfl, rfl⟩
      go_wp2
      go_ret
      exact ⟨rfl, rfl⟩
    · rw [h2] at hg
      rw [cmp_gt h2]
      clear hra hrb h1 h2 ha hb
      go_enter Try.func9, Try.ntmps9
      go_wp2
      go_ret
      exact ⟨rfl, rfl⟩
  · rw [h1] at hl
    rw [cmp_lt h1]
    clear hra hrb h1 ha hb hg
    go_enter Try.func9, Try.ntmps9
    go_wp2
    go_ret
    exact ⟨rfl, rfl⟩
end Go.Proofs.Ytdgjgddobjhekaa
