/-
  Kinds and the order of floating words, the program's own. No statement is proved here.
-/
import Derived.Test.YtdgjgddobjhekaaKit
import Derived.Test.YtdgjgddobjhekaaKit2
import Derived.Test.YtdgjgddobjhekaaPlainKind
import Derived.WalkKit
import Derived.IntWalk
import Derived.Laws.Externs
set_option linter.unusedVariables false
namespace Go.Proofs.Ytdgjgddobjhekaa
open Go.RowKit

theorem run_bits (x : Nat) (w : World) : Sem.run Try.prog (callFunc 40 #[.float .f64 x]) w = .ok (.value (.int .u64 (x : Int))) w := by
  rw [run_callFunc_extern (fn := Try.f40) (e := Extern.MathFloatBits.float64bits) (by kernel_rfl) (by kernel_rfl) (by kernel_rfl) (by rfl) (by rfl)]
  rfl
set_option maxHeartbeats 400000 in
theorem math_IsNaN (x : Nat) (w : World) :
    Calls Try.prog 31 #[.float .f64 x] w fun e w' => e = .returned (.bool (nanW x)) ∧ w = w' := by
  have h : (FloatKind.f64.format.order x x != some .eq) = nanW x := by
    have h1 := eq_self_word x
    change (FloatKind.f64.format.order x x == some .eq) = _ at h1
    unfold bne
    rw [h1, Bool.not_not]
  have H := Lib.hid h
  clear h
  go_enter Try.func31, Try.ntmps31
  go_wp2
  go_ret
  exact ⟨ret_bool (by simpa using H.out), rfl⟩
set_option maxHeartbeats 400000 in
theorem math_IsInf1 (x : Nat) (w : World) :
    Calls Try.prog 32 #[.float .f64 x, .int .i64 1] w fun e w' => e = .returned (.bool (!nanW x && decide (rungW x = 9218868437227405312) && !sgnW x)) ∧ w = w' := by
  have H := Lib.hid (top_word x)
  go_enter Try.func32, Try.ntmps32
  go_wp2
  go_ret
  exact ⟨ret_bool H.out, rfl⟩
set_option maxHeartbeats 400000 in
theorem math_IsInfM (x : Nat) (hx : x < 18446744073709551616) (w : World) :
    Calls Try.prog 32 #[.float .f64 x, .int .i64 (-1)] w fun e w' => e = .returned (.bool (!nanW x && decide (rungW x = 9218868437227405312) && sgnW x)) ∧ w = w' := by
  have h := top_word (x ^^^ 9223372036854775808)
  obtain ⟨h1, h2⟩ := neg_word x hx
  have h3 : nanW (x ^^^ 9223372036854775808) = nanW x := by unfold nanW; rw [h1]
  rw [h1, h2, h3, Bool.not_not] at h
  have hneg : Sem.run Try.prog (Op.unary UnOp.neg (.float .f64 x)) w = .ok (.float .f64 (x ^^^ 9223372036854775808)) w := rfl
  have H := Lib.hid h
  clear h h1 h2 h3 hx
  generalize x ^^^ 9223372036854775808 = y at *
  go_enter Try.func32, Try.ntmps32
  go_wp2
  go_ret
  exact ⟨ret_bool H.out, rfl⟩
set_option maxHeartbeats 400000 in
theorem math_Signbit (x : Nat) (hx : x < 18446744073709551616) (w : World) :
    Calls Try.prog 33 #[.float .f64 x] w fun e w' => e = .returned (.bool (sgnW x)) ∧ w = w' := by
  have hb := run_bits x w
  have H := Lib.hid (sign_word x hx)
  clear hx
  go_enter Try.func33, Try.ntmps33
  go_wp2
  go_ret
  exact ⟨ret_bool H.out, rfl⟩
theorem gauge_kind_zero (x : Nat) : (FloatKind.f64.format.order x 0 != some .eq) = !(!nanW x && decide (rungW x = 0)) := by
  have h1 := eq_zero_word x
  change (FloatKind.f64.format.order x 0 == some .eq) = _ at h1
  unfold bne
  rw [h1]
set_option maxHeartbeats 1600000 in
theorem gauge_Kind (x : Nat) (hx : x < 18446744073709551616) (w : World) :
    Calls Try.prog 11 #[.float .f64 x] w fun e w' => e = .returned (.int .i64 (kindW x : Nat)) ∧ w = w' := by
  have h1 := fun W => math_IsNaN x W
  have h2 := fun W => math_IsInf1 x W
  have h3 := fun W => math_IsInfM x hx W
  have h4 := fun W => math_Signbit x hx W
  have h5 := gauge_kind_zero x
  unfold kindW
  clear hx
  cases hn : nanW x
  · rw [hn] at h1 h2 h3 h5
    by_cases hi : rungW x = 9218868437227405312
    · rw [decide_eq_true hi] at h2 h3
      rw [if_neg (by simp), if_pos hi]
      cases hs : sgnW x
      · rw [hs] at h2 h3
        have H1 := Lib.hid h1
        have H2 := Lib.hid h2
        clear h1 h2 h3 h4 h5 hn hi hs
        go_enter Try.func11, Try.ntmps11
        go_wp2_with fail
        refine (H1.out _).mono ?_
        rintro e w1 ⟨rfl, rfl⟩
        go_wp2_with fail
        refine (H2.out _).mono ?_
        rintro e w1 ⟨rfl, rfl⟩
        go_wp2
        go_ret
        exact ⟨rfl, rfl⟩
      · rw [hs] at h2 h3
        have H1 := Lib.hid h1
        have H2 := Lib.hid h2
        have H3 := Lib.hid h3
        clear h1 h2 h3 h4 h5 hn hi hs
        go_enter Try.func11, Try.ntmps11
        go_wp2_with fail
        refine (H1.out _).mono ?_
        rintro e w1 ⟨rfl, rfl⟩
        go_wp2_with fail
        refine (H2.out _).mono ?_
        rintro e w1 ⟨rfl, rfl⟩
        go_wp2_with fail
        refine (H3.out _).mono ?_
        rintro e w1 ⟨rfl, rfl⟩
        go_wp2
        go_ret
        exact ⟨rfl, rfl⟩
    · rw [decide_eq_false hi] at h2 h3
      rw [if_neg (by simp), if_neg hi]
      by_cases hz : rungW x = 0
      · rw [decide_eq_true hz] at h5
        rw [if_pos hz]
        cases hs : sgnW x
        · rw [hs] at h4
          have H1 := Lib.hid h1
          have H2 := Lib.hid h2
          have H3 := Lib.hid h3
          have H4 := Lib.hid h4
          have h5 : (FloatKind.f64.format.order x 0 != some .eq) = false := h5
          clear h1 h2 h3 h4 hn hi hs hz
          go_enter Try.func11, Try.ntmps11
          go_wp2_with fail
          refine (H1.out _).mono ?_
          rintro e w1 ⟨rfl, rfl⟩
          go_wp2_with fail
          refine (H2.out _).mono ?_
          rintro e w1 ⟨rfl, rfl⟩
          go_wp2_with fail
          refine (H3.out _).mono ?_
          rintro e w1 ⟨rfl, rfl⟩
          go_wp2_with fail
          refine (H4.out _).mono ?_
          rintro e w1 ⟨rfl, rfl⟩
          go_wp2
          go_ret
          exact ⟨rfl, rfl⟩
        · rw [hs] at h4
          have H1 := Lib.hid h1
          have H2 := Lib.hid h2
          have H3 := Lib.hid h3
          have H4 := Lib.hid h4
          have h5 : (FloatKind.f64.format.order x 0 != some .eq) = false := h5
          clear h1 h2 h3 h4 hn hi hs hz
          go_enter Try.func11, Try.ntmps11
          go_wp2_with fail
          refine (H1.out _).mono ?_
          rintro e w1 ⟨rfl, rfl⟩
          go_wp2_with fail
          refine (H2.out _).mono ?_
          rintro e w1 ⟨rfl, rfl⟩
          go_wp2_with fail
          refine (H3.out _).mono ?_
          rintro e w1 ⟨rfl, rfl⟩
          go_wp2_with fail
          refine (H4.out _).mono ?_
          rintro e w1 ⟨rfl, rfl⟩
          go_wp2
          go_ret
          exact ⟨rfl, rfl⟩
      · rw [decide_eq_false hz] at h5
        rw [if_neg hz]
        have H1 := Lib.hid h1
        have H2 := Lib.hid h2
        have H3 := Lib.hid h3
        have h5 : (FloatKind.f64.format.order x 0 != some .eq) = true := h5
        clear h1 h2 h3 h4 hn hi hz
        go_enter Try.func11, Try.ntmps11
        go_wp2_with fail
        refine (H1.out _).mono ?_
        rintro e w1 ⟨rfl, rfl⟩
        go_wp2_with fail
        refine (H2.out _).mono ?_
        rintro e w1 ⟨rfl, rfl⟩
        go_wp2_with fail
        refine (H3.out _).mono ?_
        rintro e w1 ⟨rfl, rfl⟩
        go_wp2
        go_ret
        exact ⟨rfl, rfl⟩
  · rw [hn] at h1
    rw [if_pos rfl]
    have H1 := Lib.hid h1
    clear h1 h2 h3 h4 h5 hn
    go_enter Try.func11, Try.ntmps11
    go_wp2_with fail
    refine (H1.out _).mono ?_
    rintro e w1 ⟨rfl, rfl⟩
    go_wp2
    go_ret
    exact ⟨rfl, rfl⟩
end Go.Proofs.Ytdgjgddobjhekaa
