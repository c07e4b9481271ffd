/-
  Kinds and the order of floating words, the document's. No statement is proved here.
-/
import Derived.Test.YtdgjgddobjhekaaGaugeB
import Derived.Test.YtdgjgddobjhekaaPlainSub
set_option linter.unusedVariables false
namespace Go.Proofs.Ytdgjgddobjhekaa
open Go.RowKit

theorem self_bits (x : Nat) : (FloatKind.f64.format.order x x != some .eq) = nanW x := by
  have h1 := eq_self_word x
  change (FloatKind.f64.format.order x x == some .eq) = _ at h1
  unfold bne
  rw [h1, Bool.not_not]
theorem zero_bits (x : Nat) : (FloatKind.f64.format.order x 0 == some .eq) = (!nanW x && decide (rungW x = 0)) := eq_zero_word x
theorem nzero_bits (x : Nat) : (FloatKind.f64.format.order x 0 != some .eq) = !(!nanW x && decide (rungW x = 0)) := gauge_kind_zero x
theorem pos_bits {x : Nat} (hn : nanW x = false) (hz : rungW x ≠ 0) : (FloatKind.f64.format.order x 0 == some .gt) = !sgnW x := by
  rw [gt_bits]
  unfold ltW
  have z1 : nanW 0 = false := by decide
  have z2 : sgnW 0 = false := by decide
  have z3 : rungW 0 = 0 := by decide
  rw [hn, z1, z2, z3, valZ_zero.2 rfl]
  have hp : 0 < valN (rungW x) := by have := valN_lt (Nat.pos_of_ne_zero hz); rw [valN_zero] at this; exact this
  unfold valZ
  cases sgnW x
  · simp; omega
  · simp
theorem neg_bits {x : Nat} (hn : nanW x = false) (hz : rungW x ≠ 0) : (FloatKind.f64.format.order x 0 == some .lt) = sgnW x := by
  rw [lt_bits]
  unfold ltW
  have z1 : nanW 0 = false := by decide
  have z2 : sgnW 0 = false := by decide
  have z3 : rungW 0 = 0 := by decide
  rw [hn, z1, z2, z3, valZ_zero.2 rfl]
  have hp : 0 < valN (rungW x) := by have := valN_lt (Nat.pos_of_ne_zero hz); rw [valN_zero] at this; exact this
  unfold valZ
  cases sgnW x
  · simp
  · simp; omega

set_option maxHeartbeats 1600000 in
theorem ref5_Kind (x : Nat) (hx : x < 18446744073709551616) (w : World) :
    Calls Try.prog 12 #[.float .f64 x] w (Says (.int .i64 (kindW x : Nat)) w) := by
  have q1 := self_bits x
  have q2 := zero_bits x
  cases hn : nanW x
  · rw [hn] at q1 q2
    by_cases hz : rungW x = 0
    · rw [decide_eq_true hz] at q2
      have q2 : (FloatKind.f64.format.order x 0 == some .eq) = true := q2
      rcases zero_cases hx hz with ⟨rfl, hs⟩ | ⟨rfl, hs⟩
      · have hk : kindW 0 = 1 := by decide
        rw [hk]
        have hrun : Sem.run Try.prog (binOp .quo 22 (.float .f64 4607182418800017408) (.float .f64 0)) w = .ok (.float .f64 9218868437227405312) w := run_float_arith w .quo _ .f64 _ _ _ inv_zero
        have q3 : (FloatKind.f64.format.order 9218868437227405312 0 == some .gt) = true := (pos_bits (x := 9218868437227405312) (by decide) (by decide)).trans (by decide)
        clear hx hn hz hs hk
        go_enter Try.func12, Try.ntmps12
        go_wp2
        go_ret
        exact ⟨rfl, Below.refl _ _⟩
      · have hk : kindW 9223372036854775808 = 2 := by decide
        rw [hk]
        have hrun : Sem.run Try.prog (binOp .quo 22 (.float .f64 4607182418800017408) (.float .f64 9223372036854775808)) w = .ok (.float .f64 18442240474082181120) w := run_float_arith w .quo _ .f64 _ _ _ inv_minus
        have q3 : (FloatKind.f64.format.order 18442240474082181120 0 == some .gt) = false := (pos_bits (x := 18442240474082181120) (by decide) (by decide)).trans (by decide)
        clear hx hn hz hs hk
        go_enter Try.func12, Try.ntmps12
        go_wp2
        go_ret
        exact ⟨rfl, Below.refl _ _⟩
    · rw [decide_eq_false hz] at q2
      have q2 : (FloatKind.f64.format.order x 0 == some .eq) = false := q2
      by_cases hi : rungW x = 9218868437227405312
      · obtain ⟨b, hb1, hb2, hrun⟩ := run_float_nan (P := Try.prog) w .sub 22 x x (.inr (.inl rfl)) (sub_self_inf hi)
        have q3 := nzero_bits b
        rw [hb1] at q3
        have q3 : (FloatKind.f64.format.order b 0 != some .eq) = true := q3
        have q4 := pos_bits hn hz
        have hk : kindW x = if sgnW x = true then 4 else 3 := by unfold kindW; rw [hn, if_neg (by simp), if_pos hi]
        rw [hk]
        cases hs : sgnW x
        · rw [hs] at q4
          have q4 : (FloatKind.f64.format.order x 0 == some .gt) = true := q4
          clear hx hn hz hs hk hi hb1 hb2
          go_enter Try.func12, Try.ntmps12
          go_wp2
          go_ret
          exact ⟨rfl, (Below.refl _ _).drew⟩
        · rw [hs] at q4
          have q4 : (FloatKind.f64.format.order x 0 == some .gt) = false := q4
          clear hx hn hz hs hk hi hb1 hb2
          go_enter Try.func12, Try.ntmps12
          go_wp2
          go_ret
          exact ⟨rfl, (Below.refl _ _).drew⟩
      · have hlt : rungW x < 9218868437227405312 := by have := of_decide_eq_false hn; omega
        have hrun : Sem.run Try.prog (binOp .sub 22 (.float .f64 x) (.float .f64 x)) w = .ok (.float .f64 0) w := run_float_arith w .sub _ .f64 _ _ _ (sub_self_num hlt)
        have q3 : (FloatKind.f64.format.order 0 0 != some .eq) = false := by rw [nzero_bits]; decide
        have hk : kindW x = 0 := by unfold kindW; rw [hn, if_neg (by simp), if_neg hi, if_neg hz]
        rw [hk]
        clear hx hn hz hi hlt hk
        go_enter Try.func12, Try.ntmps12
        go_wp2
        go_ret
        exact ⟨rfl, Below.refl _ _⟩
  · rw [hn] at q1
    have hk : kindW x = 5 := by unfold kindW; rw [if_pos hn]
    rw [hk]
    clear hx hn hk q2
    go_enter Try.func12, Try.ntmps12
    go_wp2
    go_ret
    exact ⟨rfl, Below.refl _ _⟩
end Go.Proofs.Ytdgjgddobjhekaa
