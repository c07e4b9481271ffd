/-
  The document's order of floating words. No statement is proved here.
-/
import Derived.Test.YtdgjgddobjhekaaGaugeC
import Derived.Test.YtdgjgddobjhekaaPlainRk
set_option linter.unusedVariables false
namespace Go.Proofs.Ytdgjgddobjhekaa
open Go.RowKit

theorem kindW_le (x : Nat) : kindW x ≤ 5 := by
  unfold kindW
  repeat' split
  all_goals omega
set_option maxHeartbeats 1600000 in
theorem ref5_rank (x : Nat) (hx : x < 18446744073709551616) (w : World) :
    Calls Try.prog 34 #[.float .f64 x] w (Says (.int .i64 (rankR x)) w) := by
  have hk := fun W => ref5_Kind x hx W
  have hle := kindW_le x
  unfold rankR
  by_cases h0 : kindW x = 0
  · obtain ⟨na, za, _⟩ := kind_plain h0
    have q := neg_bits na za
    rw [h0] at hk
    rw [if_pos h0]
    have HK := Lib.hid hk
    clear hk hle na za hx h0
    cases hs : sgnW x
    · rw [hs] at q
      clear hs
      go_enter Try.func34, Try.ntmps34
      go_wp2_with fail
      refine (HK.out _).mono ?_
      rintro e w1 ⟨rfl, hb⟩
      have HB := Lib.hid hb
      clear hb
      go_wp2
      go_ret
      exact ⟨rfl, HB.out⟩
    · rw [hs] at q
      clear hs
      go_enter Try.func34, Try.ntmps34
      go_wp2_with fail
      refine (HK.out _).mono ?_
      rintro e w1 ⟨rfl, hb⟩
      have HB := Lib.hid hb
      clear hb
      go_wp2
      go_ret
      exact ⟨rfl, HB.out⟩
  · rw [if_neg h0]
    rcases (show kindW x = 1 ∨ kindW x = 2 ∨ kindW x = 3 ∨ kindW x = 4 ∨ kindW x = 5 by omega) with h | h | h | h | h
    · rw [h] at hk ⊢
      have HK := Lib.hid hk
      clear hk hle hx h0 h
      go_enter Try.func34, Try.ntmps34
      go_wp2_with fail
      refine (HK.out _).mono ?_
      rintro e w1 ⟨rfl, hb⟩
      have HB := Lib.hid (hb.alloc hb.size (.cells #[.int .i64 0, .int .i64 3, .int .i64 2, .int .i64 5, .int .i64 0, .int .i64 6] 3))
      clear hb
      go_wp2
      go_ret
      exact ⟨rfl, HB.out⟩
    · rw [h] at hk ⊢
      have HK := Lib.hid hk
      clear hk hle hx h0 h
      go_enter Try.func34, Try.ntmps34
      go_wp2_with fail
      refine (HK.out _).mono ?_
      rintro e w1 ⟨rfl, hb⟩
      have HB := Lib.hid (hb.alloc hb.size (.cells #[.int .i64 0, .int .i64 3, .int .i64 2, .int .i64 5, .int .i64 0, .int .i64 6] 3))
      clear hb
      go_wp2
      go_ret
      exact ⟨rfl, HB.out⟩
    · rw [h] at hk ⊢
      have HK := Lib.hid hk
      clear hk hle hx h0 h
      go_enter Try.func34, Try.ntmps34
      go_wp2_with fail
      refine (HK.out _).mono ?_
      rintro e w1 ⟨rfl, hb⟩
      have HB := Lib.hid (hb.alloc hb.size (.cells #[.int .i64 0, .int .i64 3, .int .i64 2, .int .i64 5, .int .i64 0, .int .i64 6] 3))
      clear hb
      go_wp2
      go_ret
      exact ⟨rfl, HB.out⟩
    · rw [h] at hk ⊢
      have HK := Lib.hid hk
      clear hk hle hx h0 h
      go_enter Try.func34, Try.ntmps34
      go_wp2_with fail
      refine (HK.out _).mono ?_
      rintro e w1 ⟨rfl, hb⟩
      have HB := Lib.hid (hb.alloc hb.size (.cells #[.int .i64 0, .int .i64 3, .int .i64 2, .int .i64 5, .int .i64 0, .int .i64 6] 3))
      clear hb
      go_wp2
      go_ret
      exact ⟨rfl, HB.out⟩
    · rw [h] at hk ⊢
      have HK := Lib.hid hk
      clear hk hle hx h0 h
      go_enter Try.func34, Try.ntmps34
      go_wp2_with fail
      refine (HK.out _).mono ?_
      rintro e w1 ⟨rfl, hb⟩
      have HB := Lib.hid (hb.alloc hb.size (.cells #[.int .i64 0, .int .i64 3, .int .i64 2, .int .i64 5, .int .i64 0, .int .i64 6] 3))
      clear hb
      go_wp2
      go_ret
      exact ⟨rfl, HB.out⟩

set_option maxHeartbeats 3200000 in
theorem ref5_Compare (a b : Nat) (ha : a < 18446744073709551616) (hb : b < 18446744073709551616) (w : World) :
    Calls Try.prog 13 #[.float .f64 a, .float .f64 b] w (Says (.int .i64 (cmpW a b)) w) := by
  have RA := Lib.hid fun W => ref5_rank a ha W
  have RB := Lib.hid fun W => ref5_rank b hb W
  have KA := Lib.hid fun W => ref5_Kind a ha W
  clear ha hb
  by_cases h1 : rankR a < rankR b
  · rw [cmpR_lt h1]
    generalize rankR a = p at *
    generalize rankR b = q at *
    go_enter Try.func13, Try.ntmps13
    go_wp2_with fail
    refine (RA.out _).mono ?_
    rintro e w1 ⟨rfl, hb⟩
    have B1 := Lib.hid (hb)
    clear hb
    go_wp2_with fail
    refine (RB.out _).mono ?_
    rintro e w2 ⟨rfl, hb⟩
    have B2 := Lib.hid (B1.out.trans (hb.mono B1.out.size))
    clear hb
    go_wp2
    go_ret
    exact ⟨rfl, B2.out⟩
  · by_cases h2 : rankR b < rankR a
    · rw [cmpR_gt h2]
      generalize rankR a = p at *
      generalize rankR b = q at *
      have h3 : p > q := h2
      go_enter Try.func13, Try.ntmps13
      go_wp2_with fail
      refine (RA.out _).mono ?_
      rintro e w1 ⟨rfl, hb⟩
      have B1 := Lib.hid (hb)
      clear hb
      go_wp2_with fail
      refine (RB.out _).mono ?_
      rintro e w2 ⟨rfl, hb⟩
      have B2 := Lib.hid (B1.out.trans (hb.mono B1.out.size))
      clear hb
      go_wp2_with fail
      refine (RA.out _).mono ?_
      rintro e w3 ⟨rfl, hb⟩
      have B3 := Lib.hid (B2.out.trans (hb.mono B2.out.size))
      clear hb
      go_wp2_with fail
      refine (RB.out _).mono ?_
      rintro e w4 ⟨rfl, hb⟩
      have B4 := Lib.hid (B3.out.trans (hb.mono B3.out.size))
      clear hb
      go_wp2
      go_ret
      exact ⟨rfl, B4.out⟩
    · have he : rankR a = rankR b := by omega
      by_cases hk : kindW a = 0
      · have hc := cmpR_plain he hk
        have KA2 := KA.out
        rw [hk] at KA2
        have KA3 := Lib.hid KA2
        have hc1 : (FloatKind.f64.format.order a b == some .eq) = true → cmpW a b = 0 := fun h => by rw [hc, if_pos h]
        have hc2 : (FloatKind.f64.format.order a b == some .eq) = false → (FloatKind.f64.format.order a b == some .lt) = true → cmpW a b = -1 := fun h h' => by rw [hc, if_neg (by rw [h]; simp), if_pos h']
        have hc3 : (FloatKind.f64.format.order a b == some .eq) = false → (FloatKind.f64.format.order a b == some .lt) = false → cmpW a b = 1 := fun h h' => by rw [hc, if_neg (by rw [h]; simp), if_neg (by rw [h']; simp)]
        clear KA KA2 hk hc he
        generalize rankR a = p at *
        generalize rankR b = q at *
        have h3 : ¬ p > q := h2
        cases g1 : (FloatKind.f64.format.order a b == some .eq)
        · cases g2 : (FloatKind.f64.format.order a b == some .lt)
          · rw [hc3 g1 g2]
            clear hc1 hc2 hc3
            go_enter Try.func13, Try.ntmps13
            go_wp2_with fail
            refine (RA.out _).mono ?_
            rintro e w1 ⟨rfl, hb⟩
            have B1 := Lib.hid (hb)
            clear hb
            go_wp2_with fail
            refine (RB.out _).mono ?_
            rintro e w2 ⟨rfl, hb⟩
            have B2 := Lib.hid (B1.out.trans (hb.mono B1.out.size))
            clear hb
            go_wp2_with fail
            refine (RA.out _).mono ?_
            rintro e w3 ⟨rfl, hb⟩
            have B3 := Lib.hid (B2.out.trans (hb.mono B2.out.size))
            clear hb
            go_wp2_with fail
            refine (RB.out _).mono ?_
            rintro e w4 ⟨rfl, hb⟩
            have B4 := Lib.hid (B3.out.trans (hb.mono B3.out.size))
            clear hb
            go_wp2_with fail
            refine (KA3.out _).mono ?_
            rintro e w5 ⟨rfl, hb⟩
            have B5 := Lib.hid (B4.out.trans (hb.mono B4.out.size))
            clear hb
            go_wp2
            go_ret
            exact ⟨rfl, B5.out⟩
          · rw [hc2 g1 g2]
            clear hc1 hc2 hc3
            go_enter Try.func13, Try.ntmps13
            go_wp2_with fail
            refine (RA.out _).mono ?_
            rintro e w1 ⟨rfl, hb⟩
            have B1 := Lib.hid (hb)
            clear hb
            go_wp2_with fail
            refine (RB.out _).mono ?_
            rintro e w2 ⟨rfl, hb⟩
            have B2 := Lib.hid (B1.out.trans (hb.mono B1.out.size))
            clear hb
            go_wp2_with fail
            refine (RA.out _).mono ?_
            rintro e w3 ⟨rfl, hb⟩
            have B3 := Lib.hid (B2.out.trans (hb.mono B2.out.size))
            clear hb
            go_wp2_with fail
            refine (RB.out _).mono ?_
            rintro e w4 ⟨rfl, hb⟩
            have B4 := Lib.hid (B3.out.trans (hb.mono B3.out.size))
            clear hb
            go_wp2_with fail
            refine (KA3.out _).mono ?_
            rintro e w5 ⟨rfl, hb⟩
            have B5 := Lib.hid (B4.out.trans (hb.mono B4.out.size))
            clear hb
            go_wp2
            go_ret
            exact ⟨rfl, B5.out⟩
        · rw [hc1 g1]
          clear hc1 hc2 hc3
          go_enter Try.func13, Try.ntmps13
          go_wp2_with fail
          refine (RA.out _).mono ?_
          rintro e w1 ⟨rfl, hb⟩
          have B1 := Lib.hid (hb)
          clear hb
          go_wp2_with fail
          refine (RB.out _).mono ?_
          rintro e w2 ⟨rfl, hb⟩
          have B2 := Lib.hid (B1.out.trans (hb.mono B1.out.size))
          clear hb
          go_wp2_with fail
          refine (RA.out _).mono ?_
          rintro e w3 ⟨rfl, hb⟩
          have B3 := Lib.hid (B2.out.trans (hb.mono B2.out.size))
          clear hb
          go_wp2_with fail
          refine (RB.out _).mono ?_
          rintro e w4 ⟨rfl, hb⟩
          have B4 := Lib.hid (B3.out.trans (hb.mono B3.out.size))
          clear hb
          go_wp2_with fail
          refine (KA3.out _).mono ?_
          rintro e w5 ⟨rfl, hb⟩
          have B5 := Lib.hid (B4.out.trans (hb.mono B4.out.size))
          clear hb
          go_wp2
          go_ret
          exact ⟨rfl, B5.out⟩
      · rw [cmpR_odd he hk]
        have hkn : ((kindW a : Int) != 0) = true := by simp; omega
        generalize kindW a = k at *
        generalize rankR a = p at *
        generalize rankR b = q at *
        have h3 : ¬ p > q := h2
        clear hk he
        go_enter Try.func13, Try.ntmps13
        go_wp2_with fail
        refine (RA.out _).mono ?_
        rintro e w1 ⟨rfl, hb⟩
        have B1 := Lib.hid (hb)
        clear hb
        go_wp2_with fail
        refine (RB.out _).mono ?_
        rintro e w2 ⟨rfl, hb⟩
        have B2 := Lib.hid (B1.out.trans (hb.mono B1.out.size))
        clear hb
        go_wp2_with fail
        refine (RA.out _).mono ?_
        rintro e w3 ⟨rfl, hb⟩
        have B3 := Lib.hid (B2.out.trans (hb.mono B2.out.size))
        clear hb
        go_wp2_with fail
        refine (RB.out _).mono ?_
        rintro e w4 ⟨rfl, hb⟩
        have B4 := Lib.hid (B3.out.trans (hb.mono B3.out.size))
        clear hb
        go_wp2_with fail
        refine (KA.out _).mono ?_
        rintro e w5 ⟨rfl, hb⟩
        have B5 := Lib.hid (B4.out.trans (hb.mono B4.out.size))
        clear hb
        go_wp2
        go_ret
        exact ⟨rfl, B5.out⟩

set_option maxHeartbeats 800000 in
theorem ref5_Same (a b : Nat) (ha : a < 18446744073709551616) (hb : b < 18446744073709551616) (w : World) :
    Calls Try.prog 14 #[.float .f64 a, .float .f64 b] w (Says (.bool (cmpW a b == 0)) w) := by
  have RC := Lib.hid fun W => ref5_Compare a b ha hb W
  generalize cmpW a b = r at *
  clear ha hb
  go_enter Try.func14, Try.ntmps14
  go_wp2_with fail
  refine (RC.out _).mono ?_
  rintro e w1 ⟨rfl, hb⟩
  have B1 := Lib.hid (hb)
  clear hb
  go_wp2
  go_ret
  exact ⟨rfl, B1.out⟩
end Go.Proofs.Ytdgjgddobjhekaa
