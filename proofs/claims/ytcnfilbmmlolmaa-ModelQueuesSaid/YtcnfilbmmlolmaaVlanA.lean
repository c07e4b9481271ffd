/-
  Layer 3's small sets, as numbers: a port's bit, whether a port is in, with it, and without it. No statement is proved here.
-/
import Derived.Test.YtcnfilbmmlolmaaProg
import Derived.Test.YtcnfilbmmlolmaaMzA
import Derived.Test.YtcnfilbmmlolmaaMac
import Derived.Handy
import Derived.WalkLawsBesides
import Derived.Lib.Hide
import Derived.Laws.BitsAllLaws
import Derived.Deep.QuietTactic
namespace Go.Proofs.Ytcnfilbmmlolmaa
open Go.RowKit

theorem bit_wrap {p : Nat} (hp : p < 64) : IntKind.u64.wrap (2 ^ p) = ((2 ^ p : Nat) : Int) := by
  have := bit_lt hp
  have h : ((2 : Int) ^ p) = ((2 ^ p : Nat) : Int) := by simp
  rw [h]
  generalize 2 ^ p = y at *
  exact IntWalk.u64_in _ (by omega)

set_option maxHeartbeats 400000 in
theorem vlan_bit_out (p : Int) (hp : p < 0 ∨ 64 ≤ p) (w : World) :
    Calls Try.prog 110 #[.int .i64 p] w fun e w' => e = .returned (.int .u64 0) ∧ w = w' := by
  go_enter Try.func110, Try.ntmps110
  by_cases h0 : p < 0
  · go_wp2
    go_ret
    exact ⟨rfl, rfl⟩
  · have h1 : (64 : Int) ≤ p := by omega
    go_wp2
    go_ret
    exact ⟨rfl, rfl⟩
set_option maxHeartbeats 400000 in
theorem vlan_bit_in (p : Nat) (hp : p < 64) (w : World) :
    Calls Try.prog 110 #[.int .i64 (p : Int)] w fun e w' => e = .returned (.int .u64 ((2 ^ p : Nat) : Int)) ∧ w = w' := by
  have h0 : ¬ (p : Int) < 0 := by omega
  have h1 : ¬ (64 : Int) ≤ (p : Int) := by omega
  go_enter Try.func110, Try.ntmps110
  go_wp2
  go_ret
  exact ⟨by simp [bit_wrap hp], rfl⟩

set_option maxHeartbeats 400000 in
theorem vlan_Has (s : Nat) (hs : s < 18446744073709551616) (p : Int) (w : World) :
    Calls Try.prog 93 #[.int .u64 (s : Int), .int .i64 p] w fun e w' => e = .returned (.bool (hasB s p)) ∧ w = w' := by
  by_cases hp : p < 0 ∨ 64 ≤ p
  · have hq : bits .and .u64 (s : Int) 0 = 0 := by
      have := u64_and_nat s 0 hs (by omega)
      rw [Nat.and_zero] at this
      exact this
    have hB := Lib.hid fun W => vlan_bit_out p hp W
    go_enter Try.func93, Try.ntmps93
    go_wp2_with fail
    refine (hB.out _).mono ?_
    rintro e w1 ⟨rfl, rfl⟩
    go_wp2
    go_ret
    exact ⟨ret_bool (by rw [hasB_out s hp]), rfl⟩
  · obtain ⟨k, rfl⟩ := Int.eq_ofNat_of_zero_le (show 0 ≤ p by omega)
    have hk : k < 64 := by omega
    obtain ⟨y, hy⟩ : ∃ y, y = 2 ^ k := ⟨_, rfl⟩
    have hB := vlan_bit_in k hk
    rw [← hy] at hB
    have HB := Lib.hid hB
    have hq := u64_and_nat s (2 ^ k) hs (bit_lt hk)
    rw [← hy] at hq
    have HY := Lib.hid hy
    clear hB hy
    go_enter Try.func93, Try.ntmps93
    go_wp2_with fail
    refine (HB.out _).mono ?_
    rintro e w1 ⟨rfl, rfl⟩
    go_wp2
    go_ret
    exact ⟨ret_bool (by rw [hasB_in s hk, ← has_and, HY.out]), rfl⟩
set_option maxHeartbeats 400000 in
theorem ref3_bit (p : Nat) (hp : p < 64) (w : World) :
    Calls Try.prog 70 #[.int .i64 (p : Int)] w fun e w' => e = .returned (.int .u64 ((2 ^ p : Nat) : Int)) ∧ w = w' := by
  obtain ⟨Y, hY⟩ : ∃ Y, Y = 2 ^ p := ⟨_, rfl⟩
  rw [← hY]
  have HYY := Lib.hid hY
  clear hY
  go_enter Try.func70, Try.ntmps70
  go_wp2
  go_loop [3, 4] (fun n i => ∃ k y : Nat, k ≤ p ∧ i = .int .i64 k ∧ n = .int .u64 (y : Nat) ∧ Hid (y = 2 ^ k)) (fun _ i => p - (intOf i).toNat)
  case atStart => exact ⟨0, 1, by omega, rfl, rfl, rfl⟩
  case round =>
    obtain ⟨k, y, hk, rfl, rfl, HY⟩ := hrel
    by_cases hlt : k < p
    · have hy : y ≤ 4611686018427387904 := by
        have := Nat.pow_le_pow_right (n := 2) (by omega) (show k ≤ 62 by omega)
        rw [HY.out]
        exact Nat.le_trans this (by decide)
      go_wp2
      go_round
      case rel => exact ⟨k + 1, y * 2, by omega, by go_num, by go_num, by show y * 2 = 2 ^ (k + 1); rw [HY.out, Nat.pow_succ]⟩
      case measure => simp [intOf]; omega
    · have : k = p := by omega
      subst this
      go_wp2
      go_ret
      exact ⟨ret_u64 (by rw [HYY.out, HY.out]), rfl⟩

set_option maxHeartbeats 400000 in
theorem ref3_Has (s : Nat) (hs : s < 18446744073709551616) (p : Int) (w : World) :
    Calls Try.prog 24 #[.int .u64 (s : Int), .int .i64 p] w fun e w' => e = .returned (.bool (hasB s p)) ∧ w = w' := by
  by_cases hp : p < 0 ∨ 64 ≤ p
  · go_enter Try.func24, Try.ntmps24
    by_cases h0 : p < 0
    · go_wp2
      go_ret
      exact ⟨ret_bool (by rw [hasB_out s hp]), rfl⟩
    · have h1 : (64 : Int) ≤ p := by omega
      go_wp2
      go_ret
      exact ⟨ret_bool (by rw [hasB_out s hp]), rfl⟩
  · obtain ⟨k, rfl⟩ := Int.eq_ofNat_of_zero_le (show 0 ≤ p by omega)
    have hk : k < 64 := by omega
    obtain ⟨y, hy⟩ : ∃ y, y = 2 ^ k := ⟨_, rfl⟩
    have hB := ref3_bit k hk
    have hpos := Nat.two_pow_pos k
    have hyl := bit_lt hk
    rw [← hy] at hB hpos hyl
    have hne : ¬ (y : Int) = 0 := by omega
    obtain ⟨q, hq⟩ : ∃ q, q = s / y := ⟨_, rfl⟩
    have hql : q ≤ s := by rw [hq]; exact Nat.div_le_self _ _
    have hqi : (s : Int) / (y : Int) = (q : Int) := by rw [hq]; simp
    have hqw : IntKind.u64.wrap ((s : Int) / (y : Int)) = (q : Int) := by rw [hqi]; exact IntWalk.u64_in _ (by omega)
    have HB := Lib.hid hB
    have HY := Lib.hid hy
    have HQ := Lib.hid hq
    clear hB hy hp hq hqi hql
    have h0 : (0 : Int) ≤ (k : Int) := by omega
    have h1 : (k : Int) < 64 := by omega
    go_enter Try.func24, Try.ntmps24
    go_wp2_with fail
    refine (HB.out _).mono ?_
    rintro e w1 ⟨rfl, rfl⟩
    go_wp2
    go_ret
    refine ⟨ret_bool ?_, rfl⟩
    rw [hasB_in s hk, Nat.testBit_eq_decide_div_mod_eq, ← HY.out, ← HQ.out, Bool.eq_iff_iff]
    simp
    omega

set_option maxHeartbeats 400000 in
theorem ref3_With (s : Nat) (hs : s < 18446744073709551616) (p : Int) (w : World) :
    Calls Try.prog 68 #[.int .u64 (s : Int), .int .i64 p] w fun e w' => e = .returned (.int .u64 (withN s p : Nat)) ∧ w = w' := by
  by_cases hp : p < 0 ∨ 64 ≤ p
  · go_enter Try.func68, Try.ntmps68
    by_cases h0 : p < 0
    · go_wp2
      go_ret
      exact ⟨by rw [withN_out s hp]; rfl, rfl⟩
    · have h1 : (63 : Int) < p := by omega
      go_wp2
      go_ret
      exact ⟨by rw [withN_out s hp]; rfl, rfl⟩
  · have hH := fun W => ref3_Has s hs p W
    obtain ⟨k, rfl⟩ := Int.eq_ofNat_of_zero_le (show 0 ≤ p by omega)
    have hk : k < 64 := by omega
    obtain ⟨y, hy⟩ : ∃ y, y = 2 ^ k := ⟨_, rfl⟩
    have hB := ref3_bit k hk
    rw [← hy] at hB
    have HB := Lib.hid hB
    have HY := Lib.hid hy
    rw [hasB_in s hk] at hH
    have h0 : ¬ (k : Int) < 0 := by omega
    have h1 : ¬ (63 : Int) < (k : Int) := by omega
    clear hB hp
    cases hb : s.testBit k
    · rw [hb] at hH
      have e := or_bit_add hs hk hb
      have hl := withN_lt hs (k : Int)
      rw [withN_in s hk, e, ← hy] at hl
      rw [← hy] at e
      have HH := Lib.hid hH
      have HE := Lib.hid e
      clear hH e hy hb
      go_enter Try.func68, Try.ntmps68
      go_wp2_with fail
      refine (HH.out _).mono ?_
      rintro e w1 ⟨rfl, rfl⟩
      go_wp2_with fail
      refine (HB.out _).mono ?_
      rintro e w1 ⟨rfl, rfl⟩
      have hw : IntKind.u64.wrap ((s : Int) + (y : Int)) = (s : Int) + (y : Int) := IntWalk.u64_in _ (by omega)
      go_wp2
      go_ret
      exact ⟨ret_u64 (by rw [withN_in s hk, ← HY.out, HE.out]; simp), rfl⟩
    · rw [hb] at hH
      have e := or_bit_same hb
      have HH := Lib.hid hH
      have HE := Lib.hid e
      clear hH e hy hb
      go_enter Try.func68, Try.ntmps68
      go_wp2_with fail
      refine (HH.out _).mono ?_
      rintro e w1 ⟨rfl, rfl⟩
      go_wp2
      go_ret
      exact ⟨ret_u64 (by rw [withN_in s hk, HE.out]), rfl⟩

end Go.Proofs.Ytcnfilbmmlolmaa
