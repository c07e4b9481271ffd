/-
  Contracts of layer 8's functions, the program's own and the document's: each answers what a plain function of numbers says, and turns nothing that was there. No statement is proved here.
-/
import Derived.Test.YtcnfilbmmlolmaaMzA
import Derived.Test.YtcnfilbmmlolmaaMac
import Derived.Test.YtcnfilbmmlolmaaTurn
import Derived.Deep.RegionHeld3
set_option linter.unusedVariables false
namespace Go.Proofs.Ytcnfilbmmlolmaa
open Go.RowKit

set_option maxHeartbeats 1600000 in
theorem key_Right (v : Int) (m : Nat) (hm : m < 18446744073709551616) (w : World) :
    Calls Try.prog 115 #[.agg #[.int .i64 v, .int .u64 (m : Int)]] w (Says (.bool (rightK v m)) w) := by
  have hg : (0 : Int) ≤ (m : Int) := Int.natCast_nonneg _
  have hR := fun W => mac_Right m hm W
  have hK := fun W => mac_Kind m hm W
  rcases (show (v < 1) ∨ (1 ≤ v ∧ 4094 < v) ∨ (1 ≤ v ∧ v ≤ 4094 ∧ m = 0) ∨ (1 ≤ v ∧ v ≤ 4094 ∧ 0 < m ∧ 281474976710656 ≤ m) ∨ (1 ≤ v ∧ v ≤ 4094 ∧ 0 < m ∧ m < 281474976710656 ∧ m / 1099511627776 % 2 ≠ 0) ∨ (1 ≤ v ∧ v ≤ 4094 ∧ 0 < m ∧ m < 281474976710656 ∧ m / 1099511627776 % 2 = 0) by omega) with h | ⟨h, h1⟩ | ⟨h, h1, h2⟩ | ⟨h, h1, h2, h3⟩ | ⟨h, h1, h2, h3, h4⟩ | ⟨h, h1, h2, h3, h4⟩
  · rw [rightK_no (by omega)]
    clear hR hK hm hg
    go_enter Try.func115, Try.ntmps115
    go_wp2
    go_ret
    exact ⟨ret_bool (by first | rfl | (simp; omega)), ((Below.refl _ _).alloc (Nat.le_refl _) _)⟩
  · rw [rightK_no (by omega)]
    clear hR hK hm hg
    go_enter Try.func115, Try.ntmps115
    go_wp2
    go_ret
    exact ⟨ret_bool (by first | rfl | (simp; omega)), ((Below.refl _ _).alloc (Nat.le_refl _) _)⟩
  · rw [rightK_no (by omega)]
    subst h2
    clear hR hK hm hg
    go_enter Try.func115, Try.ntmps115
    go_wp2
    go_ret
    exact ⟨ret_bool (by first | rfl | (simp; omega)), ((Below.refl _ _).alloc (Nat.le_refl _) _)⟩
  · rw [rightK_no (by omega)]
    have h5 : ¬ (m : Int) = 0 := by omega
    rw [decide_eq_false (by omega)] at hR
    clear hK
    have HR := Lib.hid hR
    clear hR
    clear hm
    go_enter Try.func115, Try.ntmps115
    go_wp2_with fail
    refine (HR.out _).mono ?_
    rintro e w1 ⟨rfl, rfl⟩
    go_wp2
    go_ret
    exact ⟨ret_bool (by first | rfl | (simp; omega)), ((Below.refl _ _).alloc (Nat.le_refl _) _)⟩
  · rw [rightK_no (by omega)]
    have h5 : ¬ (m : Int) = 0 := by omega
    rw [decide_eq_true (by omega)] at hR
    have h6 : ¬ kindN m = 0 := fun hh => h4 ((kind_zero h3).1 hh)
    generalize kindN m = k at *
    have h7 : ¬ (k : Int) = 0 := by omega
    have HK := Lib.hid hK
    clear hK
    have HR := Lib.hid hR
    clear hR
    clear h4
    clear hm
    go_enter Try.func115, Try.ntmps115
    go_wp2_with fail
    refine (HR.out _).mono ?_
    rintro e w1 ⟨rfl, rfl⟩
    go_wp2_with fail
    refine (HK.out _).mono ?_
    rintro e w2 ⟨rfl, rfl⟩
    go_wp2
    go_ret
    exact ⟨ret_bool (by first | rfl | (simp; omega)), ((Below.refl _ _).alloc (Nat.le_refl _) _)⟩
  · rw [rightK_iff.2 ⟨h, h1, h2, h3, h4⟩]
    have h5 : ¬ (m : Int) = 0 := by omega
    rw [decide_eq_true (by omega)] at hR
    rw [(kind_zero h3).2 h4] at hK
    have HK := Lib.hid hK
    clear hK
    have HR := Lib.hid hR
    clear hR
    clear h4
    clear hm
    go_enter Try.func115, Try.ntmps115
    go_wp2_with fail
    refine (HR.out _).mono ?_
    rintro e w1 ⟨rfl, rfl⟩
    go_wp2_with fail
    refine (HK.out _).mono ?_
    rintro e w2 ⟨rfl, rfl⟩
    go_wp2
    go_ret
    exact ⟨ret_bool (by first | rfl | (simp; omega)), ((Below.refl _ _).alloc (Nat.le_refl _) _)⟩
set_option maxHeartbeats 1600000 in
theorem key_Word (v : Int) (m : Nat) (hm : m < 18446744073709551616) (w : World) :
    Calls Try.prog 117 #[.agg #[.int .i64 v, .int .u64 (m : Int)]] w (Says (.int .u64 (wordN v m : Nat)) w) := by
  have hR := fun W => key_Right v m hm W
  cases hr : rightK v m
  · rw [hr] at hR
    rw [wordN_no hr]
    have HR := Lib.hid hR
    clear hR hr hm
    go_enter Try.func117, Try.ntmps117
    go_wp2_with fail
    refine (HR.out _).mono ?_
    rintro e w1 ⟨rfl, hb⟩
    have HB := Lib.hid hb
    clear hb
    go_wp2
    go_ret
    exact ⟨rfl, Below.trans ((Below.refl _ _).alloc (Nat.le_refl _) _) (HB.out.mono (by simp))⟩
  · rw [hr] at hR
    rw [wordN_yes hr]
    obtain ⟨h1, h2, h3, h4, h5⟩ := rightK_iff.1 hr
    have HR := Lib.hid hR
    clear hR hr hm h5
    obtain ⟨u, rfl⟩ := Int.eq_ofNat_of_zero_le (show 0 ≤ v by omega)
    rw [Int.toNat_natCast]
    have hu : u < 4096 := by omega
    have e1 : bits .or .u64 1152921504606846976 ((u : Int) * 281474976710656) = ((1152921504606846976 ||| u * 281474976710656 : Nat) : Int) := by
      have := u64_or_nat 1152921504606846976 (u * 281474976710656) (by omega) (by omega)
      simpa using this
    have hx : 1152921504606846976 ||| u * 281474976710656 < 18446744073709551616 := by
      have := or_word u 0 hu (by omega)
      rw [Nat.or_zero] at this
      omega
    have e2 := u64_or_nat (1152921504606846976 ||| u * 281474976710656) m hx (by omega)
    rw [or_word u m hu h4] at e2
    obtain ⟨y, hy⟩ : ∃ y, y = 1152921504606846976 ||| u * 281474976710656 := ⟨_, rfl⟩
    rw [← hy] at e1 e2
    clear hy hx
    go_enter Try.func117, Try.ntmps117
    go_wp2_with fail
    refine (HR.out _).mono ?_
    rintro e w1 ⟨rfl, hb⟩
    obtain ⟨hc, hf⟩ := bcell hb
    have c0 : w1.cell? ⟨w.heap.size, 0, none⟩ = some (.int .i64 (u : Int)) := by rw [hc _ _ (by simp)]; simp [go_sem]
    have c1 : w1.cell? ⟨w.heap.size, 1, none⟩ = some (.int .u64 (m : Int)) := by rw [hc _ _ (by simp)]; simp [go_sem]
    have HB := Lib.hid hb
    clear hb hc hf
    go_wp2
    go_ret
    exact ⟨ret_u64 (by first | rfl | (simp; done) | omega), Below.trans ((Below.refl _ _).alloc (Nat.le_refl _) _) (HB.out.mono (by simp))⟩
end Go.Proofs.Ytcnfilbmmlolmaa
