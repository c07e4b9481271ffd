/-
  Which VLANs and rules may be: the program's All, Right and Check, and the document's. No statement is proved here.
-/
import Derived.Test.YtcnfilbmmlolmaaVlanD
import Derived.Test.YtcnfilbmmlolmaaMzA
import Derived.Deep.QuietTactic
namespace Go.Proofs.Ytcnfilbmmlolmaa
open Go.RowKit

set_option maxHeartbeats 400000 in
theorem vlan_rightVid (v : Int) (w : World) :
    Calls Try.prog 76 #[.int .i64 v] w fun e w' => e = .returned (.bool (vidB v)) ∧ w = w' := by
  unfold vidB
  by_cases h1 : 1 ≤ v
  · go_enter Try.func76, Try.ntmps76
    go_wp2
    go_ret
    exact ⟨ret_bool (by simp [h1]), rfl⟩
  · go_enter Try.func76, Try.ntmps76
    go_wp2
    go_ret
    exact ⟨ret_bool (by simp; omega), rfl⟩
set_option maxHeartbeats 400000 in
theorem vlan_Right (p a : Int) (w : World) :
    Calls Try.prog 79 #[.agg #[.int .i64 p, .int .i64 a]] w (Says (.bool (ruleB p a)) w) := by
  unfold ruleB
  have hV := fun W => vlan_rightVid p W
  generalize vidB p = z at *
  have HV := Lib.hid hV
  clear hV
  cases z
  · go_enter Try.func79, Try.ntmps79
    go_wp2_with fail
    refine (HV.out _).mono ?_
    rintro e w1 ⟨rfl, rfl⟩
    go_wp2
    go_ret
    exact ⟨ret_bool (by simp), (Below.refl _ _).alloc (Nat.le_refl _) _⟩
  · by_cases h1 : 0 ≤ a
    · go_enter Try.func79, Try.ntmps79
      go_wp2_with fail
      refine (HV.out _).mono ?_
      rintro e w1 ⟨rfl, rfl⟩
      go_wp2
      go_ret
      exact ⟨ret_bool (by simp [h1]), (Below.refl _ _).alloc (Nat.le_refl _) _⟩
    · go_enter Try.func79, Try.ntmps79
      go_wp2_with fail
      refine (HV.out _).mono ?_
      rintro e w1 ⟨rfl, rfl⟩
      go_wp2
      go_ret
      exact ⟨ret_bool (by simp; omega), (Below.refl _ _).alloc (Nat.le_refl _) _⟩
set_option maxHeartbeats 400000 in
theorem ref3_Right (p a : Int) (w : World) :
    Calls Try.prog 33 #[.agg #[.int .i64 p, .int .i64 a]] w (Says (.bool (ruleB p a)) w) := by
  unfold ruleB vidB
  by_cases h1 : 1 ≤ p
  · by_cases h2 : p ≤ 4094
    · by_cases h3 : 0 ≤ a
      · go_enter Try.func33, Try.ntmps33
        go_wp2
        go_ret
        exact ⟨ret_bool (by simp [h1, h2, h3]), (Below.refl _ _).alloc (Nat.le_refl _) _⟩
      · go_enter Try.func33, Try.ntmps33
        go_wp2
        go_ret
        exact ⟨ret_bool (by simp; omega), (Below.refl _ _).alloc (Nat.le_refl _) _⟩
    · go_enter Try.func33, Try.ntmps33
      go_wp2
      go_ret
      exact ⟨ret_bool (by simp; omega), (Below.refl _ _).alloc (Nat.le_refl _) _⟩
  · go_enter Try.func33, Try.ntmps33
    go_wp2
    go_ret
    exact ⟨ret_bool (by simp; omega), (Below.refl _ _).alloc (Nat.le_refl _) _⟩
set_option maxHeartbeats 400000 in
theorem vlan_All (n : Int) (w : World) :
    Calls Try.prog 77 #[.int .i64 n] w fun e w' => e = .returned (.int .u64 (allN n : Nat)) ∧ w = w' := by
  unfold allN
  by_cases h : 64 ≤ n
  · rw [if_pos h]
    go_enter Try.func77, Try.ntmps77
    go_wp2
    go_ret
    exact ⟨rfl, rfl⟩
  · rw [if_neg h]
    by_cases h0 : n < 0
    · have : n.toNat = 0 := by omega
      rw [this]
      go_enter Try.func77, Try.ntmps77
      go_wp2
      all_goals go_ret
      all_goals exact ⟨ret_u64 (by simp), rfl⟩
    · obtain ⟨k, rfl⟩ := Int.eq_ofNat_of_zero_le (show 0 ≤ n by omega)
      have hk : k < 64 := by omega
      rw [Int.toNat_natCast]
      have hb := bit_wrap hk
      have hl := bit_lt hk
      have hp := Nat.two_pow_pos k
      have hs : IntKind.u64.wrap (((2 ^ k : Nat) : Int) - 1) = ((2 ^ k - 1 : Nat) : Int) := by
        rw [IntWalk.u64_in _ (by omega)]; omega
      have HB := Lib.hid hb
      have HS := Lib.hid hs
      clear hb hs hl hp
      go_enter Try.func77, Try.ntmps77
      go_wp2
      all_goals go_ret
      all_goals exact ⟨ret_u64 (by rw [HB.out, HS.out]), rfl⟩
set_option maxHeartbeats 400000 in
theorem ref3_All (n : Int) (w : World) :
    Calls Try.prog 67 #[.int .i64 n] w fun e w' => e = .returned (.int .u64 (allN n : Nat)) ∧ w = w' := by
  obtain ⟨m, hm⟩ : ∃ m : Nat, m = if 64 ≤ n then 64 else n.toNat := ⟨_, rfl⟩
  have hm64 : m ≤ 64 := by rw [hm]; split <;> omega
  have hstop : ∀ k : Nat, k < m ↔ ((k : Int) < n ∧ k < 64) := fun k => by rw [hm]; split <;> omega
  have hval : allN n = 2 ^ m - 1 := by unfold allN; rw [hm]; split <;> rfl
  obtain ⟨A, hA⟩ : ∃ A, A = allN n := ⟨_, rfl⟩
  rw [← hA] at hval ⊢
  have HV := Lib.hid hval
  have HS := Lib.hid hstop
  clear hm hA hval hstop
  go_enter Try.func67, Try.ntmps67
  go_wp2
  go_loop [3, 4] (fun s i => ∃ k y : Nat, k ≤ m ∧ i = .int .i64 k ∧ s = .int .u64 (y : Nat) ∧ Hid (y = 2 ^ k - 1)) (fun _ i => m - (intOf i).toNat)
  case atStart => exact ⟨0, 0, by omega, rfl, rfl, rfl⟩
  case round =>
    obtain ⟨k, y, hk, rfl, rfl, HY⟩ := hrel
    by_cases hlt : k < m
    · obtain ⟨h1, h2⟩ := (HS.out k).1 hlt
      have hyl : y < 18446744073709551616 := by
        have := bit_lt h2
        rw [HY.out]; omega
      have hW := fun W => ref3_With y hyl (k : Int) W
      have hw2 : withN y (k : Int) = 2 ^ (k + 1) - 1 := by rw [HY.out]; exact with_ones k h2
      obtain ⟨z, hz⟩ : ∃ z, z = withN y (k : Int) := ⟨_, rfl⟩
      rw [← hz] at hW hw2
      have HW := Lib.hid hW
      have HZ : Hid (z = 2 ^ (k + 1) - 1) := hw2
      have h2' : (k : Int) < 64 := by omega
      clear hW hw2 hz hyl
      go_wp2_with fail
      refine (HW.out _).mono ?_
      rintro e w1 ⟨rfl, rfl⟩
      go_wp2
      go_round
      case rel => exact ⟨k + 1, z, by omega, by go_num, rfl, HZ⟩
      case measure => simp [intOf]; omega
    · have : k = m := by omega
      subst this
      have hn : ¬ ((k : Int) < n ∧ k < 64) := fun h => hlt ((HS.out k).2 h)
      by_cases h1 : (k : Int) < n
      · have h2 : ¬ (k : Int) < 64 := by omega
        go_wp2
        go_ret
        exact ⟨ret_u64 (by rw [HV.out, HY.out]), rfl⟩
      · go_wp2
        go_ret
        exact ⟨ret_u64 (by rw [HV.out, HY.out]), rfl⟩
set_option maxHeartbeats 800000 in
theorem ref3_Within (a b : Nat) (ha : a < 18446744073709551616) (hb : b < 18446744073709551616) (w : World) :
    Calls Try.prog 75 #[.int .u64 (a : Int), .int .u64 (b : Int)] w fun e w' => e = .returned (.bool (withinB a b)) ∧ w = w' := by
  have HA := Lib.hid fun (k : Nat) W => ref3_Has a ha (k : Int) W
  have HB := Lib.hid fun (k : Nat) W => ref3_Has b hb (k : Int) W
  obtain ⟨z, hz⟩ : ∃ z, z = withinB a b := ⟨_, rfl⟩
  rw [← hz]
  have HZ := Lib.hid hz
  clear hz
  go_enter Try.func75, Try.ntmps75
  go_wp2
  go_loop [5] (fun i => ∃ k : Nat, k ≤ 64 ∧ i = .int .i64 k ∧ Hid (withinK a b k = true)) (fun i => 64 - (intOf i).toNat)
  case atStart => exact ⟨0, by omega, rfl, rfl⟩
  case round =>
    obtain ⟨k, hk, rfl, HK⟩ := hrel
    by_cases hlt : k < 64
    · have hA := HA.out k
      have hB := HB.out k
      rw [hasB_in a hlt] at hA
      rw [hasB_in b hlt] at hB
      have h64 : (k : Int) < 64 := by omega
      cases hta : a.testBit k
      · rw [hta] at hA
        have KA := Lib.hid hA
        have HN : Hid (withinK a b (k + 1) = true) := by show withinK a b (k + 1) = true; rw [withinK, HK.out, hta]; rfl
        clear hA hB hta
        go_wp2_with fail
        refine (KA.out _).mono ?_
        rintro e w1 ⟨rfl, rfl⟩
        go_wp2
        go_round
        case rel => exact ⟨k + 1, by omega, by go_num, HN⟩
        case measure => simp [intOf]; omega
      · rw [hta] at hA
        have KA := Lib.hid hA
        cases htb : b.testBit k
        · rw [htb] at hB
          have KB := Lib.hid hB
          have HN : Hid (withinB a b = false) := withinK_no hlt hta htb
          clear hA hB hta htb
          go_wp2_with fail
          refine (KA.out _).mono ?_
          rintro e w1 ⟨rfl, rfl⟩
          go_wp2_with fail
          refine (KB.out _).mono ?_
          rintro e w1 ⟨rfl, rfl⟩
          go_wp2
          go_ret
          exact ⟨ret_bool (by rw [HZ.out, HN.out]), rfl⟩
        · rw [htb] at hB
          have KB := Lib.hid hB
          have HN : Hid (withinK a b (k + 1) = true) := by show withinK a b (k + 1) = true; rw [withinK, HK.out, hta, htb]; rfl
          clear hA hB hta htb
          go_wp2_with fail
          refine (KA.out _).mono ?_
          rintro e w1 ⟨rfl, rfl⟩
          go_wp2_with fail
          refine (KB.out _).mono ?_
          rintro e w1 ⟨rfl, rfl⟩
          go_wp2
          go_round
          case rel => exact ⟨k + 1, by omega, by go_num, HN⟩
          case measure => simp [intOf]; omega
    · have : k = 64 := by omega
      subst this
      go_wp2
      go_ret
      exact ⟨ret_bool (by rw [HZ.out]; exact HK.out.symm), rfl⟩
/-- The number of the VLAN ahead of the k-th; nought ahead of the first. -/
def aheadN (l : List Vl) (k : Nat) : Int := if k = 0 then 0 else (l.getD (k - 1) vl0).vid
theorem wrong6a {l : List Vl} {ports : Int} {k : Nat} (h : vidB (l.getD k vl0).vid = false) : wrongAt l ports k = 6 := by unfold wrongAt; rw [if_pos (.inl h)]
theorem wrong6b {l : List Vl} {ports : Int} {k : Nat} (h : vidB (l.getD k vl0).vid = true) (h2 : (l.getD k vl0).vid ≤ aheadN l k) : wrongAt l ports k = 6 := by
  have h3 : 0 < k ∧ (l.getD k vl0).vid ≤ (l.getD (k - 1) vl0).vid := by
    unfold aheadN at h2
    unfold vidB at h
    simp only [Bool.and_eq_true, decide_eq_true_eq] at h
    split at h2
    · omega
    · exact ⟨by omega, h2⟩
  unfold wrongAt
  rw [if_pos (.inr h3)]
theorem wrongC {l : List Vl} {k : Nat} (h : vidB (l.getD k vl0).vid = true) (h2 : ¬ (l.getD k vl0).vid ≤ aheadN l k) : ¬ (vidB (l.getD k vl0).vid = false ∨ (0 < k ∧ (l.getD k vl0).vid ≤ (l.getD (k - 1) vl0).vid)) := by
  rintro (h3 | ⟨h3, h4⟩)
  · rw [h] at h3; cases h3
  · apply h2
    unfold aheadN
    rw [if_neg (by omega)]
    exact h4
theorem wrong5 {l : List Vl} {ports : Int} {k : Nat} (h : vidB (l.getD k vl0).vid = true) (h2 : ¬ (l.getD k vl0).vid ≤ aheadN l k) (h3 : withinB (l.getD k vl0).mem (allN ports) = false) : wrongAt l ports k = 5 := by
  unfold wrongAt; rw [if_neg (wrongC h h2), if_pos h3]
theorem wrong1 {l : List Vl} {ports : Int} {k : Nat} (h : vidB (l.getD k vl0).vid = true) (h2 : ¬ (l.getD k vl0).vid ≤ aheadN l k) (h3 : withinB (l.getD k vl0).mem (allN ports) = true) (h4 : withinB (l.getD k vl0).unt (l.getD k vl0).mem = false) : wrongAt l ports k = 1 := by
  unfold wrongAt; rw [if_neg (wrongC h h2), if_neg (by rw [h3]; simp), if_pos h4]
theorem wrong0 {l : List Vl} {ports : Int} {k : Nat} (h : vidB (l.getD k vl0).vid = true) (h2 : ¬ (l.getD k vl0).vid ≤ aheadN l k) (h3 : withinB (l.getD k vl0).mem (allN ports) = true) (h4 : withinB (l.getD k vl0).unt (l.getD k vl0).mem = true) : wrongAt l ports k = 0 := by
  unfold wrongAt; rw [if_neg (wrongC h h2), if_neg (by rw [h3]; simp), if_neg (by rw [h4]; simp)]
theorem all_step {f : Nat → Nat} {k : Nat} (h : ∀ i, i < k → f i = 0) (hk : f k = 0) : ∀ i, i < k + 1 → f i = 0 := by
  intro i hi
  rcases Nat.lt_or_ge i k with h1 | h1
  · exact h i h1
  · obtain rfl : i = k := by omega
    exact hk
end Go.Proofs.Ytcnfilbmmlolmaa
