/-
  In turn: how often each one's turn comes. No statement is proved here.
-/
import Derived.Test.YthamjkccljhhcabTurnT
set_option linter.unusedVariables false
namespace Go.Proofs.Ythamjkccljhhcab
open Go.RowKit

/-- How often, in turn. -/
def fairN (n c w : Nat) : Nat := c / n + if w < c % n then 1 else 0
theorem step_div (n c : Nat) (hn : 0 < n) : (c % n + 1 < n ∧ (c + 1) / n = c / n ∧ (c + 1) % n = c % n + 1) ∨ (c % n + 1 = n ∧ (c + 1) / n = c / n + 1 ∧ (c + 1) % n = 0) := by
  have hr := Nat.mod_lt c hn
  have hd := Nat.div_add_mod c n
  rcases Nat.lt_or_ge (c % n + 1) n with h | h
  · left
    have := (Nat.div_mod_unique (a := c + 1) (b := n) (c := c % n + 1) (d := c / n) hn).2 ⟨by omega, h⟩
    exact ⟨h, this.1, this.2⟩
  · right
    have e : c % n + 1 = n := by omega
    have := (Nat.div_mod_unique (a := c + 1) (b := n) (c := 0) (d := c / n + 1) hn).2 ⟨by rw [Nat.mul_add, Nat.mul_one]; omega, hn⟩
    exact ⟨e, this.1, this.2⟩
theorem fair_succ (n c w : Nat) (hn : 0 < n) (hw : w < n) : fairN n (c + 1) w = fairN n c w + if c % n = w then 1 else 0 := by
  unfold fairN
  rcases step_div n c hn with ⟨h1, h2, h3⟩ | ⟨h1, h2, h3⟩
  · rw [h2, h3]
    repeat' split
    all_goals omega
  · rw [h2, h3]
    repeat' split
    all_goals omega
theorem who_round (n c : Nat) (hn : 0 < n) (hn2 : n ≤ 64) : whoN (gRound (c : Int) % (n : Int)) (n : Int) = ((c % n : Nat) : Int) := by
  unfold whoN gRound
  rw [if_neg (by omega), ← Int.natCast_emod, IntKind.wrap_u64]
  have := Nat.mod_lt c hn
  rw [Int.emod_eq_of_lt (by omega) (by omega), Int.emod_eq_of_lt (by omega) (by omega)]
theorem cnt_round (n w : Nat) (hn : 0 < n) (hn2 : n ≤ 64) (hw : w < n) : ∀ c, cntN (n : Int) w (upK (n : Int) gRound c) = fairN n c w
  | 0 => by simp [upK, cntN, fairN]
  | c + 1 => by
    have e : upK (n : Int) gRound (c + 1) = upK (n : Int) gRound c ++ [gRound (c : Int) % (n : Int)] := by
      unfold upK; rw [List.range_succ]; simp
    have e2 : cntN (n : Int) w (upK (n : Int) gRound c ++ [gRound (c : Int) % (n : Int)]) = cntN (n : Int) w (upK (n : Int) gRound c) + if c % n = w then 1 else 0 := by
      unfold cntN
      rw [List.countP_append]
      congr 1
      simp only [List.countP_cons, List.countP_nil, who_round n c hn hn2]
      by_cases h : c % n = w <;> simp [h]
      intro hh
      omega
    rw [e, e2, cnt_round n w hn hn2 hw c, fair_succ n c w hn hw]
theorem turnsL_round (n c : Nat) (hn : 1 ≤ n) (hc : c ≤ 500) : turnsL (n : Int) (c : Int) gRound = upK (n : Int) gRound c := by
  unfold turnsL upK
  by_cases h : c = 0
  · subst h; rw [if_pos (by omega)]; rfl
  · rw [if_neg (by omega), show min (c : Int).toNat 100000 = c by omega]
theorem cntL_round (n c : Nat) (hn : 1 ≤ n) (hn2 : n ≤ 64) (hc : c ≤ 500) : cntL (n : Int) (turnsL (n : Int) (c : Int) gRound) = (List.range n).map fun (w : Nat) => ((fairN n c w : Nat) : Int) := by
  unfold cntL
  rw [if_neg (by omega), show min (n : Int).toNat 64 = n by omega, turnsL_round n c hn hc]
  apply List.map_congr_left
  intro w hw
  rw [cnt_round n w (by omega) hn2 (List.mem_range.1 hw)]
/-- The sum of the first ones. -/
def fairS (n c i : Nat) : Nat := i * (c / n) + min i (c % n)
theorem fairS_succ (n c i : Nat) : fairS n c (i + 1) = fairS n c i + fairN n c i := by
  unfold fairS fairN
  rw [Nat.succ_mul]
  split <;> omega
theorem fairS_end (n c : Nat) (hn : 0 < n) : fairS n c n = c := by
  unfold fairS
  have := Nat.mod_lt c hn
  have := Nat.div_add_mod c n
  omega
theorem fairS_le (n c i : Nat) (hn : 0 < n) (hi : i ≤ n) : fairS n c i ≤ c := by
  have h := fairS_end n c hn
  have h2 : i * (c / n) ≤ n * (c / n) := Nat.mul_le_mul_right _ hi
  unfold fairS at h ⊢
  omega
end Go.Proofs.Ythamjkccljhhcab
