/-
  The order of floating words by the walk's tests and by ranks; an operation that gives no number. Nothing of the program is named here. No statement is proved here.
-/
import Derived.Test.YtdgjgddobjhekaaPlainKind
namespace Go.Proofs.Ytdgjgddobjhekaa
open Go.RowKit

def rankW (x : Nat) : Int := if kindW x = 2 then 0 else if kindW x = 5 then 2 else 1
def cmp3 (p q : Int) : Int := if p < q then -1 else if q < p then 1 else 0
def ltW (a b : Nat) : Bool := !nanW a && !nanW b && decide (valZ (sgnW a) (rungW a) < valZ (sgnW b) (rungW b))
theorem keyW_num {x : Nat} (h : nanW x = false) : keyW x = keyZ (sgnW x) (rungW x) := by unfold keyW; rw [h]; rfl
theorem keyW_nan {x : Nat} (h : nanW x = true) : keyW x = 9223372036854775808 := by unfold keyW; rw [h]; rfl
theorem keyZ_top (s : Bool) (x : Nat) : keyZ s (rungW x) < 9223372036854775808 := by
  have := rung_lt x
  unfold keyZ
  split <;> omega
theorem rank_nan {x : Nat} (h : nanW x = true) : rankW x = 2 := by
  have : kindW x = 5 := by unfold kindW; rw [if_pos h]
  unfold rankW
  rw [this]; rfl
theorem rank_num {x : Nat} (h : nanW x = false) : rankW x = if rungW x = 0 ∧ sgnW x = true then 0 else 1 := by
  unfold rankW kindW
  rw [h]
  simp only [Bool.false_eq_true, if_false]
  by_cases h1 : rungW x = 9218868437227405312
  · cases hs : sgnW x <;> simp [h1]
  · by_cases h2 : rungW x = 0
    · cases hs : sgnW x <;> simp [h2]
    · simp [h1, h2]
theorem cmp_lt {a b : Nat} (h : ltW a b = true) : cmpW a b = -1 := by
  unfold ltW at h
  simp only [Bool.and_eq_true, Bool.not_eq_true', decide_eq_true_eq] at h
  obtain ⟨⟨h1, h2⟩, h3⟩ := h
  unfold cmpW
  rw [keyW_num h1, keyW_num h2, if_pos (valZ_lt.1 h3).1]
theorem cmp_gt {a b : Nat} (h : ltW b a = true) : cmpW a b = 1 := by
  rw [cmpW_anti, cmp_lt h]; rfl
theorem cmp_rest {a b : Nat} (h1 : ltW a b = false) (h2 : ltW b a = false) : cmpW a b = cmp3 (rankW a) (rankW b) := by
  cases ha : nanW a
  · cases hb : nanW b
    · unfold ltW at h1 h2
      rw [ha, hb] at h1 h2
      have g1 : ¬ valZ (sgnW a) (rungW a) < valZ (sgnW b) (rungW b) := of_decide_eq_false h1
      have g2 : ¬ valZ (sgnW b) (rungW b) < valZ (sgnW a) (rungW a) := of_decide_eq_false h2
      rw [rank_num ha, rank_num hb]
      unfold cmpW
      rw [keyW_num ha, keyW_num hb]
      rw [valZ_lt] at g1 g2
      by_cases hz : rungW a = 0 ∧ rungW b = 0
      · obtain ⟨z1, z2⟩ := hz
        rw [z1, z2]
        cases sgnW a <;> cases sgnW b <;> rfl
      · have k1 : ¬ keyZ (sgnW a) (rungW a) < keyZ (sgnW b) (rungW b) := fun h => g1 ⟨h, hz⟩
        have k2 : ¬ keyZ (sgnW b) (rungW b) < keyZ (sgnW a) (rungW a) := fun h => g2 ⟨h, fun h' => hz ⟨h'.2, h'.1⟩⟩
        rw [if_neg k1, if_neg k2]
        have hk : keyZ (sgnW a) (rungW a) = keyZ (sgnW b) (rungW b) := by omega
        have hsr : sgnW a = sgnW b ∧ rungW a = rungW b := by
          unfold keyZ at hk
          cases hsa : sgnW a <;> cases hsb : sgnW b <;> rw [hsa, hsb] at hk <;> simp at hk ⊢ <;> omega
        rw [hsr.1, hsr.2]
        unfold cmp3
        rw [if_neg (by omega), if_neg (by omega)]
    · rw [rank_num ha, rank_nan hb]
      unfold cmpW cmp3
      have := keyZ_top (sgnW a) a
      rw [keyW_num ha, keyW_nan hb, if_pos this]
      split <;> rfl
  · cases hb : nanW b
    · rw [rank_nan ha, rank_num hb]
      unfold cmpW cmp3
      have := keyZ_top (sgnW b) b
      rw [keyW_nan ha, keyW_num hb, if_neg (by omega), if_pos this]
      split <;> rfl
    · rw [rank_nan ha, rank_nan hb]
      unfold cmpW cmp3
      rw [keyW_nan ha, keyW_nan hb]; rfl
theorem lt_bits (x y : Nat) : (FloatKind.f64.format.order x y == some .lt) = ltW x y := lt_word x y
theorem gt_bits (x y : Nat) : (FloatKind.f64.format.order x y == some .gt) = ltW y x := by
  have := gt_word x y
  change (FloatKind.f64.format.order x y == some .gt) = _ at this
  rw [this]
  unfold ltW
  cases nanW x <;> cases nanW y <;> rfl
theorem nan_bits (e m : Nat) (he : e < 2) (hm : m ≤ 4503599627370494) : nanW (e * 9223372036854775808 + 9218868437227405312 + 1 + m) = true ∧ e * 9223372036854775808 + 9218868437227405312 + 1 + m < 18446744073709551616 := by
  constructor
  · unfold nanW rungW
    refine decide_eq_true ?_
    rcases (show e = 0 ∨ e = 1 by omega) with rfl | rfl
    · omega
    · omega
  · omega
/-- An operation that gives no number gives some word that is none, and draws. -/
theorem run_float_nan {P : Program} (w : World) (op : BinOp) (t : TypeId) (x y : Nat) (hop : op = .add ∨ op = .sub ∨ op = .mul ∨ op = .quo) (h : floatBits op .f64 x y = none) :
    ∃ b, nanW b = true ∧ b < 18446744073709551616 ∧ (binOp op t (.float .f64 x) (.float .f64 y)).run P w = .ok (.float .f64 b) w.drew := by
  obtain ⟨h1, h2⟩ := nan_bits (w.tape w.drawn (Question.nanBits .f64 x y) % 2) (w.tape w.drawn (Question.nanBits .f64 x y) / 2 % 4503599627370495) (by omega) (by omega)
  refine ⟨_, h1, h2, ?_⟩
  unfold floatBits at h
  rcases hop with rfl | rfl | rfl | rfl <;> simp only at h <;> (simp [binOp, Op.floatArith, h, Sem.run, choose, Question.forced]; rfl)
end Go.Proofs.Ytdgjgddobjhekaa
