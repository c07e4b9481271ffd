/-
  What is left to come of a gauge: of whole numbers, and of a level that isn't above nought. Nothing of the program is walked here. No statement is proved here.
-/
import Derived.Test.YtdgjgddobjhekaaGaugeW
namespace Go.Proofs.Ytdgjgddobjhekaa
open Go.RowKit

theorem valZ_fN {k : Nat} (h : k < 9007199254740992) : valZ (sgnW (fN k)) (rungW (fN k)) = ((k * 2 ^ 1074 : Nat) : Int) := by
  rw [fN_sgn h, fN_rung h]
  unfold valZ
  rw [fN_val h]
  rfl
/-- Of a value that a positive word has, just that word is written. -/
theorem write_val {T : Int} {d k : Nat} {z : Bool} (h : T * 2 ^ d = ((k * 2 ^ 1074 : Nat) : Int)) (hk : k < 9007199254740992) (hz : T = 0 → z = false) :
    Ieee.double.write (.number (if T = 0 then z else decide (T < 0)) T.natAbs (-1074 + (d : Int))) = fN k := by
  have hp : (0 : Int) < 2 ^ d := Int.pow_pos (by omega)
  have hq : 0 < 2 ^ 1074 := Nat.two_pow_pos 1074
  generalize hP : 2 ^ 1074 = P at *
  rcases Nat.eq_zero_or_pos k with rfl | h0
  · have hT : T = 0 := by
      rw [Nat.zero_mul] at h
      rcases Int.mul_eq_zero.1 h with h1 | h1
      · exact h1
      · omega
    subst hT
    rw [if_pos rfl, hz rfl, fN_zero]
    exact write_zero _
  · have hkP : 0 < k * P := Nat.mul_pos h0 hq
    have hT : 0 < T := by
      rcases Int.lt_or_le 0 T with h1 | h1
      · exact h1
      · have := Int.mul_nonpos_of_nonpos_of_nonneg h1 (Int.le_of_lt hp)
        omega
    rw [if_neg (by omega), decide_eq_false (by omega)]
    obtain ⟨m, rfl⟩ := Int.eq_ofNat_of_zero_le (Int.le_of_lt hT)
    rw [Int.natAbs_natCast]
    show Ieee.double.nearest false m _ = _
    have hm : m * 2 ^ d = k * P := by
      have h' : ((m * 2 ^ d : Nat) : Int) = ((k * P : Nat) : Int) := by
        rw [← h]; simp
      exact_mod_cast h'
    rw [nearest_eq (R := fN k) (by omega) (fN_lt hk) (by rw [hm, fN_val hk, hP]) false]
    exact word_pos _
theorem cast_add (a b P : Nat) : ((a * P : Nat) : Int) + ((b * P : Nat) : Int) = (((a + b) * P : Nat) : Int) := by
  rw [Nat.add_mul]; simp
theorem add_whole {a b : Nat} (h : a + b < 9007199254740992) : floatBits .add .f64 (fN a) (fN b) = some (fN (a + b)) := by
  have ha : a < 9007199254740992 := by omega
  have hb : b < 9007199254740992 := by omega
  obtain ⟨T, d, h1, h2⟩ := add_val (x := fN a) (y := fN b) (by rw [fN_rung ha]; exact fN_lt ha) (by rw [fN_rung hb]; exact fN_lt hb)
  rw [h2, write_val (k := a + b) (by rw [h1, valZ_fN ha, valZ_fN hb]; exact cast_add _ _ _) h (fun _ => by rw [fN_sgn ha]; rfl)]
theorem sub_whole {a b : Nat} (hab : b ≤ a) (ha : a < 9007199254740992) : floatBits .sub .f64 (fN a) (fN b) = some (fN (a - b)) := by
  have hb : b < 9007199254740992 := by omega
  obtain ⟨T, d, h1, h2⟩ := sub_val (x := fN a) (y := fN b) (by rw [fN_rung ha]; exact fN_lt ha) (by rw [fN_rung hb]; exact fN_lt hb)
  have e : ((a * 2 ^ 1074 : Nat) : Int) - ((b * 2 ^ 1074 : Nat) : Int) = (((a - b) * 2 ^ 1074 : Nat) : Int) := by
    rw [Nat.sub_mul]
    have := Nat.mul_le_mul_right (2 ^ 1074) hab
    generalize a * 2 ^ 1074 = x at *
    generalize b * 2 ^ 1074 = y at *
    omega
  rw [h2, write_val (k := a - b) (by rw [h1, valZ_fN ha, valZ_fN hb, e]) (by omega) (fun _ => by rw [fN_sgn ha]; rfl)]
theorem read_fN {k : Nat} (h0 : 0 < k) (h : k < 9007199254740992) : ∃ m a : Nat, Ieee.double.read (fN k) = .number false m (-1074 + (a : Int)) ∧ m * 2 ^ a = k * 2 ^ 1074 ∧ 1022 ≤ a ∧ 0 < m := by
  obtain ⟨e, low, h1, h2, h3, h4, h5, h6⟩ := fN_word h0 h
  have hr := fN_rung h
  have hs := fN_sgn h
  refine ⟨low, e, ?_, h5, h2, by omega⟩
  unfold Ieee.Format.read
  simp only [dbl_sw, dbl_bin, dbl_inf, least_eq]
  have e1 : fN k % 9223372036854775808 = fN k := hr
  have e2 : (fN k / 9223372036854775808 % 2 == 1) = false := hs
  rw [e1, e2, h6, if_neg (by omega), if_pos (by omega)]
  rw [show 4503599627370496 + (e * 4503599627370496 + low) % 4503599627370496 = low by omega, show (e * 4503599627370496 + low) / 4503599627370496 - 1 = e by omega]
theorem pow_join {i j c : Nat} (h : c ≤ i + j) : 2 ^ (i + j - c) * 2 ^ c = 2 ^ (i + j) := by
  rw [← Nat.pow_add, Nat.sub_add_cancel h]
theorem prod_val {m n a b i j P Q : Nat} (h2 : m * 2 ^ i = a * P) (h6 : n * 2 ^ j = b * P) (hX : Q * P = 2 ^ (i + j)) (hq : 0 < P) : m * n * Q = a * b * P := by
  have h9 : m * n * Q * P = a * b * P * P := by
    calc m * n * Q * P = m * n * (Q * P) := Nat.mul_assoc _ _ _
      _ = m * n * 2 ^ (i + j) := by rw [hX]
      _ = (m * 2 ^ i) * (n * 2 ^ j) := by rw [Nat.pow_add, Nat.mul_mul_mul_comm]
      _ = (a * P) * (b * P) := by rw [h2, h6]
      _ = a * b * (P * P) := Nat.mul_mul_mul_comm _ _ _ _
      _ = _ := (Nat.mul_assoc _ _ _).symm
  exact Nat.eq_of_mul_eq_mul_right hq h9
theorem mul_whole {a b : Nat} (ha : a < 65536) (hb : b < 65536) : floatBits .mul .f64 (fN a) (fN b) = some (fN (a * b)) := by
  have hab : a * b < 9007199254740992 := Nat.lt_of_lt_of_le (Nat.mul_lt_mul'' ha hb) (by decide)
  show Ieee.double.mul _ _ = _
  unfold Ieee.Format.mul
  have hz : ∀ k, k < 9007199254740992 → ∃ m a : Nat, Ieee.double.read (fN k) = .number false m (-1074 + (a : Int)) ∧ (k = 0 → m = 0) := by
    intro k hk
    rcases Nat.eq_zero_or_pos k with rfl | h0
    · rw [fN_zero]; exact ⟨0, 0, by kernel_rfl, fun _ => rfl⟩
    · obtain ⟨m, a, h1, _⟩ := read_fN h0 hk
      exact ⟨m, a, h1, fun h => by omega⟩
  rcases Nat.eq_zero_or_pos (a * b) with h0 | h0
  · obtain ⟨m, i, h1, h2⟩ := hz a (by omega)
    obtain ⟨n, j, h3, h4⟩ := hz b (by omega)
    have hmn : m * n = 0 := by
      rcases Nat.mul_eq_zero.1 h0 with h | h
      · rw [h2 h, Nat.zero_mul]
      · rw [h4 h, Nat.mul_zero]
    rw [h1, h3, h0, fN_zero]
    show Option.map Ieee.double.write (some (Ieee.Datum.number (false ^^ false) (m * n) _)) = _
    rw [hmn]
    show some (Ieee.double.write (Ieee.Datum.number false 0 _)) = _
    rw [write_zero]
  · have ha0 : 0 < a := Nat.pos_of_mul_pos_right h0
    have hb0 : 0 < b := Nat.pos_of_mul_pos_left h0
    obtain ⟨m, i, h1, h2, h3, h4⟩ := read_fN ha0 (by omega)
    obtain ⟨n, j, h5, h6, h7, h8⟩ := read_fN hb0 (by omega)
    rw [h1, h5]
    show some (Ieee.double.nearest false (m * n) (-1074 + (i : Int) + (-1074 + (j : Int)))) = _
    have e : -1074 + (i : Int) + (-1074 + (j : Int)) = -1074 + ((i + j - 1074 : Nat) : Int) := by omega
    have hv : m * n * 2 ^ (i + j - 1074) = a * b * 2 ^ 1074 := by
      have hle : 1074 ≤ i + j := by omega
      clear e h1 h5 h3 h7
      revert h2 h6 hle
      generalize (1074 : Nat) = c
      intro h2 h6 hle
      exact prod_val h2 h6 (pow_join hle) (Nat.two_pow_pos c)
    rw [e, nearest_eq (R := fN (a * b)) (Nat.mul_pos h4 h8) (fN_lt hab) (hv.trans (fN_val hab).symm) false, word_pos]
theorem geB_whole {k : Nat} (h : k < 9007199254740992) : geB (fN k) = decide (1 ≤ k) := by
  have h1 : (1 : Nat) < 9007199254740992 := by decide
  unfold geB
  rw [← fN_one, gt_bits, eq_bits, fN_lt_iff h1 h, fN_lt_iff h h1, fN_nan h, fN_nan h1]
  rcases (show k = 0 ∨ k = 1 ∨ 1 < k by omega) with rfl | rfl | hk
  · rfl
  · rfl
  · simp [hk]; omega
/-- The room so many ticks later, of whole numbers. -/
theorem room_whole {lv mo ro n : Nat} (hl : lv < 65536) (hn : n < 65536) (hm : mo < 65536) (hr : ro < 65536) : roomW (fN lv) (fN mo) (fN ro) n = fN (min mo (ro + lv * n)) := by
  have hp : lv * n < 4294967296 := Nat.lt_of_lt_of_le (Nat.mul_lt_mul'' hl hn) (by decide)
  unfold roomW
  rw [mul_whole hl hn]
  simp only
  rw [add_whole (by omega)]
  simp only
  rw [fN_lt_iff (by omega) (by omega)]
  rcases Nat.lt_or_ge mo (ro + lv * n) with h | h
  · rw [decide_eq_true h, Nat.min_eq_left (by omega)]
    simp only [if_true]
    have hz := fN_lt_iff (a := 0) (b := mo) (by omega) (by omega)
    rw [fN_zero] at hz
    rw [hz]
    rcases Nat.eq_zero_or_pos mo with h0 | h0
    · rw [h0, fN_zero, decide_eq_false (by omega)]
      simp only [Bool.false_eq_true, if_false]
    · rw [decide_eq_true h0]
      simp only [if_true]
  · rw [decide_eq_false (by omega), Nat.min_eq_right h]
    simp only [Bool.false_eq_true, if_false]
    generalize ro + lv * n = t at *
    have hz := fN_lt_iff (a := 0) (b := t) (by omega) (by omega)
    rw [fN_zero] at hz
    rw [hz]
    rcases Nat.eq_zero_or_pos t with h0 | h0
    · rw [h0, fN_zero, decide_eq_false (by omega)]
      simp only [Bool.false_eq_true, if_false]
    · rw [decide_eq_true h0]
      simp only [if_true]
/-- A level that isn't above nought adds nothing. -/
theorem near_word (s : Bool) (m : Nat) (p : Int) : ∃ r, r ≤ 9218868437227405312 ∧ Ieee.double.nearest s m p = Ieee.double.word s r ∧ (m = 0 → r = 0) := by
  unfold Ieee.Format.nearest
  by_cases h : m = 0
  · rw [if_pos h]; exact ⟨0, by omega, rfl, fun _ => rfl⟩
  · rw [if_neg h, dbl_inf]
    exact ⟨_, Nat.min_le_right _ _, rfl, fun h0 => absurd h0 h⟩
theorem mul_low {lv n p : Nat} (hn : n < 4294967296) (hv : nanW lv = false) (hl : sgnW lv = true ∨ rungW lv = 0) (hp : floatBits .mul .f64 lv (fN n) = some p) :
    p = 0 ∨ (sgnW p = true ∧ rungW p ≤ 9218868437227405312) := by
  have hnn : n < 9007199254740992 := by omega
  obtain ⟨b, j, hr, _⟩ := read_num (x := fN n) (by rw [fN_rung hnn]; exact fN_lt hnn)
  rw [fN_sgn hnn] at hr
  have hp' : (((Ieee.double.read lv).product (Ieee.double.read (fN n))).map Ieee.double.write) = some p := hp
  rw [hr] at hp'
  have hle : rungW lv ≤ 9218868437227405312 := by
    unfold nanW at hv; have := of_decide_eq_false hv; omega
  rcases Nat.lt_or_ge (rungW lv) 9218868437227405312 with h | h
  · obtain ⟨m, a, hm, hvv⟩ := read_num h
    rw [hm] at hp'
    have h2 : some (Ieee.double.nearest (sgnW lv ^^ false) (m * b) (Ieee.double.leastPlace + (a : Int) + (Ieee.double.leastPlace + (j : Int)))) = some p := hp'
    obtain ⟨r, hr1, hr2, hr3⟩ := near_word (sgnW lv ^^ false) (m * b) (Ieee.double.leastPlace + (a : Int) + (Ieee.double.leastPlace + (j : Int)))
    rw [hr2] at h2
    injection h2 with h2
    cases hs : sgnW lv
    · left
      have h0 : rungW lv = 0 := by
        rcases hl with h1 | h1
        · rw [hs] at h1; exact absurd h1 (by simp)
        · exact h1
      rw [h0] at hvv
      have hm0 : m = 0 := by
        have hp : 0 < 2 ^ a := Nat.two_pow_pos a
        rcases Nat.mul_eq_zero.1 (hvv.symm.trans valN_zero) with h1 | h1
        · exact h1
        · omega
      rw [hs, hr3 (by rw [hm0, Nat.zero_mul])] at h2
      exact h2.symm
    · right
      rw [hs] at h2
      have h3 : Ieee.double.word true r = p := h2
      rw [word_neg] at h3
      rw [← h3]
      exact ⟨sgn_neg (by omega), by rw [rung_neg (by omega)]; exact hr1⟩
  · have hinf : rungW lv = 9218868437227405312 := by omega
    have hs : sgnW lv = true := by
      rcases hl with h1 | h1
      · exact h1
      · omega
    rw [read_inf hinf, hs] at hp'
    have h2 : Option.map Ieee.double.write (if b = 0 then none else some (Ieee.Datum.infinity (true ^^ false))) = some p := hp'
    by_cases hb : b = 0
    · rw [if_pos hb] at h2; exact absurd h2 (by simp)
    · rw [if_neg hb] at h2
      have h3 : some (Ieee.double.word true Ieee.double.infRung) = some p := h2
      injection h3 with h3
      rw [word_neg, dbl_inf] at h3
      right
      rw [← h3]
      exact ⟨sgn_neg (by omega), by rw [rung_neg (by omega)]; omega⟩
theorem ltW_neg {x : Nat} (h : sgnW x = true) : ltW 0 x = false := by
  unfold ltW
  have h0 : nanW 0 = false := by decide
  rw [h0, h, show sgnW 0 = false from sgn_zero, show rungW 0 = 0 from rung_zero]
  unfold valZ
  rw [valN_zero]
  simp only [if_true, Bool.false_eq_true, if_false]
  rw [decide_eq_false (by simp)]
  simp
theorem ltW_self (x : Nat) : ltW x x = false := by
  unfold ltW
  rw [decide_eq_false (by omega)]
  simp
theorem ltW_pos {x y : Nat} (hx : x < 9218868437227405312) (hy : y < 9218868437227405312) : ltW x y = decide (x < y) := by
  unfold ltW
  rw [nan_not (x := x) (by rw [rung_pos (by omega)]; omega), nan_not (x := y) (by rw [rung_pos (by omega)]; omega), sgn_pos (r := x) (by omega), sgn_pos (r := y) (by omega), rung_pos (r := x) (by omega), rung_pos (r := y) (by omega)]
  unfold valZ
  simp only [Bool.not_false, Bool.true_and, Bool.false_eq_true, if_false]
  rw [decide_eq_decide, ← valN_lt_iff (r := x)]
  omega
theorem low_room {s mo ro : Nat} (hs : s = 0 ∨ (sgnW s = true) ∨ s ≤ ro) (hr : ro < 9218868437227405312) (hm : mo < 9218868437227405312) :
    (if ltW 0 (if ltW mo s = true then mo else s) = true then (if ltW mo s = true then mo else s) else 0) ≤ ro := by
  rcases hs with rfl | hs | hs
  · rw [ltW_pos hm (by omega), decide_eq_false (by omega)]
    simp only [Bool.false_eq_true, if_false]
    split <;> omega
  · have h1 : ltW mo s = false := by
      unfold ltW
      rw [sgn_pos (r := mo) (by omega), hs]
      unfold valZ
      simp only [if_true, Bool.false_eq_true, if_false]
      rw [decide_eq_false (by omega)]
      simp
    rw [h1]
    simp only [Bool.false_eq_true, if_false]
    rw [ltW_neg hs]
    simp only [Bool.false_eq_true, if_false]
    omega
  · rw [ltW_pos hm (by omega)]
    rcases Nat.lt_or_ge mo s with h | h
    · rw [decide_eq_true h]
      simp only [if_true]
      split <;> omega
    · rw [decide_eq_false (by omega)]
      simp only [Bool.false_eq_true, if_false]
      split <;> omega
theorem room_low {lv mo ro n : Nat} (hn : n < 4294967296) (hv : nanW lv = false) (hl : sgnW lv = true ∨ rungW lv = 0) (hr : ro < 9218868437227405312) (hm : mo < 9218868437227405312) : roomW lv mo ro n ≤ ro := by
  unfold roomW
  cases hp : floatBits .mul .f64 lv (fN n) with
  | none => exact Nat.zero_le _
  | some p =>
    simp only
    cases hs : floatBits .add .f64 ro p with
    | none => exact Nat.zero_le _
    | some s =>
      simp only
      refine low_room ?_ hr hm
      have hrr : rungW ro = ro := rung_pos (by omega)
      have hrs : sgnW ro = false := sgn_pos (by omega)
      have hfin : rungW p < 9218868437227405312 → valZ (sgnW p) (rungW p) ≤ 0 → s = 0 ∨ sgnW s = true ∨ s ≤ ro := by
        intro hpf hpv
        obtain ⟨T, d, h1, h2⟩ := add_val (x := ro) (y := p) (by rw [hrr]; exact hr) hpf
        rw [hs] at h2
        injection h2 with h2
        rw [hrr, hrs] at h1
        rcases Int.lt_trichotomy T 0 with hT | hT | hT
        · rw [if_neg (by omega), decide_eq_true hT] at h2
          obtain ⟨r, hr1, hr2, _⟩ := near_word true T.natAbs (-1074 + (d : Int))
          have h3 : s = Ieee.double.nearest true T.natAbs (-1074 + (d : Int)) := h2
          rw [hr2, word_neg] at h3
          right; left
          rw [h3]; exact sgn_neg (by omega)
        · subst hT
          rw [hrs, if_pos rfl] at h2
          left
          exact h2.trans (write_zero _)
        · rw [if_neg (by omega), decide_eq_false (by omega)] at h2
          obtain ⟨m, rfl⟩ := Int.eq_ofNat_of_zero_le (Int.le_of_lt hT)
          have h3 : s = Ieee.double.nearest false m (-1074 + (d : Int)) := h2
          have h4 : m * 2 ^ d ≤ valN ro := by
            have h5 : ((m * 2 ^ d : Nat) : Int) ≤ (valN ro : Int) := by
              have h6 : ((m * 2 ^ d : Nat) : Int) = (m : Int) * 2 ^ d := by simp
              rw [h6, h1]
              have h7 : valZ false ro = (valN ro : Int) := rfl
              rw [h7]; omega
            exact_mod_cast h5
          obtain ⟨r, hr1, hr2, hr3⟩ := nearest_le (by omega) h4
          rw [hr3 false, word_pos] at h3
          right; right
          omega
      rcases mul_low hn hv hl hp with rfl | ⟨hps, hpr⟩
      · exact hfin (by decide) (by decide)
      · rcases Nat.lt_or_ge (rungW p) 9218868437227405312 with h | h
        · refine hfin h ?_
          rw [hps]
          unfold valZ
          simp
        · have hinf : rungW p = 9218868437227405312 := by omega
          have hs' : ((Ieee.double.read ro).sum (Ieee.double.read p)).map Ieee.double.write = some s := hs
          obtain ⟨m, a, hm1, _⟩ := read_num (x := ro) (by rw [hrr]; exact hr)
          rw [hm1, read_inf hinf, hps] at hs'
          have h3 : some (Ieee.double.word true Ieee.double.infRung) = some s := hs'
          injection h3 with h3
          rw [word_neg, dbl_inf] at h3
          right; left
          rw [← h3]; exact sgn_neg (by omega)
/-- One frame less. -/
theorem take_low {r k : Nat} (hk : k < 65536) (hr : r ≤ fN k) (hg : geB r = true) : 1 ≤ k ∧ ∃ q, floatBits .sub .f64 r 4607182418800017408 = some q ∧ q ≤ fN (k - 1) := by
  have h1 : (1 : Nat) < 9007199254740992 := by decide
  have hkk : k < 9007199254740992 := by omega
  have hkl := fN_lt hkk
  have h1l := fN_lt h1
  have hge : fN 1 ≤ r := by
    unfold geB at hg
    rw [← fN_one, gt_bits, eq_bits, ltW_pos h1l (by omega), ltW_pos (by omega) h1l] at hg
    rcases Nat.lt_or_ge r (fN 1) with hc | hc
    · rw [decide_eq_true hc, decide_eq_false (by omega)] at hg
      simp at hg
    · exact hc
  have hk1 : 1 ≤ k := by
    rcases Nat.eq_zero_or_pos k with rfl | h
    · rw [fN_zero] at hr
      rw [fN_one] at hge
      omega
    · exact h
  refine ⟨hk1, ?_⟩
  rw [← fN_one]
  have hrr : rungW r = r := rung_pos (by omega)
  have hrs : sgnW r = false := sgn_pos (by omega)
  obtain ⟨T, d, h2, h3⟩ := sub_val (x := r) (y := fN 1) (by rw [hrr]; omega) (by rw [fN_rung h1]; exact h1l)
  refine ⟨_, h3, ?_⟩
  rw [hrr, hrs, valZ_fN h1] at h2
  have hv1 := valN_le hge
  have hv2 := valN_le hr
  rw [fN_val h1] at hv1
  rw [fN_val hkk] at hv2
  have hv3 : valN (fN (k - 1)) = k * 2 ^ 1074 - 1 * 2 ^ 1074 := by rw [fN_val (by omega), Nat.sub_mul]
  have hvz : valZ false r = (valN r : Int) := rfl
  rw [hvz] at h2
  rw [hrs]
  have hp : (0 : Int) < 2 ^ d := Int.pow_pos (by omega)
  generalize 1 * 2 ^ 1074 = P at *
  generalize k * 2 ^ 1074 = Q at *
  rcases Int.lt_trichotomy T 0 with hT | hT | hT
  · exfalso
    have := Int.mul_neg_of_neg_of_pos hT hp
    omega
  · subst hT
    rw [if_pos rfl]
    show Ieee.double.write (.number false 0 _) ≤ _
    rw [write_zero]
    exact Nat.zero_le _
  · rw [if_neg (by omega), decide_eq_false (by omega)]
    obtain ⟨m, rfl⟩ := Int.eq_ofNat_of_zero_le (Int.le_of_lt hT)
    have h4 : m * 2 ^ d ≤ valN (fN (k - 1)) := by
      have h6 : ((m * 2 ^ d : Nat) : Int) = (m : Int) * 2 ^ d := by simp
      rw [hv3]
      rw [← h6] at h2
      generalize m * 2 ^ d = X at *
      omega
    obtain ⟨r', hr1, hr2, hr3⟩ := nearest_le (by omega) h4
    show Ieee.double.nearest false m (-1074 + (d : Int)) ≤ _
    rw [hr3 false]
    exact hr1
end Go.Proofs.Ytdgjgddobjhekaa
