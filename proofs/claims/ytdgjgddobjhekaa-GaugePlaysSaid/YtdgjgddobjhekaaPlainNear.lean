/-
  Rounding to the nearest word: no more than a word that is no less; just the word that is it. Nothing of the program is named here. No statement is proved here.
-/
import Derived.Test.YtdgjgddobjhekaaPlainSub
namespace Go.Proofs.Ytdgjgddobjhekaa

theorem valN_scale {e low : Nat} (h1 : low ≤ 9007199254740992) (h2 : e = 0 ∨ 4503599627370496 ≤ low) : valN (e * 4503599627370496 + low) = low * 2 ^ e := by
  unfold valN
  rcases Nat.lt_or_ge low 4503599627370496 with h | h
  · obtain rfl : e = 0 := by omega
    rw [if_pos (by omega)]; simp
  · rcases Nat.lt_or_ge low 9007199254740992 with h3 | h3
    · rw [if_neg (by omega), show (e * 4503599627370496 + low) % 4503599627370496 = low - 4503599627370496 by omega, show (e * 4503599627370496 + low) / 4503599627370496 - 1 = e by omega, show 4503599627370496 + (low - 4503599627370496) = low by omega]
    · obtain rfl : low = 9007199254740992 := by omega
      rw [if_neg (by omega), show (e * 4503599627370496 + 9007199254740992) % 4503599627370496 = 0 by omega, show (e * 4503599627370496 + 9007199254740992) / 4503599627370496 - 1 = e + 1 by omega, Nat.pow_succ]
      omega
theorem valN_lt_iff {r s : Nat} : valN r < valN s ↔ r < s := by
  constructor
  · intro h
    rcases Nat.lt_or_ge r s with h1 | h1
    · exact h1
    · have := valN_le h1; omega
  · exact valN_lt
theorem least_eq : Ieee.double.leastPlace = -1074 := by decide
/-- The rung of a number that is a whole count of least places. -/
theorem nearest_mid (m d : Nat) (hm : 0 < m) :
    ∃ e low up : Nat, up ≤ 1 ∧ low < 9007199254740992 ∧ (e = 0 ∨ 4503599627370496 ≤ low) ∧ low * 2 ^ e ≤ m * 2 ^ d ∧ m * 2 ^ d < (low + 1) * 2 ^ e ∧ (up = 1 → low * 2 ^ e < m * 2 ^ d) ∧
      ∀ s, Ieee.double.nearest s m (-1074 + (d : Int)) = Ieee.double.word s (min (e * 4503599627370496 + (low + up)) 9218868437227405312) := by
  have hlog := Nat.log2_self_le (n := m) (by omega)
  have hlog2 : m < 2 ^ (m.log2 + 1) := Nat.lt_log2_self
  rcases Nat.lt_or_ge 52 m.log2 with hL | hL
  · -- digits are dropped
    obtain ⟨D, hD⟩ : ∃ D, m.log2 = 52 + D := ⟨m.log2 - 52, by omega⟩
    have h52 : 2 ^ m.log2 = 4503599627370496 * 2 ^ D := by rw [hD, Nat.pow_add]
    have h53 : 2 ^ (m.log2 + 1) = 9007199254740992 * 2 ^ D := by rw [Nat.pow_succ, h52]; omega
    have hp : 0 < 2 ^ D := Nat.two_pow_pos D
    have hdm := Nat.div_add_mod m (2 ^ D)
    have hml := Nat.mod_lt m hp
    have hlo : 4503599627370496 ≤ m / 2 ^ D := (Nat.le_div_iff_mul_le hp).2 (by omega)
    have hhi : m / 2 ^ D < 9007199254740992 := (Nat.div_lt_iff_lt_mul hp).2 (by omega)
    have hmx : max (-1074 + (d : Int) + (m.log2 : Int) - 52) (-1074) = -1074 + (d : Int) + (D : Int) := by omega
    have hs1 : (-1074 + (d : Int) - (-1074 + (d : Int) + (D : Int))).toNat = 0 := by omega
    have hs2 : (-1074 + (d : Int) + (D : Int) - (-1074 + (d : Int))).toNat = D := by omega
    have hs3 : (-1074 + (d : Int) + (D : Int) - -1074).toNat = d + D := by omega
    have hgap : 1 <<< min D ((m <<< 0).log2 + 2) = 2 ^ D := by
      rw [Nat.shiftLeft_zero, Nat.shiftLeft_eq, Nat.one_mul, Nat.min_eq_left (by omega)]
    have e1 : m / 2 ^ D * 2 ^ (d + D) = m / 2 ^ D * 2 ^ D * 2 ^ d := by rw [Nat.add_comm d D, Nat.pow_add, Nat.mul_assoc]
    have e2 : (m / 2 ^ D + 1) * 2 ^ (d + D) = (m / 2 ^ D + 1) * 2 ^ D * 2 ^ d := by rw [Nat.add_comm d D, Nat.pow_add, Nat.mul_assoc]
    have e0 : m / 2 ^ D * 2 ^ D = 2 ^ D * (m / 2 ^ D) := Nat.mul_comm _ _
    have hpd : 0 < 2 ^ d := Nat.two_pow_pos d
    refine ⟨d + D, m / 2 ^ D, (decide (2 ^ D < 2 * (m % 2 ^ D)) || (decide (2 ^ D = 2 * (m % 2 ^ D)) && m / 2 ^ D % 2 == 1)).toNat, Bool.toNat_le _, hhi, .inr hlo, ?_, ?_, ?_, ?_⟩
    · rw [e1]; exact Nat.mul_le_mul_right _ (by omega)
    · rw [e2]; exact Nat.mul_lt_mul_of_pos_right (by rw [Nat.add_mul]; omega) hpd
    · intro hu
      rw [e1]
      refine Nat.mul_lt_mul_of_pos_right ?_ hpd
      have : 0 < m % 2 ^ D := by
        rcases Nat.eq_zero_or_pos (m % 2 ^ D) with h0 | h0
        · exfalso
          rw [h0] at hu
          simp at hu
        · exact h0
      omega
    · intro s
      unfold Ieee.Format.nearest
      rw [if_neg (by omega), dbl_bin, dbl_inf, least_eq]
      simp only [show (Ieee.double.fractionBits : Int) = 52 from rfl]
      rw [hmx, hs1, hs2, hs3]
      unfold Ieee.Toward.cut
      simp only []
      rw [hgap, Nat.shiftLeft_zero]
      simp [BEq.beq]
  · -- it is exact
    have hdl : m.log2 ≤ 52 := hL
    obtain ⟨last, hlast⟩ : ∃ last : Nat, max (-1074 + (d : Int) + (m.log2 : Int) - 52) (-1074) = -1074 + (last : Int) := ⟨(max ((d : Int) + (m.log2 : Int) - 52) 0).toNat, by omega⟩
    have hle : last ≤ d := by omega
    obtain ⟨k, hk⟩ : ∃ k, d = last + k := ⟨d - last, by omega⟩
    have hk52 : k + m.log2 ≤ 52 := by omega
    have hs1 : (-1074 + (d : Int) - (-1074 + (last : Int))).toNat = k := by omega
    have hs2 : (-1074 + (last : Int) - (-1074 + (d : Int))).toNat = 0 := by omega
    have hs3 : (-1074 + (last : Int) - -1074).toNat = last := by omega
    have hv : m * 2 ^ d = m * 2 ^ k * 2 ^ last := by rw [hk, Nat.add_comm, Nat.pow_add, Nat.mul_assoc]
    have hlt : m * 2 ^ k < 9007199254740992 := by
      calc m * 2 ^ k < 2 ^ (m.log2 + 1) * 2 ^ k := Nat.mul_lt_mul_of_pos_right hlog2 (Nat.two_pow_pos k)
        _ = 2 ^ (m.log2 + 1 + k) := by rw [← Nat.pow_add]
        _ ≤ 2 ^ 53 := Nat.pow_le_pow_right (by omega) (by omega)
        _ = 9007199254740992 := by decide
    refine ⟨last, m * 2 ^ k, 0, by omega, hlt, ?_, by omega, ?_, by omega, ?_⟩
    · rcases Nat.eq_zero_or_pos last with h0 | h0
      · exact .inl h0
      · right
        have hkk : k + m.log2 = 52 := by omega
        calc 4503599627370496 = 2 ^ (m.log2 + k) := by rw [Nat.add_comm, hkk]
          _ = 2 ^ m.log2 * 2 ^ k := Nat.pow_add _ _ _
          _ ≤ m * 2 ^ k := Nat.mul_le_mul_right _ hlog
    · rw [hv]; exact Nat.mul_lt_mul_of_pos_right (by omega) (Nat.two_pow_pos last)
    · intro s
      unfold Ieee.Format.nearest
      rw [if_neg (by omega), dbl_bin, dbl_inf, least_eq]
      simp only [show (Ieee.double.fractionBits : Int) = 52 from rfl]
      rw [hlast, hs1, hs2, hs3]
      unfold Ieee.Toward.cut
      simp only []
      rw [Nat.zero_min]
      simp [Nat.shiftLeft_eq, Nat.mod_one]
/-- A number that is no more than a word's is rounded to no more than the word. -/
theorem nearest_le {m d R : Nat} (hm : 0 < m) (h : m * 2 ^ d ≤ valN R) : ∃ r, r ≤ R ∧ r ≤ 9218868437227405312 ∧ ∀ s, Ieee.double.nearest s m (-1074 + (d : Int)) = Ieee.double.word s r := by
  obtain ⟨e, low, up, h1, h2, h3, h4, h5, h6, h7⟩ := nearest_mid m d hm
  refine ⟨_, ?_, Nat.min_le_right _ _, h7⟩
  refine Nat.le_trans (Nat.min_le_left _ _) ?_
  have hs := valN_scale (e := e) (low := low) (by omega) h3
  rcases (show up = 0 ∨ up = 1 by omega) with rfl | rfl
  · rw [Nat.add_zero]
    rcases Nat.lt_or_ge R (e * 4503599627370496 + low) with hlt | hge
    · have := valN_lt hlt; omega
    · exact hge
  · have := h6 rfl
    have : valN (e * 4503599627370496 + low) < valN R := by omega
    have := valN_lt_iff.1 this
    omega
/-- A number that a word has is that word. -/
theorem nearest_eq {m d R : Nat} (hm : 0 < m) (hR : R < 9218868437227405312) (h : m * 2 ^ d = valN R) (s : Bool) : Ieee.double.nearest s m (-1074 + (d : Int)) = Ieee.double.word s R := by
  obtain ⟨e, low, up, h1, h2, h3, h4, h5, h6, h7⟩ := nearest_mid m d hm
  rw [h7 s]
  have hs := valN_scale (e := e) (low := low) (by omega) h3
  have hs1 := valN_scale (e := e) (low := low + 1) (by omega) (by omega)
  have a1 : R < e * 4503599627370496 + (low + 1) := valN_lt_iff.1 (by omega)
  have a2 : ¬ R < e * 4503599627370496 + low := fun hc => by have := valN_lt hc; omega
  have a3 : up = 0 := by
    rcases (show up = 0 ∨ up = 1 by omega) with rfl | rfl
    · rfl
    · have := h6 rfl
      have : valN (e * 4503599627370496 + low) < valN R := by omega
      have := valN_lt_iff.1 this
      omega
  subst a3
  have a5 : e * 4503599627370496 + (low + 0) = R := by clear h7 h6 h5 h4 hs hs1 h h3; omega
  rw [a5, Nat.min_eq_left (Nat.le_of_lt hR)]
end Go.Proofs.Ytdgjgddobjhekaa
