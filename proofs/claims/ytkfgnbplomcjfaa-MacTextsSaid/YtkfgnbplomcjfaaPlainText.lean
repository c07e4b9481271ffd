/-
  Plain facts on an address's text: the parser undoes the printer, and the printer the parser. Nothing of the program is named here.
-/
import Derived.Test.YtkfgnbplomcjfaaPlain
import Derived.Laws.Strings2
import Derived.Laws.StructEq
namespace Go.Proofs.Ytkfgnbplomcjfaa

theorem digN_hexc {d : Nat} (h : d < 16) : digN (hexc d) = some d := by
  have h : d = 0 ∨ d = 1 ∨ d = 2 ∨ d = 3 ∨ d = 4 ∨ d = 5 ∨ d = 6 ∨ d = 7 ∨ d = 8 ∨ d = 9 ∨ d = 10 ∨ d = 11 ∨ d = 12 ∨ d = 13 ∨ d = 14 ∨ d = 15 := by omega
  rcases h with rfl | rfl | rfl | rfl | rfl | rfl | rfl | rfl | rfl | rfl | rfl | rfl | rfl | rfl | rfl | rfl <;> decide
theorem hexc_digN {c d : Nat} (h : digN c = some d) : hexc d = c := by
  unfold digN at h
  split at h
  · simp at h; subst h; unfold hexc; split <;> omega
  · split at h
    · simp at h; subst h; unfold hexc; split <;> omega
    · simp at h
theorem texN_eq (m : Nat) : texN m = [hexc (m / 1099511627776 % 256 / 16), hexc (m / 1099511627776 % 256 % 16), 45, hexc (m / 4294967296 % 256 / 16), hexc (m / 4294967296 % 256 % 16), 45, hexc (m / 16777216 % 256 / 16), hexc (m / 16777216 % 256 % 16), 45,
    hexc (m / 65536 % 256 / 16), hexc (m / 65536 % 256 % 16), 45, hexc (m / 256 % 256 / 16), hexc (m / 256 % 256 % 16), 45, hexc (m % 256 / 16), hexc (m % 256 % 16)] := by
  simp [texN, texK, mb]
theorem texN_length (m : Nat) : (texN m).length = 17 := by simp [texN, texK_length]
theorem texN_low (m : Nat) : texN (m % 281474976710656) = texN m := by
  have : ∀ k, texK (m % 281474976710656) k = texK m k := by
    intro k
    induction k with
    | zero => rfl
    | succ k ih => rw [texK, texK, ih, mb_low]
  exact this 6
/-- One step of the parser, known from behind. -/
theorem parK_back {s : List Nat} {k n : Nat} (h : parK s (k + 1) = some n) :
    ∃ m, parK s k = some m ∧ (k % 3 = 2 → s.getD k 0 = 45 ∧ n = m) ∧ (k % 3 ≠ 2 → ∃ d, digN (s.getD k 0) = some d ∧ d < 16 ∧ n = m * 16 + d) := by
  cases hp : parK s k with
  | none => rw [parK, hp] at h; simp at h
  | some m =>
    refine ⟨m, rfl, fun h3 => ?_, fun h3 => ?_⟩
    · rw [parK_sep hp h3] at h
      split at h
      · rename_i h45
        simp at h
        exact ⟨h45, h.symm⟩
      · simp at h
    · rw [parK_dig hp h3] at h
      cases hd : digN (s.getD k 0) with
      | none => rw [hd] at h; simp at h
      | some d =>
        rw [hd] at h
        simp at h
        exact ⟨d, rfl, digN_lt hd, h.symm⟩
theorem parK_seq {s : List Nat} {k m : Nat} (h : parK s k = some m) (h3 : k % 3 = 2) (hc : s.getD k 0 = 45) : parK s (k + 1) = some m := by rw [parK_sep h h3, if_pos hc]
theorem parK_deq {s : List Nat} {k m d : Nat} (h : parK s k = some m) (h3 : k % 3 ≠ 2) (hd : d < 16) (hc : s.getD k 0 = hexc d) : parK s (k + 1) = some (m * 16 + d) := by
  rw [parK_dig h h3, hc, digN_hexc hd]; rfl
theorem parse_text (m : Nat) : parseN (texN m) = some (m % 281474976710656) := by
  unfold parseN
  rw [if_pos (texN_length m)]
  have h0 : parK (texN m) 0 = some 0 := rfl
  have h1 := parK_deq h0 (by decide) (d := m / 1099511627776 % 256 / 16) (by omega) (by rw [texN_eq]; rfl)
  have h2 := parK_deq h1 (by decide) (d := m / 1099511627776 % 256 % 16) (by omega) (by rw [texN_eq]; rfl)
  have h3 := parK_seq h2 (by decide) (by rw [texN_eq]; rfl)
  have h4 := parK_deq h3 (by decide) (d := m / 4294967296 % 256 / 16) (by omega) (by rw [texN_eq]; rfl)
  have h5 := parK_deq h4 (by decide) (d := m / 4294967296 % 256 % 16) (by omega) (by rw [texN_eq]; rfl)
  have h6 := parK_seq h5 (by decide) (by rw [texN_eq]; rfl)
  have h7 := parK_deq h6 (by decide) (d := m / 16777216 % 256 / 16) (by omega) (by rw [texN_eq]; rfl)
  have h8 := parK_deq h7 (by decide) (d := m / 16777216 % 256 % 16) (by omega) (by rw [texN_eq]; rfl)
  have h9 := parK_seq h8 (by decide) (by rw [texN_eq]; rfl)
  have h10 := parK_deq h9 (by decide) (d := m / 65536 % 256 / 16) (by omega) (by rw [texN_eq]; rfl)
  have h11 := parK_deq h10 (by decide) (d := m / 65536 % 256 % 16) (by omega) (by rw [texN_eq]; rfl)
  have h12 := parK_seq h11 (by decide) (by rw [texN_eq]; rfl)
  have h13 := parK_deq h12 (by decide) (d := m / 256 % 256 / 16) (by omega) (by rw [texN_eq]; rfl)
  have h14 := parK_deq h13 (by decide) (d := m / 256 % 256 % 16) (by omega) (by rw [texN_eq]; rfl)
  have h15 := parK_seq h14 (by decide) (by rw [texN_eq]; rfl)
  have h16 := parK_deq h15 (by decide) (d := m % 256 / 16) (by omega) (by rw [texN_eq]; rfl)
  have h17 := parK_deq h16 (by decide) (d := m % 256 % 16) (by omega) (by rw [texN_eq]; rfl)
  refine h17.trans (congrArg some ?_)
  clear h0 h1 h2 h3 h4 h5 h6 h7 h8 h9 h10 h11 h12 h13 h14 h15 h16 h17
  omega
theorem text_parse {s : List Nat} {n : Nat} (h : parseN s = some n) : texN n = s ∧ n < 281474976710656 := by
  unfold parseN at h
  split at h
  · rename_i hl
    have hlt := parK_small h (by omega)
    obtain ⟨m16, p16, a16, b16⟩ := parK_back h
    obtain ⟨m15, p15, a15, b15⟩ := parK_back p16
    obtain ⟨m14, p14, a14, b14⟩ := parK_back p15
    obtain ⟨m13, p13, a13, b13⟩ := parK_back p14
    obtain ⟨m12, p12, a12, b12⟩ := parK_back p13
    obtain ⟨m11, p11, a11, b11⟩ := parK_back p12
    obtain ⟨m10, p10, a10, b10⟩ := parK_back p11
    obtain ⟨m9, p9, a9, b9⟩ := parK_back p10
    obtain ⟨m8, p8, a8, b8⟩ := parK_back p9
    obtain ⟨m7, p7, a7, b7⟩ := parK_back p8
    obtain ⟨m6, p6, a6, b6⟩ := parK_back p7
    obtain ⟨m5, p5, a5, b5⟩ := parK_back p6
    obtain ⟨m4, p4, a4, b4⟩ := parK_back p5
    obtain ⟨m3, p3, a3, b3⟩ := parK_back p4
    obtain ⟨m2, p2, a2, b2⟩ := parK_back p3
    obtain ⟨m1, p1, a1, b1⟩ := parK_back p2
    obtain ⟨m0, p0, a0, b0⟩ := parK_back p1
    obtain ⟨d0, c0, l0, e0⟩ := b0 (by decide)
    obtain ⟨d1, c1, l1, e1⟩ := b1 (by decide)
    obtain ⟨c2, e2⟩ := a2 (by decide)
    obtain ⟨d3, c3, l3, e3⟩ := b3 (by decide)
    obtain ⟨d4, c4, l4, e4⟩ := b4 (by decide)
    obtain ⟨c5, e5⟩ := a5 (by decide)
    obtain ⟨d6, c6, l6, e6⟩ := b6 (by decide)
    obtain ⟨d7, c7, l7, e7⟩ := b7 (by decide)
    obtain ⟨c8, e8⟩ := a8 (by decide)
    obtain ⟨d9, c9, l9, e9⟩ := b9 (by decide)
    obtain ⟨d10, c10, l10, e10⟩ := b10 (by decide)
    obtain ⟨c11, e11⟩ := a11 (by decide)
    obtain ⟨d12, c12, l12, e12⟩ := b12 (by decide)
    obtain ⟨d13, c13, l13, e13⟩ := b13 (by decide)
    obtain ⟨c14, e14⟩ := a14 (by decide)
    obtain ⟨d15, c15, l15, e15⟩ := b15 (by decide)
    obtain ⟨d16, c16, l16, e16⟩ := b16 (by decide)
    have e00 : m0 = 0 := by simpa [parK] using p0.symm
    clear h p0 a0 b0 p1 a1 b1 p2 a2 b2 p3 a3 b3 p4 a4 b4 p5 a5 b5 p6 a6 b6 p7 a7 b7 p8 a8 b8 p9 a9 b9 p10 a10 b10 p11 a11 b11 p12 a12 b12 p13 a13 b13 p14 a14 b14 p15 a15 b15 p16 a16 b16
    refine ⟨?_, hlt⟩
    rw [texN_eq]
    have hs : s = [s.getD 0 0, s.getD 1 0, s.getD 2 0, s.getD 3 0, s.getD 4 0, s.getD 5 0, s.getD 6 0, s.getD 7 0, s.getD 8 0, s.getD 9 0, s.getD 10 0, s.getD 11 0, s.getD 12 0, s.getD 13 0, s.getD 14 0, s.getD 15 0, s.getD 16 0] := by
      match s, hl with
      | [_, _, _, _, _, _, _, _, _, _, _, _, _, _, _, _, _], _ => rfl
    rw [hs]
    have q0 : n / 1099511627776 % 256 / 16 = d0 := by omega
    have q1 : n / 1099511627776 % 256 % 16 = d1 := by omega
    have q3 : n / 4294967296 % 256 / 16 = d3 := by omega
    have q4 : n / 4294967296 % 256 % 16 = d4 := by omega
    have q6 : n / 16777216 % 256 / 16 = d6 := by omega
    have q7 : n / 16777216 % 256 % 16 = d7 := by omega
    have q9 : n / 65536 % 256 / 16 = d9 := by omega
    have q10 : n / 65536 % 256 % 16 = d10 := by omega
    have q12 : n / 256 % 256 / 16 = d12 := by omega
    have q13 : n / 256 % 256 % 16 = d13 := by omega
    have q15 : n % 256 / 16 = d15 := by omega
    have q16 : n % 256 % 16 = d16 := by omega
    rw [q0, q1, q3, q4, q6, q7, q9, q10, q12, q13, q15, q16, hexc_digN c0, hexc_digN c1, hexc_digN c3, hexc_digN c4, hexc_digN c6, hexc_digN c7, hexc_digN c9, hexc_digN c10, hexc_digN c12, hexc_digN c13, hexc_digN c15, hexc_digN c16, c2, c5, c8, c11, c14]
  · simp at h
theorem stB_take (l : List Nat) (k : Nat) (_hk : k ≤ l.length) : (stB l).extract 0 k = stB (l.take k) := by
  unfold stB
  rw [ByteArray.extract_mk]
  simp [List.map_take]
theorem stB_drop (l : List Nat) (k : Nat) : (stB l).extract k (stB l).size = stB (l.drop k) := by
  rw [stB_size]
  unfold stB
  rw [ByteArray.extract_mk]
  rw [List.take_of_length_le (by simp), List.map_drop]
theorem str_ne {a b : ByteArray} (h : ¬ a = b) : (a.toList == b.toList) = false := by
  rw [← beq_toListBytes]
  cases hh : (a == b) with
  | false => rfl
  | true =>
    exfalso
    apply h
    have : a.data == b.data := hh
    exact ByteArray.ext (by simpa using this)
theorem stB_inj {a b : List Nat} (ha : ∀ x ∈ a, x < 256) (hb : ∀ x ∈ b, x < 256) (h : stB a = stB b) : a = b := by
  rw [← sl_stB a ha, h, sl_stB b hb]
end Go.Proofs.Ytkfgnbplomcjfaa
