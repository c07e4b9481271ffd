/-
  What bytes tell is written by just these bytes. Nothing of the program is named here. No statement is proved here.
-/
import Derived.Test.YthamjkccljhhcaaPlain
import Derived.Test.YthamjkccljhhcaaPlainFrame
namespace Go.Proofs.Ythamjkccljhhcaa

theorem mb_of {a b c d e f : Nat} (hb : b < 256) (hc : c < 256) (hd : d < 256) (he : e < 256) (hf : f < 256) (ha : a < 256) : mb ((((((0 * 256 + a) * 256 + b) * 256 + c) * 256 + d) * 256 + e) * 256 + f) = [a, b, c, d, e, f] := by
  unfold mb
  congr 1
  · omega
  congr 1
  · omega
  congr 1
  · omega
  congr 1
  · omega
  congr 1
  · omega
  congr 1
  omega
theorem by2_of {a b : Nat} (hb : b < 256) : by2 (a * 256 + b) = [a, b] := by
  unfold by2
  congr 1
  · omega
  congr 1
  omega
theorem split18 : ∀ l : List Nat, 18 ≤ l.length → ∃ a0 a1 a2 a3 a4 a5 a6 a7 a8 a9 a10 a11 a12 a13 a14 a15 a16 a17 r, l = a0 :: a1 :: a2 :: a3 :: a4 :: a5 :: a6 :: a7 :: a8 :: a9 :: a10 :: a11 :: a12 :: a13 :: a14 :: a15 :: a16 :: a17 :: r
  | a0 :: a1 :: a2 :: a3 :: a4 :: a5 :: a6 :: a7 :: a8 :: a9 :: a10 :: a11 :: a12 :: a13 :: a14 :: a15 :: a16 :: a17 :: r, _ => ⟨a0, a1, a2, a3, a4, a5, a6, a7, a8, a9, a10, a11, a12, a13, a14, a15, a16, a17, r, rfl⟩
  | [], h | [_], h | [_, _], h | [_, _, _], h | [_, _, _, _], h | [_, _, _, _, _], h | [_, _, _, _, _, _], h | [_, _, _, _, _, _, _], h | [_, _, _, _, _, _, _, _], h => absurd h (by simp)
  | [_, _, _, _, _, _, _, _, _], h | [_, _, _, _, _, _, _, _, _, _], h | [_, _, _, _, _, _, _, _, _, _, _], h | [_, _, _, _, _, _, _, _, _, _, _, _], h | [_, _, _, _, _, _, _, _, _, _, _, _, _], h => absurd h (by simp)
  | [_, _, _, _, _, _, _, _, _, _, _, _, _, _], h | [_, _, _, _, _, _, _, _, _, _, _, _, _, _, _], h | [_, _, _, _, _, _, _, _, _, _, _, _, _, _, _, _], h | [_, _, _, _, _, _, _, _, _, _, _, _, _, _, _, _, _], h => absurd h (by simp)
theorem padL_long {l : List Nat} (h : 60 ≤ l.length) : padL l = l := by
  unfold padL
  rw [show 60 - l.length = 0 by omega]
  simp
theorem wBytes_par {l : List Nat} (hl : ∀ x ∈ l, x < 256) (he : errN l = 0) : wBytes (parF l) = l := by
  obtain ⟨h60, _, _⟩ := errN_ok he
  obtain ⟨a0, a1, a2, a3, a4, a5, a6, a7, a8, a9, a10, a11, a12, a13, a14, a15, a16, a17, r, rfl⟩ := split18 l (by omega)
  have q0 := hl a0 (by simp)
  have q1 := hl a1 (by simp)
  have q2 := hl a2 (by simp)
  have q3 := hl a3 (by simp)
  have q4 := hl a4 (by simp)
  have q5 := hl a5 (by simp)
  have q6 := hl a6 (by simp)
  have q7 := hl a7 (by simp)
  have q8 := hl a8 (by simp)
  have q9 := hl a9 (by simp)
  have q10 := hl a10 (by simp)
  have q11 := hl a11 (by simp)
  have q12 := hl a12 (by simp)
  have q13 := hl a13 (by simp)
  have q14 := hl a14 (by simp)
  have q15 := hl a15 (by simp)
  have q17 := hl a17 (by simp)
  obtain ⟨L, hL⟩ : ∃ L, L = a0 :: a1 :: a2 :: a3 :: a4 :: a5 :: a6 :: a7 :: a8 :: a9 :: a10 :: a11 :: a12 :: a13 :: a14 :: a15 :: a16 :: a17 :: r := ⟨_, rfl⟩
  have e1 : mb (ofk L 6) = [a0, a1, a2, a3, a4, a5] := by rw [hL]; exact mb_of q1 q2 q3 q4 q5 q0
  have e2 : mb (ofk (L.drop 6) 6) = [a6, a7, a8, a9, a10, a11] := by rw [hL]; exact mb_of q7 q8 q9 q10 q11 q6
  have e3 : num2 L 12 = a12 * 256 + a13 := by rw [hL]; rfl
  have e4 : num2 L 14 = a14 * 256 + a15 := by rw [hL]; rfl
  have e5 : num2 L 16 = a16 * 256 + a17 := by rw [hL]; rfl
  rw [← hL] at h60 ⊢
  have key : mb (parF L).dst ++ mb (parF L).src ++ (if (parF L).tagged then [129, 0] ++ by2 (parF L).tci else []) ++ by2 (parF L).typ ++ (parF L).load = L := by
    show mb (ofk L 6) ++ mb (ofk (L.drop 6) 6) ++ (if tagB L then [129, 0] ++ by2 (if tagB L then num2 L 14 else 0) else []) ++ by2 (num2 L (headN L - 2)) ++ L.drop (headN L) = L
    rw [e1, e2]
    cases ht : tagB L
    · have hh : headN L = 14 := by unfold headN; rw [ht]; rfl
      rw [hh, show 14 - 2 = 12 from rfl, e3, by2_of q13, hL]
      rfl
    · have hh : headN L = 18 := by unfold headN; rw [ht]; rfl
      have h12 : a12 * 256 + a13 = 33024 := by
        have := of_decide_eq_true ht
        rw [e3] at this
        exact this
      rw [hh, show 18 - 2 = 16 from rfl, e5, by2_of q17, if_pos rfl, if_pos rfl, e4, by2_of q15, hL]
      have x1 : a12 = 129 := by omega
      have x2 : a13 = 0 := by omega
      subst x1 x2
      rfl
  unfold wBytes
  rw [key]
  exact padL_long h60
theorem wErr_par {l : List Nat} (he : errN l = 0) (hd : ofk l 6 < 281474976710656) (hs : ofk (l.drop 6) 6 < 281474976710656) : wErr (parF l) = 0 := by
  obtain ⟨h60, h1, h2⟩ := errN_ok he
  unfold wErr
  rw [if_neg (by show ¬ ¬ (ofk l 6 < 281474976710656 ∧ ofk (l.drop 6) 6 < 281474976710656); simp [hd, hs])]
  have hlen : (parF l).load.length = l.length - headN l := by show (l.drop (headN l)).length = _; simp
  rw [if_neg ?_, hlen, if_neg (by omega)]
  · show (if meetsB (num2 l (headN l - 2)) (l.length - headN l) then 0 else 4) = 0
    rw [h2]; rfl
  · show ¬ (tagB l = false ∧ ((if tagB l then num2 l 14 else 0) ≠ 0 ∨ num2 l (headN l - 2) = 33024))
    rintro ⟨ht, hh⟩
    have hn : headN l = 14 := by unfold headN; rw [ht]; rfl
    rw [hn, ht] at hh
    rcases hh with h | h
    · exact h rfl
    · have : tagB l = true := decide_eq_true h
      rw [ht] at this
      cases this
end Go.Proofs.Ythamjkccljhhcaa
