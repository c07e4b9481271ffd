/-
  What is written is parsed again, but for noughts behind. Nothing of the program is named here. No statement is proved here.
-/
import Derived.Test.YthamjkccljhhcaaPlain
import Derived.Test.YthamjkccljhhcaaPlainFrame
namespace Go.Proofs.Ythamjkccljhhcaa

/-- How many noughts. -/
def padM (f : Fr) : Nat := 60 - ((if f.tagged then 18 else 14) + f.load.length)
def tagL (f : Fr) : List Nat := if f.tagged then [129, 0] ++ by2 f.tci else []
theorem wBytes_eq (f : Fr) : wBytes f = mb f.dst ++ mb f.src ++ tagL f ++ by2 f.typ ++ (f.load ++ List.replicate (padM f) 0) := by
  have hlen : (mb f.dst ++ mb f.src ++ tagL f ++ by2 f.typ ++ f.load).length = (if f.tagged then 18 else 14) + f.load.length := by
    unfold tagL mb by2
    cases f.tagged <;> simp <;> omega
  show padL (mb f.dst ++ mb f.src ++ tagL f ++ by2 f.typ ++ f.load) = _
  unfold padL
  rw [hlen]
  show _ ++ List.replicate (padM f) 0 = _
  rw [List.append_assoc]
theorem ofk_mb {d : Nat} (hd : d < 281474976710656) : (((((0 * 256 + d / 1099511627776 % 256) * 256 + d / 4294967296 % 256) * 256 + d / 16777216 % 256) * 256 + d / 65536 % 256) * 256 + d / 256 % 256) * 256 + d % 256 = d := by omega
theorem werr_ok {f : Fr} (h : wErr f = 0) : (f.dst < 281474976710656 ∧ f.src < 281474976710656) ∧ (f.tagged = false → f.tci = 0 ∧ f.typ ≠ 33024) ∧ f.load.length ≤ 1500 ∧ meetsB f.typ f.load.length = true := by
  unfold wErr at h
  split at h
  · omega
  rename_i h1
  split at h
  · omega
  rename_i h2
  split at h
  · omega
  rename_i h3
  split at h
  · rename_i h4
    refine ⟨Decidable.not_not.1 h1, fun ht => ?_, by omega, h4⟩
    constructor
    · by_cases hc : f.tci = 0
      · exact hc
      · exact absurd ⟨ht, Or.inl hc⟩ h2
    · intro hy
      exact absurd ⟨ht, Or.inr hy⟩ h2
  · omega
theorem meets_more {y n m : Nat} (h : meetsB y n = true) (hnm : n ≤ m) : meetsB y m = true := by
  unfold meetsB at h ⊢
  have := of_decide_eq_true h
  exact decide_eq_true (by omega)
theorem read_back {f : Fr} (he : wErr f = 0) (hc : f.tci < 65536) (hy : f.typ < 65536) :
    errN (wBytes f) = 0 ∧ parF (wBytes f) = ⟨f.dst, f.src, f.tagged, f.tci, f.typ, f.load ++ List.replicate (padM f) 0⟩ := by
  obtain ⟨⟨hd, hs⟩, ht, hl, hm⟩ := werr_ok he
  rw [wBytes_eq]
  obtain ⟨d, s, t, c, y, l⟩ := f
  simp only at hd hs ht hl hm hc hy
  have hml : (l ++ List.replicate (padM ⟨d, s, t, c, y, l⟩) 0).length = l.length + padM ⟨d, s, t, c, y, l⟩ := by simp
  have hpm : padM ⟨d, s, t, c, y, l⟩ = 60 - ((if t then 18 else 14) + l.length) := rfl
  obtain ⟨r, hr⟩ : ∃ r, r = l ++ List.replicate (padM ⟨d, s, t, c, y, l⟩) 0 := ⟨_, rfl⟩
  obtain ⟨m, hmm⟩ : ∃ m, m = padM ⟨d, s, t, c, y, l⟩ := ⟨_, rfl⟩
  rw [← hr] at hml ⊢
  rw [← hmm] at hml hpm
  simp only
  cases t
  · obtain ⟨rfl, hy2⟩ := ht rfl
    obtain ⟨L, hL⟩ : ∃ L, L = mb d ++ mb s ++ tagL ⟨d, s, false, 0, y, l⟩ ++ by2 y ++ r := ⟨_, rfl⟩
    have k12 : num2 L 12 = y := by
      rw [hL]
      show y / 256 * 256 + y % 256 = y
      omega
    have htag : tagB L = false := by
      unfold tagB; rw [k12]; exact decide_eq_false hy2
    have hh : headN L = 14 := by unfold headN; rw [htag]; rfl
    have hdrop : L.drop 14 = r := by rw [hL]; rfl
    have hlen : L.length = 14 + (l.length + m) := by
      rw [hL, ← hml]
      simp [mb, by2, tagL]
      omega
    have e1 : ofk L 6 = d := by rw [hL]; exact ofk_mb hd
    have e2 : ofk (L.drop 6) 6 = s := by rw [hL]; exact ofk_mb hs
    rw [← hL]
    refine ⟨?_, ?_⟩
    · unfold errN
      rw [hh, hlen, if_neg (by simp at hpm; omega), if_neg (by simp at hpm; omega), show 14 - 2 = 12 from rfl, k12, meets_more hm (by omega)]
      rfl
    · unfold parF
      rw [hh, htag, hdrop, e1, e2, show 14 - 2 = 12 from rfl, k12]
      rfl
  · obtain ⟨L, hL⟩ : ∃ L, L = mb d ++ mb s ++ tagL ⟨d, s, true, c, y, l⟩ ++ by2 y ++ r := ⟨_, rfl⟩
    have k12 : num2 L 12 = 33024 := by
      rw [hL]
      show 129 * 256 + 0 = 33024
      omega
    have k14 : num2 L 14 = c := by
      rw [hL]
      show c / 256 * 256 + c % 256 = c
      omega
    have k16 : num2 L 16 = y := by
      rw [hL]
      show y / 256 * 256 + y % 256 = y
      omega
    have htag : tagB L = true := by
      unfold tagB; rw [k12]; rfl
    have hh : headN L = 18 := by unfold headN; rw [htag]; rfl
    have hdrop : L.drop 18 = r := by rw [hL]; rfl
    have hlen : L.length = 18 + (l.length + m) := by
      rw [hL, ← hml]
      simp [mb, by2, tagL]
      omega
    have e1 : ofk L 6 = d := by rw [hL]; exact ofk_mb hd
    have e2 : ofk (L.drop 6) 6 = s := by rw [hL]; exact ofk_mb hs
    rw [← hL]
    refine ⟨?_, ?_⟩
    · unfold errN
      rw [hh, hlen, if_neg (by simp at hpm; omega), if_neg (by simp at hpm; omega), show 18 - 2 = 16 from rfl, k16, meets_more hm (by omega)]
      rfl
    · unfold parF
      rw [hh, htag, hdrop, e1, e2, show 18 - 2 = 16 from rfl, k16, k14]
      rfl
theorem wBytes_lt {f : Fr} (hc : f.tci < 65536) (hy : f.typ < 65536) (hl : ∀ x ∈ f.load, x < 256) : ∀ x ∈ wBytes f, x < 256 := by
  intro x hx
  rw [wBytes_eq] at hx
  unfold tagL by2 at hx
  simp only [List.mem_append] at hx
  rcases hx with ((((hx | hx) | hx) | hx) | hx | hx)
  · exact mb_lt _ x hx
  · exact mb_lt _ x hx
  · split at hx
    · simp at hx; omega
    · simp at hx
  · simp at hx; omega
  · exact hl x hx
  · have := List.eq_of_mem_replicate hx; omega
end Go.Proofs.Ythamjkccljhhcaa
