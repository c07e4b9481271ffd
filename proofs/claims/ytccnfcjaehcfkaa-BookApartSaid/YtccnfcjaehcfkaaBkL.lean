/-
  What is known of a key behind its being learned; ports that may be. No statement is proved here.
-/
import Derived.Test.YtccnfcjaehcfkaaBkK
set_option linter.unusedVariables false
namespace Go.Proofs.Ytccnfcjaehcfkaa
open Go.RowKit

theorem keyF_own (f : Nat → Pl) (v : Int) (m : Nat) : keyF (fun i => ownP (f i)) v m = keyF f v m := by
  funext i
  unfold keyF
  show ((ownP (f i)).used && ((ownP (f i)).e.vid == v && (ownP (f i)).e.mac == m)) = _
  unfold ownP
  cases h : (f i).used
  · simp [pl0]
  · simp [h]
theorem findF_own (f : Nat → Pl) (v : Int) (m n : Nat) : findF (fun i => ownP (f i)) v m n = findF f v m n := by
  unfold findF
  rw [keyF_own]
theorem firstI_first (f : Nat → Bool) (n j : Nat) (h : firstI f n = (j : Int)) : j < n ∧ f j = true ∧ ∀ i, i < j → f i = false := by
  have hb := firstI_bd f n
  have h1 := firstI_holds f n (by omega)
  rw [h, Int.toNat_natCast] at h1
  refine ⟨by omega, h1, fun i hi => ?_⟩
  cases hf : f i
  · rfl
  · exfalso
    -- the first place at which f holds is no later than i
    have hle : ∀ k, i < k → firstI f k ≤ (i : Int) := by
      intro k
      induction k with
      | zero => intro h0; omega
      | succ k ih =>
        intro hik
        rw [firstI]
        rcases Nat.lt_or_ge i k with h2 | h2
        · have h3 := ih h2
          have h4 : 0 ≤ firstI f k := by
            rcases (show firstI f k < 0 ∨ 0 ≤ firstI f k by omega) with h5 | h5
            · have := firstI_miss f k h5 i h2
              rw [hf] at this
              exact absurd this (by simp)
            · exact h5
          rw [if_pos h4]
          exact h3
        · obtain rfl : i = k := by omega
          split
          · have := firstI_bd f i; omega
          · first | exact Int.le_refl _ | (rw [if_pos hf]; exact Int.le_refl _)
    have := hle n (by omega)
    omega
theorem portF_at {f : Nat → Pl} {v : Int} {m n j : Nat} (h : findF f v m n = (j : Int)) : portF f v m n = (f j).e.port := by
  unfold portF
  rw [h, if_neg (by omega), Int.toNat_natCast]
theorem portF_no {f : Nat → Pl} {v : Int} {m n : Nat} (h : findF f v m n < 0) : portF f v m n = -1 := by
  unfold portF
  rw [if_pos h]
/-- Ports of entries may be. -/
def prF (f : Nat → Pl) : Prop := ∀ j, (f j).used = true → 0 ≤ (f j).e.port
def prG (g : Nat → Nat → Pl) : Prop := ∀ i, prF (g i)
theorem prF_own {f : Nat → Pl} (h : prF f) : prF (fun j => ownP (f j)) := by
  intro j hj
  change (ownP (f j)).used = true at hj
  show 0 ≤ (ownP (f j)).e.port
  unfold ownP at hj ⊢
  split
  · rename_i hu; exact h j hu
  · show (0 : Int) ≤ 0; omega
theorem prF_upd {f : Nat → Pl} {x : Pl} (h : prF f) (hx : x.used = true → 0 ≤ x.e.port) (k : Nat) : prF (updP f k x) := by
  intro j hj
  unfold updP at hj ⊢
  split
  · rename_i h1; rw [if_pos h1] at hj; exact hx hj
  · rename_i h1; rw [if_neg h1] at hj; exact h j hj
theorem prF_put {f : Nat → Pl} {e : En} {now n : Nat} (h : prF f) : prF (putF f e now n).1 := by
  unfold putF
  split
  · exact h
  · rename_i hr
    have hre : rightE e = true := by simpa using hr
    have hp : 0 ≤ e.port := (rightE_iff.1 hre).2.1
    split
    · split
      · exact h
      · exact prF_upd h (fun _ => hp) _
    · split
      · exact h
      · exact prF_upd h (fun _ => hp) _
theorem prF_drop {f : Nat → Pl} {v : Int} {m n : Nat} (h : prF f) : prF (dropF f v m n).1 := by
  unfold dropF
  split
  · exact h
  · split
    · exact prF_upd h (fun hx => absurd hx (by decide)) _
    · exact h
theorem prF_sweep {f : Nat → Pl} {c : En → Bool} (h : prF f) : prF (sweepF f c) := by
  intro j hj
  unfold sweepF at hj ⊢
  split
  · show (0 : Int) ≤ 0; omega
  · rename_i h1; rw [if_neg h1] at hj; exact h j hj
theorem prG_upd {g : Nat → Nat → Pl} {f : Nat → Pl} (h : prG g) (hf : prF f) (k : Nat) : prG (updR g k f) := by
  intro i
  unfold updR
  split
  · exact hf
  · exact h i
theorem doG_pr (K : Nat) (v : Int) (m : Nat) (port vid : Int) (now old : Nat) (S B n : Nat) (g : Nat → Nat → Pl) (h : prG g) : prG (doG K v m port vid now old S B n g).1 := by
  unfold doG
  split
  · exact h
  · split
    · exact prG_upd h (prF_put (prF_own (h _))) _
    · split
      · exact prG_upd h (prF_drop (prF_own (h _))) _
      · split
        · split
          · exact h
          · exact prG_upd h (prF_sweep (prF_own (h _))) _
        · split
          · intro i
            show prF (flG port vid g (S * B) i)
            unfold flG
            split
            · exact prF_sweep (prF_own (h _))
            · exact h i
          · exact prG_upd h (prF_put (prF_own (h _))) _
theorem keyF_upd {f : Nat → Pl} {v : Int} {m j i : Nat} {p : Int} {now : Nat} : keyF (updP f j ⟨true, ⟨v, m, p, false, now⟩⟩) v m i = if i = j then true else keyF f v m i := by
  unfold keyF updP
  by_cases h : i = j
  · rw [if_pos h, if_pos h]; simp
  · rw [if_neg h, if_neg h]
theorem find_upd {f : Nat → Pl} {v : Int} {m n j : Nat} {p : Int} {now : Nat} (hj : j < n) (h : ∀ i, i < j → keyF f v m i = false) : findF (updP f j ⟨true, ⟨v, m, p, false, now⟩⟩) v m n = (j : Int) := by
  unfold findF
  refine firstI_at _ j (fun i hi => ?_) ?_ n hj
  · rw [keyF_upd, if_neg (by omega)]; exact h i hi
  · rw [keyF_upd, if_pos rfl]
theorem put_knows {f : Nat → Pl} {v : Int} {m : Nat} {p : Int} {now n : Nat} (hr : rightE ⟨v, m, p, false, now⟩ = true) (hport : prF f) :
    ((putF (fun i => ownP (f i)) ⟨v, m, p, false, now⟩ now n).2 = 5 ∧ portF f v m n = -1 ∧ portF (putF (fun i => ownP (f i)) ⟨v, m, p, false, now⟩ now n).1 v m n = -1) ∨
    ((putF (fun i => ownP (f i)) ⟨v, m, p, false, now⟩ now n).2 = 0 ∧ portF (putF (fun i => ownP (f i)) ⟨v, m, p, false, now⟩ now n).1 v m n = portF f v m n ∧ 0 ≤ portF f v m n) ∨
    ((putF (fun i => ownP (f i)) ⟨v, m, p, false, now⟩ now n).2 = 1 ∧ portF (putF (fun i => ownP (f i)) ⟨v, m, p, false, now⟩ now n).1 v m n = p ∧ portF f v m n = p) ∨
    ((putF (fun i => ownP (f i)) ⟨v, m, p, false, now⟩ now n).2 = 2 ∧ portF (putF (fun i => ownP (f i)) ⟨v, m, p, false, now⟩ now n).1 v m n = p ∧ 0 ≤ portF f v m n ∧ portF f v m n ≠ p) ∨
    (((putF (fun i => ownP (f i)) ⟨v, m, p, false, now⟩ now n).2 = 3 ∨ (putF (fun i => ownP (f i)) ⟨v, m, p, false, now⟩ now n).2 = 4) ∧ portF (putF (fun i => ownP (f i)) ⟨v, m, p, false, now⟩ now n).1 v m n = p ∧ portF f v m n = -1) := by
  have hF := findF_own f v m n
  obtain ⟨F, hFe⟩ : ∃ F, F = (fun i => ownP (f i)) := ⟨_, rfl⟩
  have hPF : portF F v m n = portF f v m n := by
    rw [← hFe] at hF
    rcases (show findF f v m n < 0 ∨ 0 ≤ findF f v m n by omega) with h | h
    · rw [portF_no h, portF_no (by omega)]
    · obtain ⟨j, hj⟩ := Int.eq_ofNat_of_zero_le h
      rw [portF_at hj, portF_at (hF.trans hj)]
      have hk := (firstI_first _ n j hj).2.1
      have hu : (f j).used = true := by
        unfold keyF at hk
        cases hu : (f j).used
        · rw [hu] at hk; simp at hk
        · rfl
      rw [hFe]
      show (ownP (f j)).e.port = _
      unfold ownP
      rw [if_pos hu]
  have hprF : prF F := by rw [hFe]; exact prF_own hport
  rw [← hFe, ← hPF]
  clear hPF hF hFe hport
  rcases (show findF F v m n < 0 ∨ 0 ≤ findF F v m n by omega) with h | h
  · rw [portF_no h]
    have hrb := roomF_bd F now n
    rcases (show (roomF F now n).1 < 0 ∨ 0 ≤ (roomF F now n).1 by omega) with h2 | h2
    · rw [putF_none hr h h2]
      exact .inl ⟨rfl, rfl, portF_no h⟩
    · obtain ⟨j, hj⟩ := Int.eq_ofNat_of_zero_le h2
      have hr2 := hrb.2.2.2.2 h2
      rw [putF_new hr h hj]
      have hmiss := firstI_miss _ n h
      have hf := find_upd (f := F) (v := v) (m := m) (n := n) (j := j) (p := p) (now := now) (by omega) (fun i hi => hmiss i (by omega))
      refine .inr (.inr (.inr (.inr ⟨hr2, ?_, rfl⟩)))
      rw [portF_at hf]
      unfold updP
      rw [if_pos rfl]
  · obtain ⟨j, hj⟩ := Int.eq_ofNat_of_zero_le h
    obtain ⟨hjn, hk, hlow⟩ := firstI_first _ n j hj
    have hu : (F j).used = true := by
      unfold keyF at hk
      cases hu : (F j).used
      · rw [hu] at hk; simp at hk
      · rfl
    rw [portF_at hj]
    by_cases ha : againE (F j).e ⟨v, m, p, false, now⟩ = 0
    · rw [putF_kept hr hj ha]
      exact .inr (.inl ⟨rfl, portF_at hj, hprF j hu⟩)
    · rw [putF_set hr hj ha]
      have hf := find_upd (f := F) (v := v) (m := m) (n := n) (j := j) (p := p) (now := now) hjn hlow
      have hport' : portF (updP F j ⟨true, ⟨v, m, p, false, now⟩⟩) v m n = p := by
        rw [portF_at hf]
        unfold updP
        rw [if_pos rfl]
      show (againE (F j).e ⟨v, m, p, false, now⟩ = 5 ∧ _) ∨ (againE (F j).e ⟨v, m, p, false, now⟩ = 0 ∧ _) ∨ (againE (F j).e ⟨v, m, p, false, now⟩ = 1 ∧ _) ∨ (againE (F j).e ⟨v, m, p, false, now⟩ = 2 ∧ _) ∨ _
      by_cases hp : (F j).e.port = p
      · have h1 : againE (F j).e ⟨v, m, p, false, now⟩ = 1 := by
          unfold againE at ha ⊢
          split
          · rename_i hc; rw [if_pos hc] at ha; exact absurd rfl ha
          · rw [if_pos ⟨rfl, hp⟩]
        exact .inr (.inr (.inl ⟨h1, hport', hp⟩))
      · have h2 : againE (F j).e ⟨v, m, p, false, now⟩ = 2 := by
          unfold againE at ha ⊢
          split
          · rename_i hc; rw [if_pos hc] at ha; exact absurd rfl ha
          · rw [if_neg (fun hc => hp hc.2)]
        exact .inr (.inr (.inr (.inl ⟨h2, hport', hprF j hu, hp⟩)))
end Go.Proofs.Ytccnfcjaehcfkaa
