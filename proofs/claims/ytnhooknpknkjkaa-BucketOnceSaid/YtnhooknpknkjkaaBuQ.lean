/-
  What putting and sweeping do to places: an ordered entry stays as it is; in a full row of learned ones the oldest goes. No statement is proved here.
-/
import Derived.Test.YtnhooknpknkjkaaBuG
import Derived.Test.YtnhooknpknkjkaaBuI
import Derived.Test.YtnhooknpknkjkaaTicksB
namespace Go.Proofs.Ytnhooknpknkjkaa

theorem bestF_ok (ok : Nat → Bool) (f : Nat → Nat) : ∀ k, 0 ≤ bestF ok f k → ok (bestF ok f k).toNat = true
  | 0 => by simp [bestF]
  | k + 1 => by
    intro h
    rw [bestF] at h ⊢
    split
    · rename_i h1; simpa using h1.1
    · rename_i h1
      rw [if_neg h1] at h
      exact bestF_ok ok f k h
theorem roomF_other {f : Nat → Pl} {now n i : Nat} (hu : (f i).used = true) (hs : (f i).e.st = true) : (roomF f now n).1 ≠ (i : Int) := by
  intro h
  unfold roomF at h
  split at h
  · rename_i h1
    have h2 := firstI_holds _ n h1
    dsimp only at h
    rw [h] at h2
    simp [hu] at h2
  · split at h
    · dsimp only at h; omega
    · rename_i h1 h2
      have h3 := bestF_ok (fun i => !(f i).e.st) (fun i => ageN now (f i).e.stamp) n (by omega)
      dsimp only at h
      rw [h] at h3
      simp [hs] at h3
theorem putF_stays {f : Nat → Pl} {e : En} {now n i : Nat} (he : e.st = false) (hu : (f i).used = true) (hs : (f i).e.st = true) : (putF f e now n).1 i = f i := by
  unfold putF
  split
  · rfl
  · split
    · split
      · rfl
      · rename_i h1 h2 h3
        show updP f _ _ i = f i
        unfold updP
        rw [if_neg]
        intro hc
        exact roomF_other (now := now) (n := n) hu hs (by omega)
    · split
      · rfl
      · rename_i h1 h2 h3
        show updP f _ _ i = f i
        unfold updP
        rw [if_neg]
        intro hc
        apply h3
        unfold againE
        rw [if_pos]
        exact Or.inr ⟨by rw [← hc]; exact hs, he⟩
theorem putF_stamp {f : Nat → Pl} {e : En} {now n : Nat} (h : ∀ i, i < n → (f i).e.stamp < 4294967296) (he : e.stamp < 4294967296) : ∀ i, i < n → ((putF f e now n).1 i).e.stamp < 4294967296 := by
  intro i hi
  have hu : ∀ j, (updP f j ⟨true, e⟩ i).e.stamp < 4294967296 := by
    intro j
    unfold updP
    split
    · exact he
    · exact h i hi
  unfold putF
  split
  · exact h i hi
  · split
    · split
      · exact h i hi
      · exact hu _
    · split
      · exact h i hi
      · exact hu _
theorem sweepF_stays {f : Nat → Pl} {g : En → Bool} {i : Nat} (hs : (f i).e.st = true) : sweepF f g i = f i := by
  unfold sweepF goesF
  rw [hs]
  simp
theorem ownP_used {x : Pl} (h : x.used = true) : ownP x = x := by unfold ownP; rw [if_pos h]
/-- An ordered entry stands, whatever is learned, aged and flushed. -/
theorem keeps_all {F : Nat → Pl} {e : En} {now n i : Nat} (he : e.st = false) (hu : (F i).used = true) (hs : (F i).e.st = true) (p q : En → Bool) :
    sweepF (fun i => ownP (sweepF (fun i => ownP ((putF (fun i => ownP (F i)) e now n).1 i)) p i)) q i = F i := by
  have h0 : (fun i => ownP (F i)) i = F i := ownP_used hu
  have h1 : (putF (fun i => ownP (F i)) e now n).1 i = F i := by
    exact (putF_stays (f := fun i => ownP (F i)) he ((congrArg Pl.used h0).trans hu) ((congrArg (fun x => x.e.st) h0).trans hs)).trans h0
  have h2 : (fun i => ownP ((putF (fun i => ownP (F i)) e now n).1 i)) i = F i := by
    show ownP _ = _
    rw [h1, ownP_used hu]
  have h3 : sweepF (fun i => ownP ((putF (fun i => ownP (F i)) e now n).1 i)) p i = F i := by
    exact (sweepF_stays (f := fun i => ownP ((putF (fun i => ownP (F i)) e now n).1 i)) ((congrArg (fun x => x.e.st) h2).trans hs)).trans h2
  have h4 : (fun i => ownP (sweepF (fun i => ownP ((putF (fun i => ownP (F i)) e now n).1 i)) p i)) i = F i := by
    show ownP _ = _
    rw [h3, ownP_used hu]
  exact (sweepF_stays (f := fun i => ownP (sweepF (fun i => ownP ((putF (fun i => ownP (F i)) e now n).1 i)) p i)) ((congrArg (fun x => x.e.st) h4).trans hs)).trans h4

/-- A full row of learned entries, of the stamps S. -/
def fullF (S : Nat → Nat) (i : Nat) : Pl := ⟨true, ⟨1, 2 * i + 2, i, false, S i⟩⟩
theorem bestF_all (f : Nat → Nat) : ∀ k, bestF (fun _ => true) f k = bestI f k
  | 0 => rfl
  | k + 1 => by
    rw [bestF, bestI, bestF_all f k]
    simp
theorem bestI_congr {f g : Nat → Nat} : ∀ k, (∀ i, i < k → f i = g i) → bestI f k = bestI g k
  | 0, _ => rfl
  | k + 1, h => by
    have hb := bestI_bd g k
    rw [bestI, bestI, bestI_congr k fun i hi => h i (by omega), h k (by omega)]
    by_cases h0 : bestI g k < 0
    · simp [h0]
    · rw [h (bestI g k).toNat (by omega)]
theorem full_put {F : Nat → Pl} {S : Nat → Nat} {n m now : Nat} (hn : 0 < n) (hF : ∀ i, i < n → F i = fullF S i) (hm : rightK 9 m = true) :
    ∃ at_ : Nat, at_ < n ∧ bestI (fun i => ageN now (S i)) n = (at_ : Int) ∧
      putF (fun i => ownP (F i)) ⟨9, m, 5, false, now⟩ now n = (updP (fun i => ownP (F i)) at_ ⟨true, ⟨9, m, 5, false, now⟩⟩, 4) := by
  have hG : ∀ i, i < n → (fun i => ownP (F i)) i = fullF S i := fun i hi => by
    show ownP (F i) = _
    rw [hF i hi]; rfl
  obtain ⟨G, hGe⟩ : ∃ G, G = (fun i => ownP (F i)) := ⟨_, rfl⟩
  rw [← hGe] at hG ⊢
  have hr : rightE ⟨9, m, 5, false, now⟩ = true := rightE_iff.2 ⟨hm, show (0 : Int) ≤ 5 by decide, show (5 : Int) < 64 by decide, by simp⟩
  have hfind : findF G 9 m n < 0 := by
    unfold findF
    rw [firstI_none _ n fun i hi => by unfold keyF; rw [hG i hi]; simp [fullF]]
    decide
  have hpos := bestI_pos (fun i => ageN now (S i)) n hn
  have hbd := bestI_bd (fun i => ageN now (S i)) n
  refine ⟨(bestI (fun i => ageN now (S i)) n).toNat, by omega, by omega, ?_⟩
  have hbest : bestP G now n = bestI (fun i => ageN now (S i)) n := by
    unfold bestP
    have h1 : ∀ k, k ≤ n → bestF (okF G) (agF G now) k = bestI (fun i => ageN now (S i)) k := by
      intro k
      induction k with
      | zero => intro _; rfl
      | succ k ih =>
        intro hk
        have hk' := hG k (by omega)
        have hb := bestI_bd (fun i => ageN now (S i)) k
        rw [bestF, bestI, ih (by omega)]
        have e1 : okF G k = true := by unfold okF; rw [hk']; rfl
        have e2 : agF G now k = ageN now (S k) := by unfold agF; rw [hk']; rfl
        rw [e1, e2]
        by_cases h0 : bestI (fun i => ageN now (S i)) k < 0
        · simp [h0]
        · have e3 : agF G now (bestI (fun i => ageN now (S i)) k).toNat = ageN now (S (bestI (fun i => ageN now (S i)) k).toNat) := by
            unfold agF; rw [hG _ (by omega)]; rfl
          rw [e3]; simp
    exact h1 n (Nat.le_refl _)
  have hroom : roomF G now n = (bestI (fun i => ageN now (S i)) n, 4) := by
    rw [roomF_full fun i hi => by rw [hG i hi]; rfl, hbest, if_neg (by omega)]
  rw [putF_new (j := (bestI (fun i => ageN now (S i)) n).toNat) hr hfind (by rw [hroom]; show _ = _; dsimp only; omega), hroom]
end Go.Proofs.Ytnhooknpknkjkaa
