/-
  Places in which each key has one entry at most; the static ones, told by a table. No statement is proved here.
-/
import Derived.Test.YtnhooknpknkjkaaBuK
import Derived.Test.YtnhooknpknkjkaaBuQ
set_option linter.unusedVariables false
namespace Go.Proofs.Ytnhooknpknkjkaa
open Go.RowKit

def statI (f : Nat → Pl) (i : Nat) : Bool := (f i).used && (f i).e.st
def cntS (f : Nat → Pl) : Nat → Nat
  | 0 => 0
  | k + 1 => cntS f k + (if statI f k = true then 1 else 0)
theorem statI_iff {f : Nat → Pl} {i : Nat} : statI f i = true ↔ (f i).used = true ∧ (f i).e.st = true := by unfold statI; rw [Bool.and_eq_true]
theorem cntS_upd {f : Nat → Pl} {j : Nat} {p : Pl} : ∀ n, (j < n → cntS (updP f j p) n + (if statI f j = true then 1 else 0) = cntS f n + (if (p.used && p.e.st) = true then 1 else 0)) ∧ (n ≤ j → cntS (updP f j p) n = cntS f n)
  | 0 => ⟨fun h => absurd h (by omega), fun _ => rfl⟩
  | n + 1 => by
    obtain ⟨h1, h2⟩ := cntS_upd (f := f) (j := j) (p := p) n
    refine ⟨fun h => ?_, fun h => ?_⟩
    · show cntS (updP f j p) n + (if statI (updP f j p) n = true then 1 else 0) + _ = cntS f n + (if statI f n = true then 1 else 0) + _
      by_cases e : n = j
      · subst e
        have := h2 (Nat.le_refl _)
        have e2 : statI (updP f n p) n = (p.used && p.e.st) := by unfold statI updP; rw [if_pos rfl]
        rw [this, e2]
        omega
      · have := h1 (by omega)
        have e2 : statI (updP f j p) n = statI f n := by unfold statI updP; rw [if_neg e]
        rw [e2]
        omega
    · show cntS (updP f j p) n + (if statI (updP f j p) n = true then 1 else 0) = cntS f n + (if statI f n = true then 1 else 0)
      have e2 : statI (updP f j p) n = statI f n := by unfold statI updP; rw [if_neg (by omega)]
      rw [e2, h2 (by omega)]
theorem findF_none {f : Nat → Pl} {v : Int} {m n : Nat} (h : findF f v m n < 0) {i : Nat} (hi : i < n) (hu : (f i).used = true) : ¬ ((f i).e.vid = v ∧ (f i).e.mac = m) := by
  have := firstI_miss (keyF f v m) n h i hi
  rintro ⟨e1, e2⟩
  unfold keyF at this
  rw [hu, e1, e2] at this
  simp at this
theorem findF_lt {f : Nat → Pl} {v : Int} {m n j : Nat} (h : findF f v m n = (j : Int)) : j < n := by
  have := (firstI_bd (keyF f v m) n).2
  unfold findF at h
  omega
def putK (K : Int → Nat → Option Int) (v : Int) (m : Nat) (p : Int) (x : Int) (y : Nat) : Option Int := if x = v ∧ y = m then some p else K x y
def delK (K : Int → Nat → Option Int) (v : Int) (m : Nat) (x : Int) (y : Nat) : Option Int := if x = v ∧ y = m then none else K x y
structure Tied (f : Nat → Pl) (n : Nat) (K : Int → Nat → Option Int) (c : Nat) : Prop where
  once : ∀ i j, i < n → j < n → (f i).used = true → (f j).used = true → (f i).e.vid = (f j).e.vid → (f i).e.mac = (f j).e.mac → i = j
  tie : ∀ i, i < n → statI f i = true → K (f i).e.vid (f i).e.mac = some (f i).e.port
  back : ∀ v m p, K v m = some p → ∃ i, i < n ∧ statI f i = true ∧ (f i).e.vid = v ∧ (f i).e.mac = m
  cnt : cntS f n = c
section
variable {f : Nat → Pl} {n : Nat} {K : Int → Nat → Option Int} {c : Nat}
/-- An entry that isn't static is put where no static one is. -/
theorem Tied.soft (h : Tied f n K c) {j : Nat} (hj : j < n) {e : En} (he : e.st = false) (hk : ∀ i, i < n → i ≠ j → (f i).used = true → ¬ ((f i).e.vid = e.vid ∧ (f i).e.mac = e.mac)) (hs : statI f j = false) : Tied (updP f j ⟨true, e⟩) n K c := by
  have hst : ∀ i, statI (updP f j ⟨true, e⟩) i = true → i ≠ j ∧ statI f i = true := fun i hi => by
    by_cases e1 : i = j
    · subst e1
      unfold statI updP at hi
      rw [if_pos rfl] at hi
      simp [he] at hi
    · refine ⟨e1, ?_⟩
      unfold statI updP at hi
      rw [if_neg e1] at hi
      exact hi
  refine ⟨fun i k hi hk2 hu1 hu2 e1 e2 => ?_, fun i hi h1 => ?_, fun v m p hp => ?_, ?_⟩
  · unfold updP at hu1 hu2 e1 e2
    by_cases a : i = j <;> by_cases b : k = j
    · omega
    · rw [if_neg b] at hu2 e1 e2
      rw [if_pos a] at e1 e2
      exact absurd ⟨e1.symm, e2.symm⟩ (hk k hk2 b hu2)
    · rw [if_neg a] at hu1 e1 e2
      rw [if_pos b] at e1 e2
      exact absurd ⟨e1, e2⟩ (hk i hi a hu1)
    · rw [if_neg a] at hu1 e1 e2
      rw [if_neg b] at hu2 e1 e2
      exact h.once i k hi hk2 hu1 hu2 e1 e2
  · obtain ⟨e1, e2⟩ := hst i h1
    unfold updP
    rw [if_neg e1]
    exact h.tie i hi e2
  · obtain ⟨i, hi, h1, h2, h3⟩ := h.back v m p hp
    have e1 : i ≠ j := fun e1 => by rw [e1, hs] at h1; cases h1
    exact ⟨i, hi, by unfold statI updP; rw [if_neg e1]; exact h1, by unfold updP; rw [if_neg e1]; exact h2, by unfold updP; rw [if_neg e1]; exact h3⟩
  · have := (cntS_upd (f := f) (j := j) (p := ⟨true, e⟩) n).1 hj
    rw [hs] at this
    simp [he] at this
    rw [this]
    exact h.cnt
/-- A static entry is put; of its key there is none beside. -/
theorem Tied.hard (h : Tied f n K c) {j : Nat} (hj : j < n) {e : En} (he : e.st = true) (hk : ∀ i, i < n → i ≠ j → (f i).used = true → ¬ ((f i).e.vid = e.vid ∧ (f i).e.mac = e.mac)) (hs : statI f j = true → (f j).e.vid = e.vid ∧ (f j).e.mac = e.mac) :
    Tied (updP f j ⟨true, e⟩) n (putK K e.vid e.mac e.port) (c + if (K e.vid e.mac).isSome then 0 else 1) := by
  refine ⟨fun i k hi hk2 hu1 hu2 e1 e2 => ?_, fun i hi h1 => ?_, fun v m p hp => ?_, ?_⟩
  · unfold updP at hu1 hu2 e1 e2
    by_cases a : i = j <;> by_cases b : k = j
    · omega
    · rw [if_neg b] at hu2 e1 e2
      rw [if_pos a] at e1 e2
      exact absurd ⟨e1.symm, e2.symm⟩ (hk k hk2 b hu2)
    · rw [if_neg a] at hu1 e1 e2
      rw [if_pos b] at e1 e2
      exact absurd ⟨e1, e2⟩ (hk i hi a hu1)
    · rw [if_neg a] at hu1 e1 e2
      rw [if_neg b] at hu2 e1 e2
      exact h.once i k hi hk2 hu1 hu2 e1 e2
  · by_cases a : i = j
    · unfold updP putK
      rw [if_pos a]
      simp
    · unfold statI updP at h1
      rw [if_neg a] at h1
      have h2 := h.tie i hi h1
      have hu := (statI_iff.1 h1).1
      unfold updP putK
      rw [if_neg a, if_neg (fun x => hk i hi a hu x)]
      exact h2
  · unfold putK at hp
    by_cases a : v = e.vid ∧ m = e.mac
    · refine ⟨j, hj, ?_, ?_, ?_⟩
      · unfold statI updP; rw [if_pos rfl]; simp [he]
      · unfold updP; rw [if_pos rfl]; exact a.1.symm
      · unfold updP; rw [if_pos rfl]; exact a.2.symm
    · rw [if_neg a] at hp
      obtain ⟨i, hi, h1, h2, h3⟩ := h.back v m p hp
      have e1 : i ≠ j := fun e1 => by
        rw [e1] at h1 h2 h3
        obtain ⟨h4, h5⟩ := hs h1
        exact a ⟨h2.symm.trans h4, h3.symm.trans h5⟩
      exact ⟨i, hi, by unfold statI updP; rw [if_neg e1]; exact h1, by unfold updP; rw [if_neg e1]; exact h2, by unfold updP; rw [if_neg e1]; exact h3⟩
  · have h0 := (cntS_upd (f := f) (j := j) (p := ⟨true, e⟩) n).1 hj
    have hc := h.cnt
    simp only [he, Bool.and_self, if_true] at h0
    by_cases a : statI f j = true
    · obtain ⟨h4, h5⟩ := hs a
      have h6 := h.tie j hj a
      rw [h4, h5] at h6
      rw [h6]
      rw [if_pos a] at h0
      simp
      omega
    · have h6 : K e.vid e.mac = none := by
        cases hq : K e.vid e.mac with
        | none => rfl
        | some p =>
          obtain ⟨i, hi, h1, h2, h3⟩ := h.back _ _ _ hq
          have e1 : i ≠ j := fun e1 => a (e1 ▸ h1)
          exact absurd ⟨h2, h3⟩ (hk i hi e1 (statI_iff.1 h1).1)
      rw [h6]
      rw [if_neg a] at h0
      simp
      omega
theorem Tied.learn (h : Tied f n K c) {e : En} {now : Nat} (he : e.st = false) : Tied (putF f e now n).1 n K c := by
  cases hr : rightE e with
  | false => rw [putF_ref hr]; exact h
  | true =>
    by_cases h1 : findF f e.vid e.mac n < 0
    · by_cases h2 : (roomF f now n).1 < 0
      · rw [putF_none hr h1 h2]; exact h
      · have hb := roomF_bd f now n
        obtain ⟨j, hj⟩ : ∃ j : Nat, (roomF f now n).1 = (j : Int) := ⟨(roomF f now n).1.toNat, by omega⟩
        rw [putF_new hr h1 hj]
        refine h.soft (by omega) he (fun i hi _ hu => findF_none h1 hi hu) ?_
        cases hs : statI f j with
        | false => rfl
        | true => exact absurd hj (roomF_other (statI_iff.1 hs).1 (statI_iff.1 hs).2)
    · have hb := (firstI_bd (keyF f e.vid e.mac) n).1
      obtain ⟨j, hj⟩ : ∃ j : Nat, findF f e.vid e.mac n = (j : Int) := ⟨(findF f e.vid e.mac n).toNat, by omega⟩
      by_cases h2 : againE (f j).e e = 0
      · rw [putF_kept hr hj h2]; exact h
      · rw [putF_set hr hj h2]
        have hjn := findF_lt hj
        obtain ⟨k1, k2⟩ := findF_key hj
        refine h.soft hjn he (fun i hi hij hu ⟨e1, e2⟩ => hij (h.once i j hi hjn hu (findF_used hj) (e1.trans k1.symm) (e2.trans k2.symm))) ?_
        cases hs : statI f j with
        | false => rfl
        | true => exact absurd (by unfold againE; rw [if_pos (.inr ⟨(statI_iff.1 hs).2, he⟩)]) h2
theorem Tied.order (h : Tied f n K c) {e : En} {now : Nat} (he : e.st = true) : ((putF f e now n).2 = 5 ∧ (putF f e now n).1 = f) ∨ ((putF f e now n).2 ≠ 5 ∧ Tied (putF f e now n).1 n (putK K e.vid e.mac e.port) (c + if (K e.vid e.mac).isSome then 0 else 1)) := by
  cases hr : rightE e with
  | false => rw [putF_ref hr]; exact .inl ⟨rfl, rfl⟩
  | true =>
    by_cases h1 : findF f e.vid e.mac n < 0
    · by_cases h2 : (roomF f now n).1 < 0
      · rw [putF_none hr h1 h2]; exact .inl ⟨rfl, rfl⟩
      · have hb := roomF_bd f now n
        obtain ⟨j, hj⟩ : ∃ j : Nat, (roomF f now n).1 = (j : Int) := ⟨(roomF f now n).1.toNat, by omega⟩
        have hc := hb.2.2.2.2 (by omega)
        rw [putF_new hr h1 hj]
        refine .inr ⟨by show (roomF f now n).2 ≠ 5; omega, h.hard (by omega) he (fun i hi _ hu => findF_none h1 hi hu) (fun hs => ?_)⟩
        exact absurd hj (roomF_other (statI_iff.1 hs).1 (statI_iff.1 hs).2)
    · have hb := (firstI_bd (keyF f e.vid e.mac) n).1
      obtain ⟨j, hj⟩ : ∃ j : Nat, findF f e.vid e.mac n = (j : Int) := ⟨(findF f e.vid e.mac n).toNat, by omega⟩
      have hjn := findF_lt hj
      obtain ⟨k1, k2⟩ := findF_key hj
      have hu := findF_used hj
      by_cases h2 : againE (f j).e e = 0
      · rw [putF_kept hr hj h2]
        have hoe : (f j).e = e := by
          unfold againE at h2
          split at h2
          · rename_i h3
            rcases h3 with h3 | h3
            · exact h3
            · rw [he] at h3; cases h3.2
          · split at h2 <;> cases h2
        have hs : statI f j = true := statI_iff.2 ⟨hu, by rw [hoe]; exact he⟩
        have h3 := h.tie j hjn hs
        rw [hoe] at h3
        have hK : putK K e.vid e.mac e.port = K := by
          funext x y
          unfold putK
          split
          · rename_i h4
            rw [h4.1, h4.2, h3]
          · rfl
        refine .inr ⟨by simp, ?_⟩
        rw [hK, h3]
        exact h
      · rw [putF_set hr hj h2]
        refine .inr ⟨by have := againE_le (f j).e e; show againE (f j).e e ≠ 5; omega, h.hard hjn he (fun i hi hij hu2 ⟨e1, e2⟩ => hij (h.once i j hi hjn hu2 hu (e1.trans k1.symm) (e2.trans k2.symm))) (fun _ => ⟨k1, k2⟩)⟩
theorem Tied.drop (h : Tied f n K c) {v : Int} {m : Nat} : (dropF f v m n).2 = (K v m).isSome ∧ Tied (dropF f v m n).1 n (delK K v m) (c - if (K v m).isSome then 1 else 0) := by
  by_cases h1 : findF f v m n < 0
  · have hK : K v m = none := by
      cases hq : K v m with
      | none => rfl
      | some p =>
        obtain ⟨i, hi, h2, h3, h4⟩ := h.back _ _ _ hq
        exact absurd ⟨h3, h4⟩ (findF_none h1 hi (statI_iff.1 h2).1)
    rw [dropF_none h1, hK]
    refine ⟨rfl, ?_⟩
    rw [show delK K v m = K from by
      funext x y
      unfold delK
      split
      · rename_i e; rw [e.1, e.2, hK]
      · rfl]
    exact h
  · have hb := (firstI_bd (keyF f v m) n).1
    obtain ⟨j, hj⟩ : ∃ j : Nat, findF f v m n = (j : Int) := ⟨(findF f v m n).toNat, by unfold findF at h1 ⊢; omega⟩
    have hjn := findF_lt hj
    obtain ⟨k1, k2⟩ := findF_key hj
    have hu := findF_used hj
    cases hs : (f j).e.st with
    | false =>
      have hK : K v m = none := by
        cases hq : K v m with
        | none => rfl
        | some p =>
          obtain ⟨i, hi, h2, h3, h4⟩ := h.back _ _ _ hq
          have e := h.once i j hi hjn (statI_iff.1 h2).1 hu (h3.trans k1.symm) (h4.trans k2.symm)
          rw [e] at h2
          have := (statI_iff.1 h2).2
          rw [hs] at this
          cases this
      rw [dropF_stays hj hs, hK]
      refine ⟨rfl, ?_⟩
      rw [show delK K v m = K from by
        funext x y
        unfold delK
        split
        · rename_i e; rw [e.1, e.2, hK]
        · rfl]
      exact h
    | true =>
      have hst : statI f j = true := statI_iff.2 ⟨hu, hs⟩
      have hK := h.tie j hjn hst
      rw [k1, k2] at hK
      rw [dropF_gone hj hs, hK]
      refine ⟨rfl, ?_⟩
      show Tied (updP f j pl0) n (delK K v m) _
      have hne : ∀ i, i < n → i ≠ j → (f i).used = true → ¬ ((f i).e.vid = v ∧ (f i).e.mac = m) := fun i hi hij hu2 ⟨e1, e2⟩ => hij (h.once i j hi hjn hu2 hu (e1.trans k1.symm) (e2.trans k2.symm))
      have hpu : (updP f j pl0 j).used = false := by unfold updP; rw [if_pos rfl]; rfl
      have hoth : ∀ i, i ≠ j → updP f j pl0 i = f i := fun i hi => by unfold updP; rw [if_neg hi]
      have hus : ∀ i, (updP f j pl0 i).used = true → i ≠ j := fun i hi e => by rw [e, hpu] at hi; cases hi
      refine ⟨fun i k hi hk hu1 hu2 e1 e2 => ?_, fun i hi h2 => ?_, fun x y p hp => ?_, ?_⟩
      · have g1 := hoth i (hus i hu1)
        have g2 := hoth k (hus k hu2)
        rw [g1] at hu1 e1 e2
        rw [g2] at hu2 e1 e2
        exact h.once i k hi hk hu1 hu2 e1 e2
      · have hij := hus i (statI_iff.1 h2).1
        have h3 : statI f i = true := by unfold statI at h2 ⊢; rw [hoth i hij] at h2; exact h2
        rw [hoth i hij]
        unfold delK
        rw [if_neg (hne i hi hij (statI_iff.1 h3).1)]
        exact h.tie i hi h3
      · unfold delK at hp
        split at hp
        · cases hp
        · rename_i hxy
          obtain ⟨i, hi, h2, h3, h4⟩ := h.back x y p hp
          have hij : i ≠ j := fun e => by
            rw [e] at h3 h4
            exact hxy ⟨h3.symm.trans k1, h4.symm.trans k2⟩
          exact ⟨i, hi, by unfold statI; rw [hoth i hij]; exact h2, by rw [hoth i hij]; exact h3, by rw [hoth i hij]; exact h4⟩
      · have h0 := (cntS_upd (f := f) (j := j) (p := pl0) n).1 hjn
        have hc := h.cnt
        rw [if_pos hst] at h0
        have h5 : (pl0.used && pl0.e.st) = false := rfl
        rw [h5] at h0
        simp at h0 ⊢
        omega
theorem putF_le (e : En) (now : Nat) : (putF f e now n).2 ≤ 5 := by
  unfold putF
  split
  · exact Nat.le_refl _
  · split
    · split
      · exact Nat.le_refl _
      · exact (roomF_bd f now n).2.2.1
    · split
      · exact Nat.zero_le _
      · have := againE_le (f (findF f e.vid e.mac n).toNat).e e; omega
theorem tied_new : Tied (fun _ => pl0) n (fun _ _ => none) 0 := by
  refine ⟨fun i j _ _ h => (by cases h), fun i _ h => (by cases h), fun v m p h => (by cases h), ?_⟩
  have : ∀ k, cntS (fun _ => pl0) k = 0 := fun k => by
    induction k with
    | zero => rfl
    | succ k ih => show cntS (fun _ => pl0) k + _ = 0; rw [ih]; rfl
  exact this n
/-- Places that aren't used stand as none: so they are their own. -/
theorem Tied.congr {f' : Nat → Pl} (h : Tied f n K c) (he : ∀ i, i < n → f' i = f i) : Tied f' n K c := by
  refine ⟨fun i j hi hj => by rw [he i hi, he j hj]; exact h.once i j hi hj, fun i hi => by unfold statI; rw [he i hi]; exact h.tie i hi, fun v m p hp => ?_, ?_⟩
  · obtain ⟨i, hi, h1, h2, h3⟩ := h.back v m p hp
    exact ⟨i, hi, by unfold statI; rw [he i hi]; exact h1, by rw [he i hi]; exact h2, by rw [he i hi]; exact h3⟩
  · have : ∀ k, k ≤ n → cntS f' k = cntS f k := fun k => by
      induction k with
      | zero => intro _; rfl
      | succ k ih =>
        intro hk
        show cntS f' k + _ = cntS f k + _
        rw [ih (by omega)]
        unfold statI
        rw [he k (by omega)]
    rw [this n (Nat.le_refl _)]
    exact h.cnt
end
end Go.Proofs.Ytnhooknpknkjkaa
