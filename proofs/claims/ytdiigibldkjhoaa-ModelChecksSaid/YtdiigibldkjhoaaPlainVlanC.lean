/-
  Sets within sets, the first ports, and which VLANs and rules may be. Nothing of the program is named here. No statement is proved here.
-/
import Derived.Test.YtdiigibldkjhoaaPlainVlanB
import Derived.Test.YtdiigibldkjhoaaPlainVl
namespace Go.Proofs.Ytdiigibldkjhoaa

/-- Is one set in another, of the first k ports? -/
def withinK (a b : Nat) : Nat → Bool
  | 0 => true
  | k + 1 => withinK a b k && !(a.testBit k && !b.testBit k)
def withinB (a b : Nat) : Bool := withinK a b 64
theorem withinK_iff (a b : Nat) : ∀ k, withinK a b k = true ↔ ∀ i, i < k → a.testBit i = true → b.testBit i = true
  | 0 => by simp [withinK]
  | k + 1 => by
    rw [withinK, Bool.and_eq_true, withinK_iff a b k]
    constructor
    · rintro ⟨h1, h2⟩ i hi ha
      rcases Nat.lt_or_ge i k with h | h
      · exact h1 i h ha
      · obtain rfl : i = k := by omega
        rw [ha] at h2
        simpa using h2
    · intro h
      refine ⟨fun i hi => h i (by omega), ?_⟩
      cases hk : a.testBit k
      · rfl
      · rw [h k (by omega) hk]; rfl
theorem withinK_no {a b k n : Nat} (hk : k < n) (ha : a.testBit k = true) (hb : b.testBit k = false) : withinK a b n = false := by
  cases h : withinK a b n
  · rfl
  · have := (withinK_iff a b n).1 h k hk ha
    rw [hb] at this
    cases this
theorem andNot_within {a b : Nat} (ha : a < 18446744073709551616) (hb : b < 18446744073709551616) : (((a &&& (18446744073709551615 - b) : Nat) : Int) != 0) = !withinB a b := by
  have e : 18446744073709551615 - b = 2 ^ 64 - (b + 1) := by omega
  have hz : (a &&& (18446744073709551615 - b) = 0) ↔ withinB a b = true := by
    unfold withinB
    rw [withinK_iff, e]
    constructor
    · intro h i hi hai
      have h2 := congrArg (fun x => x.testBit i) h
      simp only [Nat.testBit_and, Nat.zero_testBit] at h2
      rw [Nat.testBit_two_pow_sub_succ (by omega), hai] at h2
      simpa [hi] using h2
    · intro h
      apply Nat.eq_of_testBit_eq
      intro i
      rw [Nat.testBit_and, Nat.zero_testBit, Nat.testBit_two_pow_sub_succ (by omega)]
      by_cases hi : i < 64
      · cases hai : a.testBit i
        · rfl
        · rw [h i hi hai]; simp
      · have : a.testBit i = false := Nat.testBit_lt_two_pow (Nat.lt_of_lt_of_le ha (show 2 ^ 64 ≤ 2 ^ i from Nat.pow_le_pow_right (by omega) (by omega)))
        simp [this]
  generalize a &&& (18446744073709551615 - b) = x at *
  cases h : withinB a b
  · have : ¬ x = 0 := fun hx => by rw [hz.1 hx] at h; cases h
    simp; omega
  · have := hz.2 h
    subst this
    rfl
/-- The first n ports. -/
def allN (n : Int) : Nat := if 64 ≤ n then 18446744073709551615 else 2 ^ n.toNat - 1
theorem allN_lt (n : Int) : allN n < 18446744073709551616 := by
  unfold allN
  split
  · omega
  · rename_i h
    have := bit_lt (show n.toNat < 64 by omega)
    omega
theorem with_ones (k : Nat) (hk : k < 64) : withN (2 ^ k - 1) (k : Int) = 2 ^ (k + 1) - 1 := by
  have h0 := Nat.two_pow_pos k
  have h1 := bit_lt hk
  rw [withN_in _ hk, or_bit_add (by omega) hk (by rw [Nat.testBit_two_pow_sub_one]; simp), Nat.pow_succ]
  omega
/-- May a VLAN's number be? May a rule be? -/
def vidB (v : Int) : Bool := decide (1 ≤ v) && decide (v ≤ 4094)
def ruleB (p a : Int) : Bool := vidB p && (decide (0 ≤ a) && decide (a ≤ 2))
/-- What is wrong with the VLAN at i. -/
def wrongAt (l : List Vl) (ports : Int) (i : Nat) : Nat :=
  if vidB (l.getD i vl0).vid = false ∨ (0 < i ∧ (l.getD i vl0).vid ≤ (l.getD (i - 1) vl0).vid) then 6
  else if withinB (l.getD i vl0).mem (allN ports) = false then 5
  else if withinB (l.getD i vl0).unt (l.getD i vl0).mem = false then 1 else 0
/-- The first of the first k that is wrong. -/
def firstW (f : Nat → Nat) : Nat → Nat
  | 0 => 0
  | k + 1 => if firstW f k = 0 then f k else firstW f k
theorem firstW_none (f : Nat → Nat) : ∀ k, (∀ i, i < k → f i = 0) → firstW f k = 0
  | 0, _ => rfl
  | k + 1, h => by
    rw [firstW, firstW_none f k fun i hi => h i (by omega), if_pos rfl]
    exact h k (by omega)
theorem firstW_at (f : Nat → Nat) (k : Nat) (h : ∀ i, i < k → f i = 0) (hk : f k ≠ 0) : ∀ n, k < n → firstW f n = f k
  | 0, h0 => by omega
  | n + 1, h0 => by
    rw [firstW]
    rcases Nat.lt_or_ge k n with h1 | h1
    · rw [firstW_at f k h hk n h1, if_neg hk]
    · obtain rfl : k = n := by omega
      rw [firstW_none f k h, if_pos rfl]
def checkN (l : List Vl) (ports : Int) (n : Nat) : Nat := if ports < 2 ∨ 64 < ports then 5 else if 16 < n then 8 else firstW (wrongAt l ports) n
theorem check5 {l : List Vl} {ports : Int} {n : Nat} (h : ports < 2 ∨ 64 < ports) : checkN l ports n = 5 := by unfold checkN; rw [if_pos h]
theorem check8 {l : List Vl} {ports : Int} {n : Nat} (h : ¬ (ports < 2 ∨ 64 < ports)) (h2 : 16 < n) : checkN l ports n = 8 := by unfold checkN; rw [if_neg h, if_pos h2]
theorem check0 {l : List Vl} {ports : Int} {n : Nat} (h : ¬ (ports < 2 ∨ 64 < ports)) (h2 : ¬ 16 < n) (h3 : ∀ i, i < n → wrongAt l ports i = 0) : checkN l ports n = 0 := by unfold checkN; rw [if_neg h, if_neg h2]; exact firstW_none _ _ h3
theorem checkAt {l : List Vl} {ports : Int} {n k E : Nat} (h : ¬ (ports < 2 ∨ 64 < ports)) (h2 : ¬ 16 < n) (h3 : ∀ i, i < k → wrongAt l ports i = 0) (hk : k < n) (he : wrongAt l ports k = E) (hE : E ≠ 0) : checkN l ports n = E := by
  unfold checkN; rw [if_neg h, if_neg h2, firstW_at _ k h3 (by rw [he]; exact hE) n hk]; exact he
end Go.Proofs.Ytdiigibldkjhoaa
