/-
  The oldest tick's place in a list, and layer 4's own few ages. No statement is proved here.
-/
import Derived.Test.YtnhooknpknkjkaaTicks
import Derived.Test.YtnhooknpknkjkaaWords
set_option linter.unusedVariables false
namespace Go.Proofs.Ytnhooknpknkjkaa
open Go.RowKit

/-- The place of the greatest of the first k, the first of several. -/
def bestI (f : Nat → Nat) : Nat → Int
  | 0 => -1
  | k + 1 => if bestI f k < 0 ∨ f (bestI f k).toNat < f k then (k : Int) else bestI f k
theorem bestI_bd (f : Nat → Nat) : ∀ k, -1 ≤ bestI f k ∧ bestI f k < k
  | 0 => by simp [bestI]
  | k + 1 => by
    have := bestI_bd f k
    rw [bestI]
    split <;> omega
theorem bestI_pos (f : Nat → Nat) : ∀ k, 0 < k → 0 ≤ bestI f k
  | 0, h => by omega
  | k + 1, _ => by
    rw [bestI]
    split
    · omega
    · rename_i h
      omega
theorem bestI_best (f : Nat → Nat) : ∀ k i, i < k → f i ≤ f (bestI f k).toNat ∧ ((i : Int) < bestI f k → f i < f (bestI f k).toNat)
  | 0, i, h => by omega
  | k + 1, i, h => by
    have hb := bestI_bd f k
    rw [bestI]
    split
    · rename_i hc
      rw [Int.toNat_natCast]
      rcases hc with hc | hc
      · have hk : k = 0 := by
          rcases Nat.eq_zero_or_pos k with h0 | h0
          · exact h0
          · have := bestI_pos f k h0; omega
        subst hk
        obtain rfl : i = 0 := by omega
        exact ⟨Nat.le_refl _, fun h => by omega⟩
      · rcases Nat.lt_or_ge i k with hi | hi
        · have := (bestI_best f k i hi).1
          exact ⟨by omega, fun _ => by omega⟩
        · obtain rfl : i = k := by omega
          exact ⟨Nat.le_refl _, fun h => by omega⟩
    · rename_i hc
      rcases Nat.lt_or_ge i k with hi | hi
      · exact bestI_best f k i hi
      · obtain rfl : i = k := by omega
        exact ⟨by omega, fun h => by omega⟩
def ageAt (now : Nat) (l : List Nat) (i : Nat) : Nat := ageN now (l.getD i 0)
def oldestN (now : Nat) (l : List Nat) (k : Nat) : Int := bestI (ageAt now l) k
theorem ageAt_lt (now : Nat) (l : List Nat) (i : Nat) : ageAt now l i < 2147483648 := ageN_lt _ _
theorem oldest_new {now : Nat} {l : List Nat} {k : Nat} (h : oldestN now l k < 0 ∨ ageAt now l (oldestN now l k).toNat < ageAt now l k) : oldestN now l (k + 1) = (k : Int) := by
  unfold oldestN at *
  rw [bestI, if_pos h]
theorem oldest_same {now : Nat} {l : List Nat} {k : Nat} (h : 0 ≤ oldestN now l k) (h2 : ¬ ageAt now l (oldestN now l k).toNat < ageAt now l k) : oldestN now l (k + 1) = oldestN now l k := by
  unfold oldestN at *
  rw [bestI, if_neg (by omega)]

set_option maxHeartbeats 1600000 in
theorem ref4_Oldest {l : List Nat} {n now : Nat} (hl : ∀ x ∈ l, x < 4294967296) (hn : now < 4294967296) {v : Value} {w : World} {B : Nat} (hv : Sl w B 1 v n (uv l)) :
    Calls Try.prog 29 #[.int .u32 (now : Int), v] w (Quiet (.int .i64 (oldestN now l n)) w) := by
  by_cases hn0 : 0 < n
  · obtain ⟨b, off, cap, rfl, hcap, hmx, hB, hlen, hcell⟩ := hv.wordAt hn0
    unfold maxLen at hmx
    have HC := Lib.hid hcell
    have HL := Lib.hid hl
    have HN := Lib.hid hn
    have HA : Hid (∀ (t : Nat) W, t < 4294967296 → Calls Try.prog 46 #[.int .u32 (now : Int), .int .u32 (t : Int)] W fun e w' => e = .returned (.int .u32 (ageN now t : Nat)) ∧ W = w') := Lib.hid fun t W ht => ref4_Age now t hn ht W
    clear hv hcell hl hlen hn
    go_enter Try.func29, Try.ntmps29
    go_wp2
    go_loopw [5, 6] (fun p i wr => ∃ k : Nat, k ≤ n ∧ i = .int .i64 k ∧ p = .int .i64 (oldestN now l k) ∧ ∃ m, wr = w.drewN m) (fun _ i _ => n - (intOf i).toNat)
    case atStart => exact ⟨0, by omega, rfl, rfl, 0, rfl⟩
    case round =>
      obtain ⟨k, hk, rfl, rfl, m, rfl⟩ := hrel
      by_cases hlt : k < n
      · have g0 : (0 : Int) ≤ (k : Int) := Int.natCast_nonneg _
        have g1 : (k : Int) < (n : Int) := by omega
        obtain ⟨p, hp⟩ : ∃ p, p = oldestN now l k := ⟨_, rfl⟩
        have hbd := bestI_bd (ageAt now l) k
        have hck := HC.out k hlt
        have hxk := word_lt HL.out k
        obtain ⟨x, hx⟩ : ∃ x, x = l.getD k 0 := ⟨_, rfl⟩
        rw [← hx] at hck hxk
        have hak : ageN now x = ageAt now l k := by rw [hx]; rfl
        change -1 ≤ oldestN now l k ∧ oldestN now l k < k at hbd
        rw [← hp] at hbd ⊢
        obtain ⟨hb1, hb2⟩ := hbd
        rcases (show p = -1 ∨ 0 ≤ p by omega) with h | h
        · subst h
          have HNEW : Hid (oldestN now l (k + 1) = (k : Int)) := oldest_new (.inl (by omega))
          clear hp hak hx hb1
          go_wp2_with fail
          go_quiet (fail)
          go_wp2
          go_roundw
          case rel => exact ⟨k + 1, by omega, by go_num, by rw [HNEW.out], _, (by first | rfl | exact World.drewN_drewN _ _ _)⟩
          case measure => simp [intOf]; omega
        · obtain ⟨j, rfl⟩ := Int.eq_ofNat_of_zero_le h
          have hjn : j < n := by omega
          have hcj := HC.out j hjn
          have hyj := word_lt HL.out j
          obtain ⟨y, hy⟩ : ∃ y, y = l.getD j 0 := ⟨_, rfl⟩
          rw [← hy] at hcj hyj
          have haj : ageN now y = ageAt now l j := by rw [hy]; rfl
          have hAk := fun W => HA.out x W hxk
          have hAj := fun W => HA.out y W hyj
          have hlk := ageAt_lt now l k
          have hlj := ageAt_lt now l j
          obtain ⟨a, ha⟩ : ∃ a, a = ageAt now l k := ⟨_, rfl⟩
          obtain ⟨c, hc⟩ : ∃ c, c = ageAt now l j := ⟨_, rfl⟩
          rw [hak, ← ha] at hAk
          rw [haj, ← hc] at hAj
          have hjp : (oldestN now l k).toNat = j := by rw [← hp]; simp
          have hdec : decide ((j : Int) < 0) = false := by simp
          by_cases hgt : c < a
          · have HNEW : Hid (oldestN now l (k + 1) = (k : Int)) := oldest_new (.inr (by rw [hjp, ← ha, ← hc]; exact hgt))
            have KK := Lib.hid hAk
            have KJ := Lib.hid hAj
            clear hp hak haj hx hy ha hc hAk hAj hjp hlk hlj hxk hyj h hb1 hb2
            go_wp2_with fail
            go_quiet (first | (go_at_call 46; with_reducible exact still1 KK.out _ _ _) | (go_at_call 46; with_reducible exact still1 KJ.out _ _ _))
            go_wp2
            go_roundw
            case rel => exact ⟨k + 1, by omega, by go_num, by rw [HNEW.out], _, (by first | rfl | exact World.drewN_drewN _ _ _)⟩
            case measure => simp [intOf]; omega
          · have HNEW : Hid (oldestN now l (k + 1) = (j : Int)) := by
              rw [oldest_same (by omega) (by rw [hjp, ← ha, ← hc]; exact hgt)]; exact hp.symm
            have KK := Lib.hid hAk
            have KJ := Lib.hid hAj
            clear hp hak haj hx hy ha hc hAk hAj hjp hlk hlj hxk hyj h hb1 hb2
            go_wp2_with fail
            go_quiet (first | (go_at_call 46; with_reducible exact still1 KK.out _ _ _) | (go_at_call 46; with_reducible exact still1 KJ.out _ _ _))
            go_wp2
            go_roundw
            case rel => exact ⟨k + 1, by omega, by go_num, by rw [HNEW.out], _, (by first | rfl | exact World.drewN_drewN _ _ _)⟩
            case measure => simp [intOf]; omega
      · have : k = n := by omega
        subst this
        go_wp2
        go_ret
        exact ⟨rfl, _, rfl⟩
  · obtain rfl : n = 0 := by omega
    obtain ⟨A, cap, rfl, hcap, hmx⟩ := hv.form
    unfold maxLen at hmx
    clear hv hn0
    go_enter Try.func29, Try.ntmps29
    go_wp2
    go_loopw [5, 6] (fun p i wr => i = .int .i64 0 ∧ p = .int .i64 (-1) ∧ ∃ m, wr = w.drewN m) (fun _ i _ => 0)
    case atStart => exact ⟨rfl, rfl, 0, rfl⟩
    case round =>
      obtain ⟨rfl, rfl, m, rfl⟩ := hrel
      go_wp2
      go_ret
      exact ⟨rfl, _, rfl⟩

end Go.Proofs.Ytnhooknpknkjkaa
