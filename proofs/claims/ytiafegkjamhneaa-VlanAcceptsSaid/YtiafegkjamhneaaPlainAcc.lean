/-
  Which VLAN a frame is of by the three kinds of ports, beside one another. Nothing of the program is named here. No statement is proved here.
-/
import Derived.Test.YtiafegkjamhneaaVlanB
namespace Go.Proofs.Ytiafegkjamhneaa
open Go.RowKit

/-- By a port that takes all, one that takes tagged ones, and one that takes untagged ones. -/
theorem acc_cases (L : List Nat) (p : Int) : ∃ (a b c : Int × Nat), clsN L p 0 = a ∧ clsN L p 1 = b ∧ clsN L p 2 = c ∧
    ((a.2 ≠ 0 ∧ a.2 ≠ 7 ∧ b.2 = a.2 ∧ c.2 = a.2) ∨ (a.2 = 7 ∧ b.2 = 7 ∧ c.2 = 6) ∨ (a.2 = 0 ∧ b.2 = 6 ∧ c.2 = 0 ∧ a.1 = p ∧ c.1 = p) ∨ (a.2 = 0 ∧ b.2 = 0 ∧ c.2 = 6 ∧ b.1 = a.1)) := by
  refine ⟨_, _, _, rfl, rfl, rfl, ?_⟩
  by_cases he : errN L = 0
  · have hx : ∀ acc, clsN L p acc = clsV (parF L).dst (parF L).src ((parF L).tci % 4096) p acc := fun acc => by unfold clsN; rw [if_neg (by omega)]
    rw [hx, hx, hx]
    by_cases h4 : kindN (parF L).src = 0
    · by_cases h5 : kindN (parF L).dst = 3
      · rw [cls5 h4 h5, cls5 h4 h5, cls5 h4 h5]
        simp
      · rcases (show (parF L).tci % 4096 = 4095 ∨ (parF L).tci % 4096 = 0 ∨ ((parF L).tci % 4096 ≠ 4095 ∧ (parF L).tci % 4096 ≠ 0) by omega) with h | h | ⟨h, h'⟩
        · rw [cls7 h4 h5 (by omega) h, cls7 h4 h5 (by omega) h, cls6 h4 h5 (by omega)]
          simp
        · rw [cls0 h4 h5 (by omega) h, cls6 h4 h5 (by omega), cls0 h4 h5 (by omega) h]
          simp
        · rw [clsW h4 h5 (by omega) h' h, clsW h4 h5 (by omega) h' h, cls6 h4 h5 (by omega)]
          simp
    · rw [cls4 h4, cls4 h4, cls4 h4]
      simp
  · have hx : ∀ acc, clsN L p acc = (0, errN L - 1) := fun acc => by unfold clsN; rw [if_pos he]
    have hE : errN L ≤ 4 := by unfold errN; split <;> (try split) <;> (try split) <;> omega
    have hE2 : errN L ≠ 0 → 2 ≤ errN L := by unfold errN; split <;> (try split) <;> (try split) <;> omega
    have := hE2 he
    rw [hx, hx, hx]
    refine .inl ⟨?_, ?_, rfl, rfl⟩
    · show errN L - 1 ≠ 0
      omega
    · show errN L - 1 ≠ 7
      omega
/-- Three cells of an array, one behind the other. -/
theorem arr_set {w : World} {g k : Nat} {V : Nat → Int} (hc : ∀ j, j < 3 → w.cell? ⟨g, j, none⟩ = some (.int .i64 (if j < k then V j else 0))) (_hk : k < 3) :
    ∀ j, j < 3 → (w.setCell ⟨g, k, none⟩ (.int .i64 (V k))).cell? ⟨g, j, none⟩ = some (.int .i64 (if j < k + 1 then V j else 0)) := by
  intro j hj
  by_cases h : k = j
  · subst h
    rw [World.cell?_setCell_same _ _ _ (hc k hj), if_pos (by omega)]
  · rw [World.cell?_setCell_other _ _ _ _ (by first | (simp; done) | (simp; omega)), hc j hj]
    by_cases h2 : j < k
    · rw [if_pos h2, if_pos (by omega)]
    · rw [if_neg h2, if_neg (by omega)]
theorem arr_other {w : World} {g g' k n : Nat} {V : Nat → Int} {u : Value} (hc : ∀ j, j < 3 → w.cell? ⟨g, j, none⟩ = some (.int .i64 (if j < n then V j else 0))) (hg : g' ≠ g) :
    ∀ j, j < 3 → (w.setCell ⟨g', k, none⟩ u).cell? ⟨g, j, none⟩ = some (.int .i64 (if j < n then V j else 0)) := by
  intro j hj
  rw [World.cell?_setCell_other _ _ _ _ (by first | (simp; done) | (simp; omega))]
  exact hc j hj
end Go.Proofs.Ytiafegkjamhneaa
