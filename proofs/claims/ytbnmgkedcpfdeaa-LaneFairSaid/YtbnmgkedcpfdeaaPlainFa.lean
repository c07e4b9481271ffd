/-
  A ring that always has a number: how far the cursor is from it, and how often it was missed. No statement is proved here.
-/
import Derived.Test.YtbnmgkedcpfdeaaLnJ
set_option linter.unusedVariables false
namespace Go.Proofs.Ytbnmgkedcpfdeaa
open Go.RowKit

theorem WAt.below {w w' : World} {wb lo b lb g cap n c : Nat} {v : Value} {rbs : Nat → Nat} {G : Nat → RgS} {tk : Bool} (h : WAt w wb lo b lb g cap n v rbs G c tk) (hb : Below w.heap.size w w') : WAt w' wb lo b lb g cap n v rbs G c tk :=
  h.goL (h.lane.below hb) (h.rings.below hb) (D := fun _ => False) (Tch.of_below hb) fun x h => h.elim
theorem put_has {q : Nat → List Int} {i sz : Nat} {x : Int} (hz : 1 ≤ sz) : upd q i (if (q i).length < sz then q i ++ [x] else q i) i ≠ [] := by
  rw [upd_same]
  split
  · simp
  · rename_i hl
    intro e
    rw [e] at hl
    simp at hl
    omega
theorem put_keeps {q : Nat → List Int} {i k sz : Nat} {x : Int} (hk : q k ≠ []) : upd q i (if (q i).length < sz then q i ++ [x] else q i) k ≠ [] := by
  by_cases e : k = i
  · subst e
    rw [upd_same]
    split
    · simp
    · exact hk
  · rw [upd_other _ e]; exact hk
/-- The ring at k isn't passed by; what was missed and the way to it are together less than all. -/
theorem fair_step {w w' : World} {wb lo b lb g cap n : Nat} {v : Value} {rbs : Nat → Nat} {G0 : Nat → RgS} {c : Nat} {m0 : MemS} {p t : Nat → Nat} {q : Nat → List Int} {ab pb kk jj : Nat} {a' : AcS} {G' : Nat → RgS} {m' : MemS} {t' : Nat → Nat} {q' : Nat → List Int} {c' : Nat}
    (h : Taken w w' wb lo b lb g cap n v rbs G0 c m0 p t q ab pb kk jj a' G' m' t' q' c') {k D ms : Nat} (hk : k < n) (hq : q k ≠ []) (hD : D < n) (hcD : (c + D) % n = k) (hm : ms + D + 1 ≤ n) :
    a'.ok = true ∧ kk < n ∧ ((kk = k ∧ ∃ D', D' < n ∧ (c' + D') % n = k ∧ 0 + D' + 1 ≤ n) ∨ (kk ≠ k ∧ ∃ D', D' < n ∧ (c' + D') % n = k ∧ (ms + 1) + D' + 1 ≤ n)) := by
  rcases h.res with ⟨j, x, r, hj, hkk, he, hqx, ho, hx, hc, ht, hqq⟩ | ⟨_, he, _⟩
  · have hjD : j ≤ D := by
      rcases Nat.lt_or_ge D j with e | e
      · have := he D e
        rw [hcD] at this
        exact absurd this hq
      · exact e
    refine ⟨ho, by rw [hkk]; exact Nat.mod_lt _ (by omega), ?_⟩
    by_cases e : j = D
    · subst e
      refine .inl ⟨hkk.trans hcD, n - 1, by omega, ?_, by omega⟩
      rw [hc, hkk, hcD, Nat.mod_add_mod, show k + 1 + (n - 1) = k + n by omega, Nat.add_mod_right]
      exact Nat.mod_eq_of_lt hk
    · have hlt : j < D := by omega
      refine .inr ⟨?_, D - j - 1, by omega, ?_, by omega⟩
      · rw [hkk, ← hcD]
        exact mod_ne (by omega) (by omega)
      · rw [hc, hkk, Nat.mod_add_mod, show (c + j) % n + 1 + (D - j - 1) = (c + j) % n + (D - j) by omega, Nat.mod_add_mod, show c + j + (D - j) = c + D by omega]
        exact hcD
  · have := he D hD
    rw [hcD] at this
    exact absurd this hq
/-- What stands behind each round of LaneFair. -/
structure FairI (W wr : World) (wb lo b lb g cap n : Nat) (v : Value) (rbs : Nat → Nat) (k i ms : Nat) (G : Nat → RgS) (c : Nat) (m : MemS) (p t : Nat → Nat) (q : Nat → List Int) (D : Nat) : Prop where
  at_ : WAt wr wb lo b lb g cap n v rbs G c false
  que : RgsQ n G m p t q
  fl : ∀ j, j < n → (G j).sz = 6 ∧ (G j).pu = false ∧ (G j).po = false
  tm : m.t ≤ 100 + 40 * (i : Int)
  pn : ∀ j, p j ≤ 2 * i
  dn : D < n
  dk : (c + D) % n = k
  ms_ : ms + D + 1 ≤ n
  bel : Below W.heap.size W wr
  lo0 : W.heap.size ≤ lo
theorem FairI.puts {W wr w' : World} {wb lo b lb g cap n c : Nat} {v : Value} {rbs : Nat → Nat} {G G' : Nat → RgS} {m m' : MemS} {p p' t : Nat → Nat} {q : Nat → List Int} {i : Nat} {x : Int} (hd : PutDid wr wb lo b lb g cap n v rbs G c false m p t q i x w' G' m' p') (hi : i < n)
    (fl : ∀ j, j < n → (G j).sz = 6 ∧ (G j).pu = false ∧ (G j).po = false) (hb : Below W.heap.size W wr) (hlo : W.heap.size ≤ lo) : (∀ j, j < n → (G' j).sz = 6 ∧ (G' j).pu = false ∧ (G' j).po = false) ∧ Below W.heap.size W w' :=
  ⟨fun j hj => ⟨(hd.alike.sz j hj).trans (fl j hj).1, (hd.alike.pu j hj).trans (fl j hj).2.1, (hd.alike.po j hj).trans (fl j hj).2.2⟩,
    hd.tch.below hb (fun x hx => Nat.le_trans hlo (TkD.ge (.inr hd.at_) (hx.imp (fun h => h) fun h => .inl ⟨i, hi, h⟩))) hb.size⟩
end Go.Proofs.Ytbnmgkedcpfdeaa
