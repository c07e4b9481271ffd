/-
  The order of Marks is one; what became of acts, one behind the other, as of a queue. No statement is proved here.
-/
import Derived.Test.YtjbdmifcdgllcaaOrd
import Derived.Test.YtjbdmifcdgllcaaPlainRg
set_option linter.unusedVariables false
namespace Go.Proofs.Ytjbdmifcdgllcaa

theorem Asc.uniq {m : Nat → Int} : ∀ {R S : List Nat}, Asc m R → Asc m S → (∀ i, i ∈ R ↔ i ∈ S) → R = S
  | [], [], _, _, _ => rfl
  | [], b :: S, _, _, h => by have := (h b).2 (by simp); simp at this
  | a :: R, [], _, _, h => by have := (h a).1 (by simp); simp at this
  | a :: R, b :: S, hR, hS, h => by
    unfold Asc at hR hS
    rw [List.pairwise_cons] at hR hS
    have hab : a = b := by
      rcases List.mem_cons.1 ((h a).1 (by simp)) with e | e
      · exact e
      · rcases List.mem_cons.1 ((h b).2 (by simp)) with e' | e'
        · exact e'.symm
        · have h1 := hR.1 b e'
          have h2 := hS.1 a e
          omega
    subst hab
    have hn1 : a ∉ R := fun e => by have := hR.1 a e; omega
    have hn2 : a ∉ S := fun e => by have := hS.1 a e; omega
    have := Asc.uniq (R := R) (S := S) hR.2 hS.2 fun i => by
      constructor
      · intro hi
        rcases List.mem_cons.1 ((h i).1 (List.mem_cons_of_mem _ hi)) with e | e
        · rw [e] at hi; exact absurd hi hn1
        · exact e
      · intro hi
        rcases List.mem_cons.1 ((h i).2 (List.mem_cons_of_mem _ hi)) with e | e
        · rw [e] at hi; exact absurd hi hn2
        · exact e
    rw [this]
theorem Asc.snoc {m : Nat → Int} {R : List Nat} {x : Nat} (h : Asc m R) (hx : ∀ a ∈ R, m a < m x) : Asc m (R ++ [x]) := by
  have := Asc.ins (x := x) (A := R) (B := []) (by rw [List.append_nil]; exact h) hx (by simp)
  exact this
/-- The numbers of others don't matter. -/
theorem Asc.congr {m m' : Nat → Int} {R : List Nat} (h : Asc m R) (hm : ∀ a ∈ R, m' a = m a) : Asc m' R := by
  unfold Asc at *
  exact h.imp_of_mem fun {a b} ha hb hab => by rw [hm a ha, hm b hb]; exact hab
/-- What became of an act: is it a Push, of which number; was it put, or taken; which. -/
structure Fate where
  puts : Bool
  v : Int
  ok : Bool
  num : Int
/-- The queue behind one more act, and whether its fate is as the queue's. -/
def qNext (n : Nat) (q : List Int) (f : Fate) : List Int := if f.puts then (if q.length < n then q ++ [f.v] else q) else q.tail
def qTold (n : Nat) (q : List Int) (f : Fate) : Prop := if f.puts then f.ok = decide (q.length < n) ∧ (f.ok = true → f.num = f.v) else f.ok = (!q.isEmpty) ∧ (f.ok = true → f.num = q.headD 0)
/-- All acts of a list, one behind the other, from a queue to a queue. -/
def Played (n : Nat) (F : Nat → Fate) : List Nat → List Int → List Int → Prop
  | [], q, q' => q' = q
  | j :: r, q, q' => qTold n q (F j) ∧ Played n F r (qNext n q (F j)) q'
theorem Played.snoc {n : Nat} {F : Nat → Fate} {j : Nat} : ∀ {R : List Nat} {q q' : List Int}, Played n F R q q' → qTold n q' (F j) → Played n F (R ++ [j]) q (qNext n q' (F j))
  | [], q, q', h, ht => by
    have h : q' = q := h
    subst h
    exact ⟨ht, rfl⟩
  | i :: r, q, q', h, ht => ⟨h.1, Played.snoc h.2 ht⟩
theorem Played.congr {n : Nat} {F F' : Nat → Fate} : ∀ {R : List Nat} {q q' : List Int}, Played n F R q q' → (∀ j ∈ R, F' j = F j) → Played n F' R q q'
  | [], q, q', h, _ => h
  | i :: r, q, q', h, hf => by
    have e := hf i (by simp)
    exact ⟨by rw [e]; exact h.1, by rw [e]; exact Played.congr h.2 fun j hj => hf j (List.mem_cons_of_mem _ hj)⟩
theorem Played.split {n : Nat} {F : Nat → Fate} {R : List Nat} {q q' : List Int} (h : Played n F R q q') : ∀ k, k ≤ R.length → ∃ qk, Played n F (R.take k) q qk ∧ Played n F (R.drop k) qk q' := by
  induction R generalizing q with
  | nil => intro k hk; exact ⟨q, by rw [List.take_nil]; rfl, by rw [List.drop_nil]; exact h⟩
  | cons i r ih =>
    intro k hk
    cases k with
    | zero => exact ⟨q, rfl, h⟩
    | succ k =>
      obtain ⟨qk, h1, h2⟩ := ih h.2 k (by simpa using hk)
      exact ⟨qk, ⟨h.1, h1⟩, h2⟩
end Go.Proofs.Ytjbdmifcdgllcaa
