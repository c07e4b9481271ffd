/-
  One puts, one takes: at the end, the order of the Marks, and what a queue makes of it. No statement is proved here.
-/
import Derived.Test.YtjbdmifcdgllcaaTsA
import Derived.Test.YtjbdmifcdgllcaaQue
import Derived.Test.YtjbdmifcdgllcaaOrd
set_option linter.unusedVariables false
namespace Go.Proofs.Ytjbdmifcdgllcaa
open Go.RowKit

theorem Asc.inj {m : Nat → Int} : ∀ {R : List Nat}, Asc m R → ∀ {i j : Nat}, i ∈ R → j ∈ R → m i = m j → i = j
  | [], _, _, _, hi, _, _ => by simp at hi
  | a :: R, h, i, j, hi, hj, e => by
    unfold Asc at h
    rw [List.pairwise_cons] at h
    rcases List.mem_cons.1 hi with e1 | e1 <;> rcases List.mem_cons.1 hj with e2 | e2
    · rw [e1, e2]
    · subst e1; have := h.1 j e2; omega
    · subst e2; have := h.1 i e1; omega
    · exact Asc.inj (R := R) h.2 e1 e2 e
theorem keepT {w w' : World} {nw qb : Nat} {v0 v1 v2 : Value} (h : w.cell? ⟨nw, 0, none⟩ = some v0 ∧ w.cell? ⟨nw, 1, none⟩ = some v1 ∧ w.cell? ⟨qb, 1, none⟩ = some v2) (hk : ∀ p : Addr, p.block = nw ∨ p.block = qb → w'.cell? p = w.cell? p) :
    w'.cell? ⟨nw, 0, none⟩ = some v0 ∧ w'.cell? ⟨nw, 1, none⟩ = some v1 ∧ w'.cell? ⟨qb, 1, none⟩ = some v2 :=
  ⟨(hk _ (.inl rfl)).trans h.1, (hk _ (.inl rfl)).trans h.2.1, (hk _ (.inr rfl)).trans h.2.2⟩
theorem kvf_kv (f : Nat → Int) (n : Nat) : kvf f n = kv .i64 ((List.range n).map f) := by simp [kvf, kv]
theorem kvf_snoc (f : Nat → Int) (n : Nat) : kvf f (n + 1) = kvf f n ++ [.int .i64 (f n)] := by simp [kvf, List.range_succ]
theorem getD_range (f : Nat → Int) {n i : Nat} (h : i < n) : ((List.range n).map f).getD i 0 = f i := by simp [List.getD, h]
section
variable {n : Nat} {l : List Int} {N : Nat} {ac : Nat → AcS} {pt fr : Nat → Int} {g : RgS} {p t : Nat} {q : List Int} {at_ : Nat} {nwf stf : Nat → Int} {R : List Nat}
/-- What has a Mark is over. -/
theorem TurnP.still (h : TurnP n l N ac pt fr g p t q at_ nwf stf R) {i : Nat} (hi : i ∈ R) : (ac i).stage = 0 := by
  obtain ⟨hiN, hpos⟩ := (h.mem i).1 hi
  have hn : ∀ z, z < 2 → (i : Int) ≠ nwf z := fun z hz e => by
    rcases h.way z hz with ⟨w1, _⟩ | ⟨i', w1, w2, w3, w4, _⟩
    · omega
    · have e' : i' = i := by omega
      subst e'
      have hm : (ac i').mark = 0 := by
        unfold WayR at w4
        split at w4
        · exact w4.2.2.2.1
        · exact w4.2.2.2.1
      omega
  exact (h.over i hiN (hn 0 (by omega)) (hn 1 (by omega))).1
/-- The order of the Marks. -/
theorem TurnP.order (h : TurnP n l N ac pt fr g p t q at_ nwf stf R) (hN : N ≤ 100000) {w : World} {v : Value} {B : Nat} (ho : w.ownsRow B 3 1 v N (kvf (fun i => (ac i).mark) N)) :
    Calls Try.prog 29 #[v] w fun e w' => ∃ u, e = .returned (.tuple #[u, .bool true]) ∧ w'.ownsRow w.heap.size 3 1 u R.length (kv .i64 (R.map (fun (i : Nat) => (i : Int)))) ∧ Below w.heap.size w w' := by
  rw [kvf_kv] at ho
  obtain ⟨mkf, hmkf⟩ : ∃ f, f = fun i => (ac i).mark := ⟨_, rfl⟩
  rw [← hmkf] at ho
  have hm : ∀ i, mkf i = (ac i).mark := fun i => by rw [hmkf]
  have hl : ((List.range N).map mkf).length = N := by simp
  have hs : Sl w w.heap.size 1 v ((List.range N).map mkf).length (kv .i64 ((List.range N).map mkf)) := by rw [hl]; exact Sl.of_own ho
  refine (ref12_Order (w := w) (v := v) (B := w.heap.size) (mk := (List.range N).map mkf) hs (Nat.le_refl _) (by rw [hl]; exact hN) (fun i j hi hj h0 he => ?_)).mono ?_
  · rw [hl] at hi hj
    rw [getD_range _ hi] at h0 he
    rw [getD_range _ hj] at he
    exact h.asc.inj ((h.mem i).2 ⟨hi, by rw [← hm]; exact h0⟩) ((h.mem j).2 ⟨hj, by rw [← hm, ← he]; exact h0⟩) (by rw [← hm, ← hm]; exact he)
  · rintro e w' ⟨u, R', rfl, ho', ha', hm', hb'⟩
    have hR : R = R' := Asc.uniq h.asc (ha'.congr (m' := fun i => (ac i).mark) (fun a ha => by
      have := ((hm' a).1 ha).1
      rw [hl] at this
      rw [getD_range _ this, hm])) (fun i => by
      rw [h.mem i, hm' i, hl]
      constructor
      · rintro ⟨h1, h2⟩; exact ⟨h1, by rw [getD_range _ h1, hm]; exact h2⟩
      · rintro ⟨h1, h2⟩; rw [getD_range _ h1, hm] at h2; exact ⟨h1, h2⟩)
    subst hR
    exact ⟨u, rfl, ho', hb'⟩
/-- The next one, in the order of Marks. -/
theorem TurnP.next (h : TurnP n l N ac pt fr g p t q at_ nwf stf R) {k : Nat} {qk : List Int} (hp : Played n (fateR l ac pt) (R.drop k) qk q) (hk : k < R.length) :
    ∃ i, R[k]? = some i ∧ i < N ∧ (ac i).stage = 0 ∧
      ((∃ x : Nat, pt i = (x : Int) ∧ x < l.length ∧ (ac i).ok = decide (qk.length < n) ∧ ((ac i).ok = true → (ac i).num = l.getD x 0) ∧ Played n (fateR l ac pt) (R.drop (k + 1)) (if qk.length < n then qk ++ [l.getD x 0] else qk) q) ∨
       (pt i = -1 ∧ (ac i).ok = (!qk.isEmpty) ∧ (if (ac i).ok = true then (ac i).num else 0) = qk.headD 0 ∧ Played n (fateR l ac pt) (R.drop (k + 1)) qk.tail q)) := by
  have hi : R[k]'hk ∈ R := List.getElem_mem hk
  refine ⟨R[k]'hk, List.getElem?_eq_getElem hk, ((h.mem _).1 hi).1, h.still hi, ?_⟩
  rw [List.drop_eq_getElem_cons hk] at hp
  obtain ⟨ht, hpp⟩ := hp
  generalize R[k]'hk = i at *
  have hiN := ((h.mem i).1 hi).1
  rcases h.ptn i hiN with e | ⟨e1, e2⟩
  · right
    have e0 : decide (0 ≤ pt i) = false := decide_eq_false (by omega)
    unfold qTold fateR at ht
    simp only [e0, Bool.false_eq_true, if_false] at ht
    unfold qNext at hpp
    have e0' : (fateR l ac pt i).puts = false := e0
    rw [e0', if_neg (by simp)] at hpp
    refine ⟨e, ht.1, ?_, hpp⟩
    cases hq : qk with
    | nil =>
      have : (ac i).ok = false := by rw [ht.1, hq]; rfl
      rw [this]; rfl
    | cons a r =>
      have : (ac i).ok = true := by rw [ht.1, hq]; rfl
      rw [if_pos this, ht.2 this, hq]
  · left
    obtain ⟨x, hx⟩ : ∃ x : Nat, pt i = (x : Int) := ⟨(pt i).toNat, by omega⟩
    have e0 : decide (0 ≤ pt i) = true := decide_eq_true e1
    unfold qTold fateR at ht
    simp only [e0, if_true] at ht
    have e0' : (fateR l ac pt i).puts = true := e0
    unfold qNext at hpp
    rw [e0', if_pos rfl] at hpp
    have hxl : x < l.length := by have := h.atl; omega
    have ev : (fateR l ac pt i).v = l.getD x 0 := by
      show l.getD (pt i).toNat 0 = _
      rw [hx, Int.toNat_natCast]
    rw [ev] at hpp
    rw [hx, Int.toNat_natCast] at ht
    exact ⟨x, hx, hxl, ht.1, ht.2, hpp⟩
end
end Go.Proofs.Ytjbdmifcdgllcaa
