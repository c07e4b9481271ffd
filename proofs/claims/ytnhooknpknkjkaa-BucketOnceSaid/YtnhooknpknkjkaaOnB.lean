/-
  What stands behind each round: places, each key once, and a map of what was ordered. No statement is proved here.
-/
import Derived.Test.YtnhooknpknkjkaaOnA
import Derived.Test.YtnhooknpknkjkaaBuH
set_option linter.unusedVariables false
namespace Go.Proofs.Ytnhooknpknkjkaa
open Go.RowKit Go.Maps Go.ChangeMaps

theorem fix_rng (v : Int) (m : Nat) : rngK (fixV v) (fixM m) := by
  have h1 := fixV_lt v
  have h2 := fixM_lt m
  exact ⟨⟨by omega, by omega⟩, by omega⟩
theorem zeroI (w : World) : (zeroValue 3).run Try.prog w = .ok (.int .i64 0) w := by kernel_rfl
theorem tmod_bd (a : Int) {k : Int} (hk : 0 < k) : -k < a.tmod k ∧ a.tmod k < k := ⟨Int.lt_tmod_of_pos a hk, Int.tmod_lt_of_pos a hk⟩
theorem cntS_le (f : Nat → Pl) : ∀ k, cntS f k ≤ k
  | 0 => Nat.le_refl _
  | k + 1 => by
    have := cntS_le f k
    show cntS f k + _ ≤ k + 1
    split <;> omega
def goodE (e : En) : Prop := rngK e.vid e.mac ∧ e.stamp < 4294967296
theorem goodE_0 : goodE en0 := ⟨⟨⟨by decide, by decide⟩, by decide⟩, by decide⟩
theorem ownP_used' {p : Pl} (h : p.used = true) : ownP p = p := by unfold ownP; rw [if_pos h]
theorem ownP_free {p : Pl} (h : p.used = false) : ownP p = pl0 := by unfold ownP; rw [if_neg (by simp [h])]
theorem own_used {f : Nat → Pl} {i : Nat} (h : (ownP (f i)).used = true) : (f i).used = true ∧ ownP (f i) = f i := by
  cases hu : (f i).used with
  | true => exact ⟨rfl, ownP_used' hu⟩
  | false => rw [ownP_free hu] at h; cases h
theorem Tied.own {f : Nat → Pl} {n : Nat} {K : Int → Nat → Option Int} {c : Nat} (h : Tied f n K c) : Tied (fun i => ownP (f i)) n K c := by
  have hst : ∀ i, statI (fun i => ownP (f i)) i = statI f i := fun i => by
    cases hu : (f i).used with
    | true => unfold statI; simp only [ownP_used' hu]
    | false => unfold statI; simp only [ownP_free hu, hu]; rfl
  refine ⟨fun i j hi hj h1 h2 e1 e2 => ?_, fun i hi h1 => ?_, fun v m p hp => ?_, ?_⟩
  · obtain ⟨a1, a2⟩ := own_used h1
    obtain ⟨b1, b2⟩ := own_used h2
    simp only [a2, b2] at e1 e2
    exact h.once i j hi hj a1 b1 e1 e2
  · rw [hst] at h1
    have hu := (statI_iff.1 h1).1
    simp only [ownP_used' hu]
    exact h.tie i hi h1
  · obtain ⟨i, hi, h1, h2, h3⟩ := h.back v m p hp
    have hu := (statI_iff.1 h1).1
    exact ⟨i, hi, (hst i).trans h1, by simp only [ownP_used' hu]; exact h2, by simp only [ownP_used' hu]; exact h3⟩
  · have : ∀ k, cntS (fun i => ownP (f i)) k = cntS f k := fun k => by
      induction k with
      | zero => rfl
      | succ k ih => show cntS _ k + _ = cntS f k + _; rw [ih, hst]
    rw [this]
    exact h.cnt
theorem own_good {f : Nat → Pl} {n : Nat} (h : ∀ i, i < n → goodE (f i).e) (i : Nat) (hi : i < n) : goodE (ownP (f i)).e := by
  cases hu : (f i).used with
  | true => rw [ownP_used' hu]; exact h i hi
  | false => rw [ownP_free hu]; exact goodE_0
theorem updP_good {f : Nat → Pl} {n j : Nat} {p : Pl} (h : ∀ i, i < n → goodE (f i).e) (hp : goodE p.e) (i : Nat) (hi : i < n) : goodE (updP f j p i).e := by
  unfold updP
  split
  · exact hp
  · exact h i hi
theorem putF_good {f : Nat → Pl} {n : Nat} (h : ∀ i, i < n → goodE (f i).e) {e : En} (he : goodE e) (now : Nat) (i : Nat) (hi : i < n) : goodE ((putF f e now n).1 i).e := by
  unfold putF
  split
  · exact h i hi
  · split
    · split
      · exact h i hi
      · exact updP_good h he i hi
    · split
      · exact h i hi
      · exact updP_good h he i hi
theorem dropF_good {f : Nat → Pl} {n : Nat} (h : ∀ i, i < n → goodE (f i).e) (v : Int) (m : Nat) (i : Nat) (hi : i < n) : goodE ((dropF f v m n).1 i).e := by
  unfold dropF
  split
  · exact h i hi
  · split
    · exact updP_good h goodE_0 i hi
    · exact h i hi
/-- What stands behind each round. -/
structure BoI (W wr : World) (mb i : Nat) (y : Value) (n : Nat) (f : Nat → Pl) (D : DataW Unit) (K : Int → Nat → Option Int) (c : Nat) : Prop where
  row : RowX wr mb y n f
  map : wr.ownsMap Try.prog 25 (plainElem Try.prog 3) mb i D
  mr : MapR D K c
  tied : Tied f n K c
  good : ∀ j, j < n → goodE (f j).e
  bel : Below W.heap.size W wr
  lo : W.heap.size ≤ mb
section
variable {W wr : World} {mb i : Nat} {y : Value} {n : Nat} {f : Nat → Pl} {D : DataW Unit} {K : Int → Nat → Option Int} {c : Nat}
theorem ownsMap_below {w w' : World} {D : DataW Unit} (h : w.ownsMap Try.prog 25 (plainElem Try.prog 3) mb i D) (hb : Below w.heap.size w w') : w'.ownsMap Try.prog 25 (plainElem Try.prog 3) mb i D :=
  h.kept (row := none) ⟨hb.os, hb.tape, hb.output, hb.size, fun k hk _ => hb.block k hk⟩ (by simp)
theorem BoI.below (h : BoI W wr mb i y n f D K c) {w' : World} (hb : Below wr.heap.size wr w') : BoI W w' mb i y n f D K c :=
  ⟨h.row.below hb, ownsMap_below h.map hb, h.mr, h.tied, h.good, h.bel.trans (hb.mono h.bel.size), h.lo⟩
theorem BoI.more (h : BoI W wr mb i y n f D K c) : BoI W wr mb (i + 1) y n f D K c := ⟨h.row, h.map.mono (by omega), h.mr, h.tied, h.good, h.bel, h.lo⟩
/-- An entry was learnt, in vain ordered, or ordered and to be noted. -/
theorem BoI.learnt (h : BoI W wr mb i y n f D K c) {w' : World} {T : TypeId} {y' : Value} {f' : Nat → Pl} {B : Nat} (hn : 0 < n) (hr : RowOf w' T B y' n f') (hB : wr.heap.size ≤ B) (hb : Below wr.heap.size wr w') (ht : Tied f' n K c) (hg : ∀ j, j < n → goodE (f' j).e) : BoI W w' mb i y' n f' D K c :=
  ⟨RowX.of_row hr hn (Nat.lt_of_lt_of_le h.map.lt hB), ownsMap_below h.map hb, h.mr, ht, hg, h.bel.trans (hb.mono h.bel.size), h.lo⟩
/-- .. and it was noted. -/
theorem BoI.noted (h : BoI W wr mb i y n f D K c) {w6 w8 : World} {T : TypeId} {y' : Value} {f' : Nat → Pl} {D' : DataW Unit} {K' : Int → Nat → Option Int} {c' : Nat} {B : Nat} (hn : 0 < n) (hr : RowOf w6 T B y' n f') (hB : wr.heap.size ≤ B) (hb : Below wr.heap.size wr w6) (hg : w6.grownBy w8 (some mb)) (hm : w8.ownsMap Try.prog 25 (plainElem Try.prog 3) mb (i + 1) D') (hM : MapR D' K' c') (ht : Tied f' n K' c') (hgd : ∀ j, j < n → goodE (f' j).e) : BoI W w8 mb (i + 1) y' n f' D' K' c' := by
  have hs := hb.size
  have hl := h.lo
  have hb6 := h.bel.trans (hb.mono h.bel.size)
  exact ⟨(RowX.of_row hr hn (Nat.lt_of_lt_of_le h.map.lt hB)).kept hg, hm, hM, ht, hgd, hb6.grown hg hb6.size (fun j hj => by injection hj with hj; omega), hl⟩
end
end Go.Proofs.Ytnhooknpknkjkaa
