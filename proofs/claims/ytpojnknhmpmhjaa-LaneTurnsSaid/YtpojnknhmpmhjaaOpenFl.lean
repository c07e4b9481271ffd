/-
  Arguments opened: structs within structs, by value and in slices, as flat rows of cells. No statement is proved here.
-/
import Derived.Test.YtpojnknhmpmhjaaOpen
namespace Go.Proofs.Ytpojnknhmpmhjaa
open Go.ChangeShapes Go.WideShapes Go.RowKit Go.Deep
section
variable {H : Type} {enc : TypeId × Value → H} {P : Program} {w : World} {base : Nat} {spare : Nat → Bool} {held : Bool}

/-- The types of a type's cells, one behind the other. -/
def leavesF (P : Program) (rec : TypeId → Option (List TypeId)) : List Field → Nat → Option (List TypeId)
  | [], _ => some []
  | f :: fs, off => if f.offset = off then
      match rec f.type with
      | some a => if P.cellsOf f.type = a.length then
          match leavesF P rec fs (off + a.length) with
          | some b => some (a ++ b)
          | none => none
        else none
      | none => none
    else none
def leaves (P : Program) : Nat → TypeId → Option (List TypeId)
  | 0, _ => none
  | n + 1, t => match P.underlying t with
    | some (.struct fs) => match leavesF P (leaves P n) fs.toList 0 with
      | some l => if P.cellsOf t = l.length then some l else none
      | none => none
    | _ => if P.cellsOf t = 1 then some [t] else none

theorem leavesF_held (rec : TypeId → Option (List TypeId))
    (hrec : ∀ t cs x fuel ts, rec t = some ts → cs.length = P.cellsOf t → DataW.trod enc P w base spare held fuel t cs = some x → ∀ (j : Nat) tj, ts[j]? = some tj → ∃ u, cs[j]? = some u ∧ Holds1 enc P w base spare held tj u) :
    ∀ (fs : List Field) (off : Nat) (ts : List TypeId) (cs : List Value), leavesF P rec fs off = some ts → off + ts.length ≤ cs.length →
      (∀ f ∈ fs, ∃ fuel x, DataW.trod enc P w base spare held fuel f.type ((cs.drop f.offset).take (P.cellsOf f.type)) = some x) →
      ∀ (j : Nat) tj, ts[j]? = some tj → ∃ u, cs[off + j]? = some u ∧ Holds1 enc P w base spare held tj u
  | [], off, ts, cs, h, _, _ => by
    intro j tj hj
    simp [leavesF] at h
    subst h
    simp at hj
  | f :: fs, off, ts, cs, h, hlen, hf => by
    intro j tj hj
    unfold leavesF at h
    split at h
    · rename_i ho
      split at h
      · rename_i a ha
        split at h
        · rename_i hc
          split at h
          · rename_i b hb
            injection h with h
            subst h
            rw [List.length_append] at hlen
            obtain ⟨fuel, x, hx⟩ := hf f (by simp)
            rw [ho] at hx
            have hcl : ((cs.drop off).take (P.cellsOf f.type)).length = P.cellsOf f.type := by
              rw [List.length_take, List.length_drop]; omega
            rcases Nat.lt_or_ge j a.length with h1 | h1
            · rw [List.getElem?_append_left h1] at hj
              obtain ⟨u, hu, hh⟩ := hrec f.type _ _ _ _ ha hcl hx j tj hj
              refine ⟨u, ?_, hh⟩
              rw [List.getElem?_take, if_pos (by omega), List.getElem?_drop] at hu
              exact hu
            · rw [List.getElem?_append_right h1] at hj
              obtain ⟨u, hu, hh⟩ := leavesF_held rec hrec fs (off + a.length) b cs hb (by omega) (fun g hg => hf g (by simp [hg])) (j - a.length) tj hj
              refine ⟨u, ?_, hh⟩
              rw [← hu]
              congr 1
              omega
          · cases h
        · cases h
      · cases h
    · cases h
theorem leaves_held : ∀ (n : Nat) (t : TypeId) (cs : List Value) (x : DataW H × List MemPlace) (fuel : Nat) (ts : List TypeId), leaves P n t = some ts → cs.length = P.cellsOf t → DataW.trod enc P w base spare held fuel t cs = some x →
    ∀ (j : Nat) tj, ts[j]? = some tj → ∃ u, cs[j]? = some u ∧ Holds1 enc P w base spare held tj u
  | 0, t, cs, x, fuel, ts, h, _, _ => by simp [leaves] at h
  | n + 1, t, cs, x, fuel, ts, h, hcs, hx => by
    intro j tj hj
    unfold leaves at h
    split at h
    · rename_i fs hs
      split at h
      · rename_i l hl
        split at h
        · rename_i hc
          injection h with h
          subst h
          obtain ⟨xs, m, _, _, hlen, hxl, hg⟩ := DataW.trod_struct hs hx
          have hf : ∀ f ∈ fs.toList, ∃ fuel x, DataW.trod enc P w base spare held fuel f.type ((cs.drop f.offset).take (P.cellsOf f.type)) = some x := by
            intro f hf
            obtain ⟨i, hi, rfl⟩ := List.getElem_of_mem hf
            have hi' : i < fs.size := by simpa using hi
            have := hg i fs[i] (Array.getElem?_eq_getElem hi')
            rw [List.getElem?_eq_getElem (show i < xs.length by omega)] at this
            exact ⟨m, _, by simpa using this⟩
          have := leavesF_held (leaves P n) (fun t cs x fuel ts a b c => leaves_held n t cs x fuel ts a b c) fs.toList 0 l cs hl (by omega) hf j tj hj
          simpa using this
        · cases h
      · cases h
    · split at h
      · rename_i hc
        injection h with h
        subst h
        rw [hc] at hcs
        match cs, hcs with
        | [u], _ =>
          match j, hj with
          | 0, hj =>
            simp at hj
            subst hj
            exact ⟨u, rfl, fuel, x, hx⟩
      · cases h
/-- A struct by value. -/
theorem open_flat {r : Reach} {b0 : Nat} {t : TypeId} {fs : Array Field} {ts : List TypeId} {v : Value} {d : DataW H} {p : List MemPlace} (hs : P.underlying t = some (.struct fs)) (hl : leaves P 8 t = some ts) (hn : P.cellsOf t = ts.length)
    (hv : Value.okWide P w r b0 t v) (h : DataW.Trod enc P w base spare held t v d p) :
    ∃ l : List Value, v = .agg l.toArray ∧ l.length = ts.length ∧ ∀ (j : Nat) tj, ts[j]? = some tj → ∃ u, l[j]? = some u ∧ Holds1 enc P w base spare held tj u := by
  obtain ⟨cs, rfl, hsz⟩ := okWide_struct hs hv
  obtain ⟨fuel, hf⟩ := h
  obtain ⟨_, _, _, _, hlen, _⟩ := DataW.trod_struct hs hf
  obtain ⟨l⟩ := cs
  have hll : l.length = P.cellsOf t := by simpa [Value.cells] using hlen
  have := leaves_held 8 t _ _ _ _ hl hlen hf
  exact ⟨l, rfl, by omega, by simpa [Value.cells] using this⟩
/-- A slice of structs. -/
theorem open_flats {r : Reach} {b0 : Nat} {t e : TypeId} {ts : List TypeId} {v : Value} {d : DataW H} {p : List MemPlace} (ht : P.underlying t = some (.slice e)) (hl : leaves P 8 e = some ts) (hC : P.cellsOf e = ts.length) (h0 : 0 < ts.length)
    (hv : Value.okWide P w r b0 t v) (h : DataW.Trod enc P w 0 (fun _ => true) held t v d p) :
    ∃ (A : Option Addr) (n cap : Nat), v = .slice A n cap ∧ n ≤ cap ∧ cap ≤ maxLen ∧ (0 < n → ∃ b off, A = some ⟨b, off, none⟩ ∧ b < w.heap.size ∧
      ∀ i, i < n → ∀ (j : Nat) tj, ts[j]? = some tj → ∃ u, w.cell? ⟨b, off + i * ts.length + j, none⟩ = some u ∧ Holds1 enc P w 0 (fun _ => true) held tj u) := by
  obtain ⟨A, n, cap, rfl⟩ := okWide_slice ht hv
  obtain ⟨fuel, hf⟩ := h
  rcases open_slice ht hf with ⟨hcs, _⟩ | ⟨a, len, c, m, k, D, Pl, hcs, _, hl1, hm, hmm, _, hi⟩
  · simp [Value.cells] at hcs
    obtain ⟨rfl, rfl, rfl⟩ := hcs
    exact ⟨none, 0, 0, rfl, Nat.le_refl _, by simp [maxLen], fun h => absurd h (by omega)⟩
  · simp [Value.cells] at hcs
    obtain ⟨rfl, rfl, rfl⟩ := hcs
    simp only [if_true] at hmm
    subst hmm
    refine ⟨some a, n, m, rfl, hl1, hm, fun hn => ?_⟩
    have hat : ∀ i, i < m → ∀ (j : Nat) tj, ts[j]? = some tj → ∃ u, w.cell? (a.add (i * ts.length + j)) = some u ∧ Holds1 enc P w 0 (fun _ => true) held tj u := by
      intro i him j tj hj
      obtain ⟨cs', hc, ht'⟩ := hi i him
      rw [hC] at hc
      obtain ⟨_, hcl, hcat⟩ := World.cells?_some hc
      obtain ⟨u, hu, hh⟩ := leaves_held 8 e _ _ _ _ hl (by omega) ht' j tj hj
      have hjl : j < ts.length := (List.getElem?_eq_some_iff.1 hj).1
      refine ⟨u, ?_, hh⟩
      rw [← Go.Deep.add_add, hcat j hjl, hu]
    obtain ⟨u0, hu0, _⟩ := hat 0 (by omega) 0 _ (List.getElem?_eq_getElem h0)
    obtain ⟨b, off, spot⟩ := a
    have hspot : spot = none := by simpa [Addr.add] using World.cell?_spot hu0
    subst hspot
    refine ⟨b, off, rfl, World.block_lt_of_cell? w _ (by simpa [Addr.add] using hu0), fun i hi2 j tj hj => ?_⟩
    obtain ⟨u, hu, hh⟩ := hat i (by omega) j tj hj
    have hadd : (⟨b, off, none⟩ : Addr).add (i * ts.length + j) = ⟨b, off + i * ts.length + j, none⟩ := by
      unfold Addr.add; split <;> simp_all [Nat.add_assoc]
    rw [hadd] at hu
    exact ⟨u, hu, hh⟩
/-- A key, an entry, by value. -/
theorem open_key {r : Reach} {b0 : Nat} {t t0 t1 : TypeId} {fs : Array Field} {v : Value} {d : DataW H} {p : List MemPlace} (hs : P.underlying t = some (.struct fs)) (hl : leaves P 8 t = some [t0, t1]) (hn : P.cellsOf t = 2) (h0 : P.underlying t0 = some (.int .i64)) (h1 : P.underlying t1 = some (.int .u64))
    (hv : Value.okWide P w r b0 t v) (h : DataW.Trod enc P w base spare held t v d p) :
    ∃ (a : Int) (m : Nat), v = .agg #[.int .i64 a, .int .u64 (m : Int)] ∧ (-9223372036854775808 ≤ a ∧ a ≤ 9223372036854775807) ∧ m < 18446744073709551616 := by
  obtain ⟨l, rfl, hlen, hf⟩ := open_flat hs hl hn hv h
  obtain ⟨u0, e0, g0⟩ := hf 0 t0 rfl
  obtain ⟨u1, e1, g1⟩ := hf 1 t1 rfl
  obtain ⟨a, rfl, ha⟩ := g0.i64 h0
  obtain ⟨m, rfl, hm⟩ := g1.u64 h1
  match l, hlen with
  | [x, y], _ =>
    simp at e0 e1
    subst e0 e1
    exact ⟨a, m, rfl, ha, hm⟩
theorem open_entry {r : Reach} {b0 : Nat} {t t0 t1 t2 t3 t4 : TypeId} {fs : Array Field} {v : Value} {d : DataW H} {p : List MemPlace} (hs : P.underlying t = some (.struct fs)) (hl : leaves P 8 t = some [t0, t1, t2, t3, t4]) (hn : P.cellsOf t = 5) (h0 : P.underlying t0 = some (.int .i64)) (h1 : P.underlying t1 = some (.int .u64)) (h2 : P.underlying t2 = some (.int .i64)) (h3 : P.underlying t3 = some .bool) (h4 : P.underlying t4 = some (.int .u32))
    (hv : Value.okWide P w r b0 t v) (h : DataW.Trod enc P w base spare held t v d p) :
    ∃ (a : Int) (m : Nat) (q : Int) (b : Bool) (s : Nat), v = .agg #[.int .i64 a, .int .u64 (m : Int), .int .i64 q, .bool b, .int .u32 (s : Int)] ∧ (-9223372036854775808 ≤ a ∧ a ≤ 9223372036854775807) ∧ m < 18446744073709551616 ∧ (-9223372036854775808 ≤ q ∧ q ≤ 9223372036854775807) ∧ s < 4294967296 := by
  obtain ⟨l, rfl, hlen, hf⟩ := open_flat hs hl hn hv h
  obtain ⟨u0, e0, g0⟩ := hf 0 t0 rfl
  obtain ⟨u1, e1, g1⟩ := hf 1 t1 rfl
  obtain ⟨u2, e2, g2⟩ := hf 2 t2 rfl
  obtain ⟨u3, e3, g3⟩ := hf 3 t3 rfl
  obtain ⟨u4, e4, g4⟩ := hf 4 t4 rfl
  obtain ⟨a, rfl, ha⟩ := g0.i64 h0
  obtain ⟨m, rfl, hm⟩ := g1.u64 h1
  obtain ⟨q, rfl, hq⟩ := g2.i64 h2
  obtain ⟨b, rfl⟩ := g3.bool h3
  obtain ⟨s, rfl, hs⟩ := g4.u32 h4
  match l, hlen with
  | [x0, x1, x2, x3, x4], _ =>
    simp at e0 e1 e2 e3 e4
    subst e0 e1 e2 e3 e4
    exact ⟨a, m, q, b, s, rfl, ha, hm, hq, hs⟩
end
end Go.Proofs.Ytpojnknhmpmhjaa
