/-
  Several texts in one: OpenFl, OpenVl, OpenPn, PlainPt, PtA, PtB, MoN, MoX, MoY, VlanI, MoC. No statement is proved here.
-/
import Derived.Test.YtdiigibldkjhoaaOpen
import Derived.Test.YtdiigibldkjhoaaPlainVl
import Derived.Test.YtdiigibldkjhoaaMoB
import Derived.Test.YtdiigibldkjhoaaPlainKy
import Derived.Test.YtdiigibldkjhoaaKit2
import Derived.StillTailTactics
import Derived.Test.YtdiigibldkjhoaaBase2
import Derived.Lib.Hide
import Derived.Test.YtdiigibldkjhoaaMoW
import Derived.Test.YtdiigibldkjhoaaVlanA
import Derived.Test.YtdiigibldkjhoaaVlanD
import Derived.Test.YtdiigibldkjhoaaMoF
import Derived.Test.YtdiigibldkjhoaaVlanH
import Derived.Test.YtdiigibldkjhoaaMoS
set_option linter.unusedVariables false
namespace Go.Proofs.Ytdiigibldkjhoaa
section
open Go.ChangeShapes Go.WideShapes Go.RowKit Go.Deep
section
variable {H : Type} {enc : TypeId × Value → H} {P : Program} {w : World} {base : Nat} {spare : Nat → Bool} {held : Bool}

/-- The types of a type's cells, one behind the other. -/
def leavesF (P : Program) (rec : TypeId → Option (List TypeId)) : List Field → Nat → Option (List TypeId)
  | [], _ => some []
  | f :: fs, off => if f.offset = off then
      match rec f.type with
      | some a => if P.cellsOf f.type = a.length then
          match leavesF P rec fs (off + a.length) with
          | some b => some (a ++ b)
          | none => none
        else none
      | none => none
    else none
def leaves (P : Program) : Nat → TypeId → Option (List TypeId)
  | 0, _ => none
  | n + 1, t => match P.underlying t with
    | some (.struct fs) => match leavesF P (leaves P n) fs.toList 0 with
      | some l => if P.cellsOf t = l.length then some l else none
      | none => none
    | _ => if P.cellsOf t = 1 then some [t] else none

theorem leavesF_held (rec : TypeId → Option (List TypeId))
    (hrec : ∀ t cs x fuel ts, rec t = some ts → cs.length = P.cellsOf t → DataW.trod enc P w base spare held fuel t cs = some x → ∀ (j : Nat) tj, ts[j]? = some tj → ∃ u, cs[j]? = some u ∧ Holds1 enc P w base spare held tj u) :
    ∀ (fs : List Field) (off : Nat) (ts : List TypeId) (cs : List Value), leavesF P rec fs off = some ts → off + ts.length ≤ cs.length →
      (∀ f ∈ fs, ∃ fuel x, DataW.trod enc P w base spare held fuel f.type ((cs.drop f.offset).take (P.cellsOf f.type)) = some x) →
      ∀ (j : Nat) tj, ts[j]? = some tj → ∃ u, cs[off + j]? = some u ∧ Holds1 enc P w base spare held tj u
  | [], off, ts, cs, h, _, _ => by
    intro j tj hj
    simp [leavesF] at h
    subst h
    simp at hj
  | f :: fs, off, ts, cs, h, hlen, hf => by
    intro j tj hj
    unfold leavesF at h
    split at h
    · rename_i ho
      split at h
      · rename_i a ha
        split at h
        · rename_i hc
          split at h
          · rename_i b hb
            injection h with h
            subst h
            rw [List.length_append] at hlen
            obtain ⟨fuel, x, hx⟩ := hf f (by simp)
            rw [ho] at hx
            have hcl : ((cs.drop off).take (P.cellsOf f.type)).length = P.cellsOf f.type := by
              rw [List.length_take, List.length_drop]; omega
            rcases Nat.lt_or_ge j a.length with h1 | h1
            · rw [List.getElem?_append_left h1] at hj
              obtain ⟨u, hu, hh⟩ := hrec f.type _ _ _ _ ha hcl hx j tj hj
              refine ⟨u, ?_, hh⟩
              rw [List.getElem?_take, if_pos (by omega), List.getElem?_drop] at hu
              exact hu
            · rw [List.getElem?_append_right h1] at hj
              obtain ⟨u, hu, hh⟩ := leavesF_held rec hrec fs (off + a.length) b cs hb (by omega) (fun g hg => hf g (by simp [hg])) (j - a.length) tj hj
              refine ⟨u, ?_, hh⟩
              rw [← hu]
              congr 1
              omega
          · cases h
        · cases h
      · cases h
    · cases h
theorem leaves_held : ∀ (n : Nat) (t : TypeId) (cs : List Value) (x : DataW H × List MemPlace) (fuel : Nat) (ts : List TypeId), leaves P n t = some ts → cs.length = P.cellsOf t → DataW.trod enc P w base spare held fuel t cs = some x →
    ∀ (j : Nat) tj, ts[j]? = some tj → ∃ u, cs[j]? = some u ∧ Holds1 enc P w base spare held tj u
  | 0, t, cs, x, fuel, ts, h, _, _ => by simp [leaves] at h
  | n + 1, t, cs, x, fuel, ts, h, hcs, hx => by
    intro j tj hj
    unfold leaves at h
    split at h
    · rename_i fs hs
      split at h
      · rename_i l hl
        split at h
        · rename_i hc
          injection h with h
          subst h
          obtain ⟨xs, m, _, _, hlen, hxl, hg⟩ := DataW.trod_struct hs hx
          have hf : ∀ f ∈ fs.toList, ∃ fuel x, DataW.trod enc P w base spare held fuel f.type ((cs.drop f.offset).take (P.cellsOf f.type)) = some x := by
            intro f hf
            obtain ⟨i, hi, rfl⟩ := List.getElem_of_mem hf
            have hi' : i < fs.size := by simpa using hi
            have := hg i fs[i] (Array.getElem?_eq_getElem hi')
            rw [List.getElem?_eq_getElem (show i < xs.length by omega)] at this
            exact ⟨m, _, by simpa using this⟩
          have := leavesF_held (leaves P n) (fun t cs x fuel ts a b c => leaves_held n t cs x fuel ts a b c) fs.toList 0 l cs hl (by omega) hf j tj hj
          simpa using this
        · cases h
      · cases h
    · split at h
      · rename_i hc
        injection h with h
        subst h
        rw [hc] at hcs
        match cs, hcs with
        | [u], _ =>
          match j, hj with
          | 0, hj =>
            simp at hj
            subst hj
            exact ⟨u, rfl, fuel, x, hx⟩
      · cases h
/-- A struct by value. -/
theorem open_flat {r : Reach} {b0 : Nat} {t : TypeId} {fs : Array Field} {ts : List TypeId} {v : Value} {d : DataW H} {p : List MemPlace} (hs : P.underlying t = some (.struct fs)) (hl : leaves P 8 t = some ts) (hn : P.cellsOf t = ts.length)
    (hv : Value.okWide P w r b0 t v) (h : DataW.Trod enc P w base spare held t v d p) :
    ∃ l : List Value, v = .agg l.toArray ∧ l.length = ts.length ∧ ∀ (j : Nat) tj, ts[j]? = some tj → ∃ u, l[j]? = some u ∧ Holds1 enc P w base spare held tj u := by
  obtain ⟨cs, rfl, hsz⟩ := okWide_struct hs hv
  obtain ⟨fuel, hf⟩ := h
  obtain ⟨_, _, _, _, hlen, _⟩ := DataW.trod_struct hs hf
  obtain ⟨l⟩ := cs
  have hll : l.length = P.cellsOf t := by simpa [Value.cells] using hlen
  have := leaves_held 8 t _ _ _ _ hl hlen hf
  exact ⟨l, rfl, by omega, by simpa [Value.cells] using this⟩
/-- A slice of structs. -/
theorem open_flats {r : Reach} {b0 : Nat} {t e : TypeId} {ts : List TypeId} {v : Value} {d : DataW H} {p : List MemPlace} (ht : P.underlying t = some (.slice e)) (hl : leaves P 8 e = some ts) (hC : P.cellsOf e = ts.length) (h0 : 0 < ts.length)
    (hv : Value.okWide P w r b0 t v) (h : DataW.Trod enc P w 0 (fun _ => true) held t v d p) :
    ∃ (A : Option Addr) (n cap : Nat), v = .slice A n cap ∧ n ≤ cap ∧ cap ≤ maxLen ∧ (0 < n → ∃ b off, A = some ⟨b, off, none⟩ ∧ b < w.heap.size ∧
      ∀ i, i < n → ∀ (j : Nat) tj, ts[j]? = some tj → ∃ u, w.cell? ⟨b, off + i * ts.length + j, none⟩ = some u ∧ Holds1 enc P w 0 (fun _ => true) held tj u) := by
  obtain ⟨A, n, cap, rfl⟩ := okWide_slice ht hv
  obtain ⟨fuel, hf⟩ := h
  rcases open_slice ht hf with ⟨hcs, _⟩ | ⟨a, len, c, m, k, D, Pl, hcs, _, hl1, hm, hmm, _, hi⟩
  · simp [Value.cells] at hcs
    obtain ⟨rfl, rfl, rfl⟩ := hcs
    exact ⟨none, 0, 0, rfl, Nat.le_refl _, by simp [maxLen], fun h => absurd h (by omega)⟩
  · simp [Value.cells] at hcs
    obtain ⟨rfl, rfl, rfl⟩ := hcs
    simp only [if_true] at hmm
    subst hmm
    refine ⟨some a, n, m, rfl, hl1, hm, fun hn => ?_⟩
    have hat : ∀ i, i < m → ∀ (j : Nat) tj, ts[j]? = some tj → ∃ u, w.cell? (a.add (i * ts.length + j)) = some u ∧ Holds1 enc P w 0 (fun _ => true) held tj u := by
      intro i him j tj hj
      obtain ⟨cs', hc, ht'⟩ := hi i him
      rw [hC] at hc
      obtain ⟨_, hcl, hcat⟩ := World.cells?_some hc
      obtain ⟨u, hu, hh⟩ := leaves_held 8 e _ _ _ _ hl (by omega) ht' j tj hj
      have hjl : j < ts.length := (List.getElem?_eq_some_iff.1 hj).1
      refine ⟨u, ?_, hh⟩
      rw [← Go.Deep.add_add, hcat j hjl, hu]
    obtain ⟨u0, hu0, _⟩ := hat 0 (by omega) 0 _ (List.getElem?_eq_getElem h0)
    obtain ⟨b, off, spot⟩ := a
    have hspot : spot = none := by simpa [Addr.add] using World.cell?_spot hu0
    subst hspot
    refine ⟨b, off, rfl, World.block_lt_of_cell? w _ (by simpa [Addr.add] using hu0), fun i hi2 j tj hj => ?_⟩
    obtain ⟨u, hu, hh⟩ := hat i (by omega) j tj hj
    have hadd : (⟨b, off, none⟩ : Addr).add (i * ts.length + j) = ⟨b, off + i * ts.length + j, none⟩ := by
      unfold Addr.add; split <;> simp_all [Nat.add_assoc]
    rw [hadd] at hu
    exact ⟨u, hu, hh⟩
/-- A key, an entry, by value. -/
theorem open_key {r : Reach} {b0 : Nat} {t t0 t1 : TypeId} {fs : Array Field} {v : Value} {d : DataW H} {p : List MemPlace} (hs : P.underlying t = some (.struct fs)) (hl : leaves P 8 t = some [t0, t1]) (hn : P.cellsOf t = 2) (h0 : P.underlying t0 = some (.int .i64)) (h1 : P.underlying t1 = some (.int .u64))
    (hv : Value.okWide P w r b0 t v) (h : DataW.Trod enc P w base spare held t v d p) :
    ∃ (a : Int) (m : Nat), v = .agg #[.int .i64 a, .int .u64 (m : Int)] ∧ (-9223372036854775808 ≤ a ∧ a ≤ 9223372036854775807) ∧ m < 18446744073709551616 := by
  obtain ⟨l, rfl, hlen, hf⟩ := open_flat hs hl hn hv h
  obtain ⟨u0, e0, g0⟩ := hf 0 t0 rfl
  obtain ⟨u1, e1, g1⟩ := hf 1 t1 rfl
  obtain ⟨a, rfl, ha⟩ := g0.i64 h0
  obtain ⟨m, rfl, hm⟩ := g1.u64 h1
  match l, hlen with
  | [x, y], _ =>
    simp at e0 e1
    subst e0 e1
    exact ⟨a, m, rfl, ha, hm⟩
theorem open_entry {r : Reach} {b0 : Nat} {t t0 t1 t2 t3 t4 : TypeId} {fs : Array Field} {v : Value} {d : DataW H} {p : List MemPlace} (hs : P.underlying t = some (.struct fs)) (hl : leaves P 8 t = some [t0, t1, t2, t3, t4]) (hn : P.cellsOf t = 5) (h0 : P.underlying t0 = some (.int .i64)) (h1 : P.underlying t1 = some (.int .u64)) (h2 : P.underlying t2 = some (.int .i64)) (h3 : P.underlying t3 = some .bool) (h4 : P.underlying t4 = some (.int .u32))
    (hv : Value.okWide P w r b0 t v) (h : DataW.Trod enc P w base spare held t v d p) :
    ∃ (a : Int) (m : Nat) (q : Int) (b : Bool) (s : Nat), v = .agg #[.int .i64 a, .int .u64 (m : Int), .int .i64 q, .bool b, .int .u32 (s : Int)] ∧ (-9223372036854775808 ≤ a ∧ a ≤ 9223372036854775807) ∧ m < 18446744073709551616 ∧ (-9223372036854775808 ≤ q ∧ q ≤ 9223372036854775807) ∧ s < 4294967296 := by
  obtain ⟨l, rfl, hlen, hf⟩ := open_flat hs hl hn hv h
  obtain ⟨u0, e0, g0⟩ := hf 0 t0 rfl
  obtain ⟨u1, e1, g1⟩ := hf 1 t1 rfl
  obtain ⟨u2, e2, g2⟩ := hf 2 t2 rfl
  obtain ⟨u3, e3, g3⟩ := hf 3 t3 rfl
  obtain ⟨u4, e4, g4⟩ := hf 4 t4 rfl
  obtain ⟨a, rfl, ha⟩ := g0.i64 h0
  obtain ⟨m, rfl, hm⟩ := g1.u64 h1
  obtain ⟨q, rfl, hq⟩ := g2.i64 h2
  obtain ⟨b, rfl⟩ := g3.bool h3
  obtain ⟨s, rfl, hs⟩ := g4.u32 h4
  match l, hlen with
  | [x0, x1, x2, x3, x4], _ =>
    simp at e0 e1 e2 e3 e4
    subst e0 e1 e2 e3 e4
    exact ⟨a, m, q, b, s, rfl, ha, hm, hq, hs⟩
end
end
section
open Go.ChangeShapes Go.WideShapes Go.RowKit Go.Deep

theorem list_of {α : Type} (d : α) {Q : Nat → α → Prop} : ∀ n, (∀ i, i < n → ∃ x, Q i x) → ∃ l : List α, l.length = n ∧ ∀ i, i < n → Q i (l.getD i d)
  | 0, _ => ⟨[], rfl, fun i hi => by omega⟩
  | n + 1, h => by
    obtain ⟨l, hl, hq⟩ := list_of d n fun i hi => h i (by omega)
    obtain ⟨x, hx⟩ := h n (by omega)
    refine ⟨l ++ [x], by simp [hl], fun i hi => ?_⟩
    rcases Nat.lt_or_ge i n with h1 | h1
    · have := hq i h1
      rw [List.getD_eq_getElem?_getD, List.getElem?_append_left (by omega), ← List.getD_eq_getElem?_getD]
      exact this
    · obtain rfl : i = n := by omega
      rw [List.getD_eq_getElem?_getD, List.getElem?_append_right (by omega), hl]
      simpa using hx
theorem Sl.of_vls {w : World} {B n b off cap : Nat} {l : List Vl} (hl : l.length = n) (h1 : n ≤ cap) (h2 : cap ≤ maxLen) (hb : b < B)
    (h : ∀ j, j < n → w.cell? ⟨b, off + j * 3, none⟩ = some (.int .i64 (l.getD j vl0).vid) ∧ w.cell? ⟨b, off + j * 3 + 1, none⟩ = some (.int .u64 ((l.getD j vl0).mem : Nat)) ∧ w.cell? ⟨b, off + j * 3 + 2, none⟩ = some (.int .u64 ((l.getD j vl0).unt : Nat))) :
    Sl w B 3 (.slice (some ⟨b, off, none⟩) n cap) n (vlc l) := by
  refine ⟨by rw [vlc_length, hl], _, cap, rfl, h1, h2, fun _ => ⟨b, off, rfl, hb, fun j hj => ?_⟩⟩
  have e : j = j / 3 * 3 + j % 3 := by omega
  have hm : j % 3 < 3 := by omega
  have hq : j / 3 < n := by omega
  obtain ⟨c0, c1, c2⟩ := h (j / 3) hq
  have hql : j / 3 < l.length := by omega
  have hv : (vlc l)[j]? = (l[j / 3]?).bind fun x => x.cells[j % 3]? := by
    have := vlc_at l (j / 3) (j % 3) hm
    rw [← e] at this
    exact this
  rw [hv, List.getElem?_eq_getElem hql]
  simp only [List.getD_eq_getElem?_getD, List.getElem?_eq_getElem hql, Option.getD_some] at c0 c1 c2
  have ea : off + j = off + j / 3 * 3 + j % 3 := by omega
  rw [ea]
  rcases (show j % 3 = 0 ∨ j % 3 = 1 ∨ j % 3 = 2 by omega) with h | h | h
  · rw [h]; exact c0
  · rw [h]; exact c1
  · rw [h]; exact c2
section
variable {H : Type} {enc : TypeId × Value → H} {P : Program} {w : World} {held : Bool}
theorem open_vls {r : Reach} {b0 : Nat} {t e : TypeId} {f0 f1 f2 : Field} {v : Value} {d : DataW H} {p : List MemPlace} (ht : P.underlying t = some (.slice e)) (hs : P.underlying e = some (.struct #[f0, f1, f2])) (hone : oneCellFields P #[f0, f1, f2] = true) (hC : P.cellsOf e = 3)
    (h0 : P.underlying f0.type = some (.int .i64)) (h1 : P.underlying f1.type = some (.int .u64)) (h2 : P.underlying f2.type = some (.int .u64))
    (hv : Value.okWide P w r b0 t v) (h : DataW.Trod enc P w 0 (fun _ => true) held t v d p) :
    ∃ l : List Vl, Sl w w.heap.size 3 v l.length (vlc l) ∧ ∀ x ∈ l, x.ok := by
  obtain ⟨A, n, cap, rfl, hn, hm, hc⟩ := open_rows ht hs hone hC (by simp) hv h
  rcases Nat.eq_zero_or_pos n with hz | hz
  · subst hz
    exact ⟨[], ⟨by simp [vlc], A, cap, rfl, by simp, hm, fun h => absurd h (by simp)⟩, by simp⟩
  · obtain ⟨b, off, rfl, hb, hcell⟩ := hc hz
    have hex : ∀ i, i < n → ∃ x : Vl, x.ok ∧ w.cell? ⟨b, off + i * 3, none⟩ = some (.int .i64 x.vid) ∧ w.cell? ⟨b, off + i * 3 + 1, none⟩ = some (.int .u64 (x.mem : Nat)) ∧ w.cell? ⟨b, off + i * 3 + 2, none⟩ = some (.int .u64 (x.unt : Nat)) := by
      intro i hi
      obtain ⟨u0, e0, g0⟩ := hcell i hi 0 f0 rfl
      obtain ⟨u1, e1, g1⟩ := hcell i hi 1 f1 rfl
      obtain ⟨u2, e2, g2⟩ := hcell i hi 2 f2 rfl
      obtain ⟨a, rfl, ha⟩ := g0.i64 h0
      obtain ⟨m, rfl, hm⟩ := g1.u64 h1
      obtain ⟨u, rfl, hu⟩ := g2.u64 h2
      exact ⟨⟨a, m, u⟩, ⟨ha, hm, hu⟩, e0, e1, e2⟩
    obtain ⟨l, hl, hq⟩ := list_of vl0 n hex
    refine ⟨l, ?_, fun x hx => ?_⟩
    · rw [hl]
      exact Sl.of_vls hl hn hm hb fun j hj => (hq j hj).2
    · obtain ⟨i, hi, rfl⟩ := List.getElem_of_mem hx
      have := (hq i (by omega)).1
      rw [List.getD_eq_getElem?_getD, List.getElem?_eq_getElem hi] at this
      exact this
end
end
section
open Go.ChangeShapes Go.WideShapes Go.RowKit Go.Deep
theorem Sl.of_rls {w : World} {B n b off cap : Nat} {l : List Rl} (hl : l.length = n) (h1 : n ≤ cap) (h2 : cap ≤ maxLen) (hb : b < B)
    (h : ∀ j, j < n → w.cell? ⟨b, off + j * 2, none⟩ = some (.int .i64 (l.getD j rl0).pv) ∧ w.cell? ⟨b, off + j * 2 + 1, none⟩ = some (.int .i64 (l.getD j rl0).ac)) :
    Sl w B 2 (.slice (some ⟨b, off, none⟩) n cap) n (rlc l) := by
  refine ⟨by rw [rlc_length, hl], _, cap, rfl, h1, h2, fun _ => ⟨b, off, rfl, hb, fun j hj => ?_⟩⟩
  have e : j = j / 2 * 2 + j % 2 := by omega
  have hm : j % 2 < 2 := by omega
  have hq : j / 2 < n := by omega
  obtain ⟨c0, c1⟩ := h (j / 2) hq
  have hql : j / 2 < l.length := by omega
  have hv : (rlc l)[j]? = (l[j / 2]?).bind fun x => x.cells[j % 2]? := by
    have := rlc_at l (j / 2) (j % 2) hm
    rw [← e] at this
    exact this
  rw [hv, List.getElem?_eq_getElem hql]
  simp only [List.getD_eq_getElem?_getD, List.getElem?_eq_getElem hql, Option.getD_some] at c0 c1
  have ea : off + j = off + j / 2 * 2 + j % 2 := by omega
  rw [ea]
  rcases (show j % 2 = 0 ∨ j % 2 = 1 by omega) with h | h
  · rw [h]; exact c0
  · rw [h]; exact c1
section
variable {H : Type} {enc : TypeId × Value → H} {P : Program} {w : World} {held : Bool}
theorem Holds1.flats {t e : TypeId} {ts : List TypeId} {v : Value} (ht : P.underlying t = some (.slice e)) (hl : leaves P 8 e = some ts) (hC : P.cellsOf e = ts.length) (h0 : 0 < ts.length)
    (h : Holds1 enc P w 0 (fun _ => true) held t v) :
    ∃ (A : Option Addr) (n cap : Nat), v = .slice A n cap ∧ n ≤ cap ∧ cap ≤ maxLen ∧ (0 < n → ∃ b off, A = some ⟨b, off, none⟩ ∧ b < w.heap.size ∧
      ∀ i, i < n → ∀ (j : Nat) tj, ts[j]? = some tj → ∃ u, w.cell? ⟨b, off + i * ts.length + j, none⟩ = some u ∧ Holds1 enc P w 0 (fun _ => true) held tj u) := by
  obtain ⟨fuel, y, hf⟩ := h
  rcases open_slice ht hf with ⟨hcs, _⟩ | ⟨a, len, c, m, k, D, Pl, hcs, _, hl1, hm, hmm, _, hi⟩
  · obtain rfl : v = .slice none 0 0 := by simpa using hcs
    exact ⟨none, 0, 0, rfl, Nat.le_refl _, by simp [maxLen], fun h => absurd h (by omega)⟩
  · obtain rfl : v = .slice (some a) len c := by simpa using hcs
    simp only [if_true] at hmm
    subst hmm
    refine ⟨some a, len, m, rfl, hl1, hm, fun hn => ?_⟩
    have hat : ∀ i, i < m → ∀ (j : Nat) tj, ts[j]? = some tj → ∃ u, w.cell? (a.add (i * ts.length + j)) = some u ∧ Holds1 enc P w 0 (fun _ => true) held tj u := by
      intro i him j tj hj
      obtain ⟨cs', hc, ht'⟩ := hi i him
      rw [hC] at hc
      obtain ⟨_, hcl, hcat⟩ := World.cells?_some hc
      obtain ⟨u, hu, hh⟩ := leaves_held 8 e _ _ _ _ hl (by omega) ht' j tj hj
      have hjl : j < ts.length := (List.getElem?_eq_some_iff.1 hj).1
      refine ⟨u, ?_, hh⟩
      rw [← Go.Deep.add_add, hcat j hjl, hu]
    obtain ⟨u0, hu0, _⟩ := hat 0 (by omega) 0 _ (List.getElem?_eq_getElem h0)
    obtain ⟨b, off, spot⟩ := a
    have hspot : spot = none := by simpa [Addr.add] using World.cell?_spot hu0
    subst hspot
    refine ⟨b, off, rfl, World.block_lt_of_cell? w _ (by simpa [Addr.add] using hu0), fun i hi2 j tj hj => ?_⟩
    obtain ⟨u, hu, hh⟩ := hat i (by omega) j tj hj
    have hadd : (⟨b, off, none⟩ : Addr).add (i * ts.length + j) = ⟨b, off + i * ts.length + j, none⟩ := by
      unfold Addr.add; split <;> simp_all [Nat.add_assoc]
    rw [hadd] at hu
    exact ⟨u, hu, hh⟩
theorem Holds1.vls {t e i u : TypeId} {v : Value} (ht : P.underlying t = some (.slice e)) (hl : leaves P 8 e = some [i, u, u]) (hC : P.cellsOf e = 3) (hi : P.underlying i = some (.int .i64)) (hu : P.underlying u = some (.int .u64))
    (h : Holds1 enc P w 0 (fun _ => true) held t v) : ∃ l : List Vl, Sl w w.heap.size 3 v l.length (vlc l) ∧ ∀ x ∈ l, x.ok := by
  obtain ⟨A, n, cap, rfl, hn, hm, hc⟩ := Holds1.flats ht hl hC (by simp) h
  rcases Nat.eq_zero_or_pos n with hz | hz
  · subst hz
    exact ⟨[], ⟨by simp [vlc], A, cap, rfl, by simp, hm, fun h => absurd h (by simp)⟩, by simp⟩
  · obtain ⟨b, off, rfl, hb, hcell⟩ := hc hz
    have hex : ∀ j, j < n → ∃ x : Vl, x.ok ∧ w.cell? ⟨b, off + j * 3, none⟩ = some (.int .i64 x.vid) ∧ w.cell? ⟨b, off + j * 3 + 1, none⟩ = some (.int .u64 (x.mem : Nat)) ∧ w.cell? ⟨b, off + j * 3 + 2, none⟩ = some (.int .u64 (x.unt : Nat)) := by
      intro j hj
      obtain ⟨u0, e0, g0⟩ := hcell j hj 0 i rfl
      obtain ⟨u1, e1, g1⟩ := hcell j hj 1 u rfl
      obtain ⟨u2, e2, g2⟩ := hcell j hj 2 u rfl
      obtain ⟨a, rfl, ha⟩ := g0.i64 hi
      obtain ⟨m, rfl, hm1⟩ := g1.u64 hu
      obtain ⟨k, rfl, hk⟩ := g2.u64 hu
      exact ⟨⟨a, m, k⟩, ⟨ha, hm1, hk⟩, e0, e1, e2⟩
    obtain ⟨l, hlen, hq⟩ := list_of vl0 n hex
    subst hlen
    refine ⟨l, Sl.of_vls rfl hn hm hb fun j hj => (hq j hj).2, fun x hx => ?_⟩
    obtain ⟨j, hj, rfl⟩ := List.getElem_of_mem hx
    have := (hq j hj).1
    rwa [List.getD_eq_getElem?_getD, List.getElem?_eq_getElem hj] at this
theorem Holds1.rls {t e i : TypeId} {v : Value} (ht : P.underlying t = some (.slice e)) (hl : leaves P 8 e = some [i, i]) (hC : P.cellsOf e = 2) (hi : P.underlying i = some (.int .i64))
    (h : Holds1 enc P w 0 (fun _ => true) held t v) : ∃ l : List Rl, Sl w w.heap.size 2 v l.length (rlc l) := by
  obtain ⟨A, n, cap, rfl, hn, hm, hc⟩ := Holds1.flats ht hl hC (by simp) h
  rcases Nat.eq_zero_or_pos n with hz | hz
  · subst hz
    exact ⟨[], ⟨by simp [rlc], A, cap, rfl, by simp, hm, fun h => absurd h (by simp)⟩⟩
  · obtain ⟨b, off, rfl, hb, hcell⟩ := hc hz
    have hex : ∀ j, j < n → ∃ x : Rl, w.cell? ⟨b, off + j * 2, none⟩ = some (.int .i64 x.pv) ∧ w.cell? ⟨b, off + j * 2 + 1, none⟩ = some (.int .i64 x.ac) := by
      intro j hj
      obtain ⟨u0, e0, g0⟩ := hcell j hj 0 i rfl
      obtain ⟨u1, e1, g1⟩ := hcell j hj 1 i rfl
      obtain ⟨a, rfl, ha⟩ := g0.i64 hi
      obtain ⟨m, rfl, hm1⟩ := g1.i64 hi
      exact ⟨⟨a, m⟩, e0, e1⟩
    obtain ⟨l, hlen, hq⟩ := list_of rl0 n hex
    subst hlen
    exact ⟨l, Sl.of_rls rfl hn hm hb fun j hj => hq j hj⟩
theorem open_plan {r : Reach} {b0 : Nat} {t tr tv er ev i u q : TypeId} {fs : Array Field} {v : Value} {d : DataW H} {p : List MemPlace} (hs : P.underlying t = some (.struct fs)) (hl : leaves P 8 t = some [i, tr, tv, i, i, i, i, i, u, u]) (hn : P.cellsOf t = 10)
    (hi : P.underlying i = some (.int .i64)) (hu : P.underlying u = some (.int .u32)) (hq : P.underlying q = some (.int .u64)) (htr : P.underlying tr = some (.slice er)) (hlr : leaves P 8 er = some [i, i]) (hcr : P.cellsOf er = 2) (htv : P.underlying tv = some (.slice ev)) (hlv : leaves P 8 ev = some [i, q, q]) (hcv : P.cellsOf ev = 3)
    (hv : Value.okWide P w r b0 t v) (h : DataW.Trod enc P w 0 (fun _ => true) held t v d p) :
    ∃ (P0 : Int) (vr vv : Value) (a b c T R : Int) (nm sh : Nat) (lr : List Rl) (lv : List Vl), v = planV P0 vr vv a b c T R nm sh ∧ Sl w w.heap.size 2 vr lr.length (rlc lr) ∧ Sl w w.heap.size 3 vv lv.length (vlc lv) ∧ (∀ x ∈ lv, x.ok) := by
  obtain ⟨l, rfl, hlen, hf⟩ := open_flat hs hl hn hv h
  obtain ⟨u0, e0, g0⟩ := hf 0 i rfl
  obtain ⟨u1, e1, g1⟩ := hf 1 tr rfl
  obtain ⟨u2, e2, g2⟩ := hf 2 tv rfl
  obtain ⟨u3, e3, g3⟩ := hf 3 i rfl
  obtain ⟨u4, e4, g4⟩ := hf 4 i rfl
  obtain ⟨u5, e5, g5⟩ := hf 5 i rfl
  obtain ⟨u6, e6, g6⟩ := hf 6 i rfl
  obtain ⟨u7, e7, g7⟩ := hf 7 i rfl
  obtain ⟨u8, e8, g8⟩ := hf 8 u rfl
  obtain ⟨u9, e9, g9⟩ := hf 9 u rfl
  obtain ⟨x0, rfl, _⟩ := g0.i64 hi
  obtain ⟨lr, hr⟩ := Holds1.rls htr hlr hcr hi g1
  obtain ⟨lv, hvv, hok⟩ := Holds1.vls htv hlv hcv hi hq g2
  obtain ⟨x3, rfl, _⟩ := g3.i64 hi
  obtain ⟨x4, rfl, _⟩ := g4.i64 hi
  obtain ⟨x5, rfl, _⟩ := g5.i64 hi
  obtain ⟨x6, rfl, _⟩ := g6.i64 hi
  obtain ⟨x7, rfl, _⟩ := g7.i64 hi
  obtain ⟨x8, rfl, _⟩ := g8.u32 hu
  obtain ⟨x9, rfl, _⟩ := g9.u32 hu
  match l, hlen with
  | [y0, y1, y2, y3, y4, y5, y6, y7, y8, y9], _ =>
    simp at e0 e1 e2 e3 e4 e5 e6 e7 e8 e9
    subst e0 e1 e2 e3 e4 e5 e6 e7 e8 e9
    exact ⟨x0, _, _, x3, x4, x5, x6, x7, x8, x9, lr, lv, rfl, hr, hvv, hok⟩
end
end
section
def rightSt (s : Int) : Bool := decide (0 ≤ s) && decide (s ≤ 4)
theorem rightSt_iff {s : Int} : rightSt s = true ↔ 0 ≤ s ∧ s ≤ 4 := by simp [rightSt]
theorem rightSt_no {s : Int} (h : ¬ (0 ≤ s ∧ s ≤ 4)) : rightSt s = false := by
  rw [Bool.eq_false_iff]; exact fun e => h (rightSt_iff.1 e)
def wordS (s : Int) (e : Nat) : Nat := if rightSt s then e * 256 + s.toNat else 0
theorem wordS_yes {s : Int} {e : Nat} (h : rightSt s = true) : wordS s e = e * 256 + s.toNat := if_pos h
theorem wordS_no {s : Int} {e : Nat} (h : rightSt s = false) : wordS s e = 0 := by unfold wordS; rw [h]; rfl
def okS (w : Nat) : Bool := decide (w < 1099511627776) && decide (w % 256 ≤ 4)
theorem okS_iff {w : Nat} : okS w = true ↔ w < 1099511627776 ∧ w % 256 ≤ 4 := by simp [okS]
theorem okS_no {w : Nat} (h : ¬ (w < 1099511627776 ∧ w % 256 ≤ 4)) : okS w = false := by
  rw [Bool.eq_false_iff]; exact fun e => h (okS_iff.1 e)
def stateW (w : Nat) : Nat := if okS w then w % 256 else 0
def epochW (w : Nat) : Nat := if okS w then w / 256 else 0
theorem or_8 (s e : Nat) (hs : s < 256) : s ||| e * 256 = e * 256 + s := by
  have := Nat.shiftLeft_add_eq_or_of_lt (i := 8) (b := s) (by simpa using hs) e
  rw [Nat.shiftLeft_eq] at this
  rw [Nat.or_comm]
  simpa using this.symm
theorem wordS_lt (s : Int) (e : Nat) (he : e < 4294967296) : wordS s e < 1099511627776 := by
  unfold wordS
  split
  · rename_i h
    have := rightSt_iff.1 h
    omega
  · omega
theorem okS_back {w : Nat} (h : okS w = true) : wordS (stateW w : Int) (epochW w) = w := by
  have h' := okS_iff.1 h
  unfold stateW epochW
  rw [if_pos h, if_pos h, wordS_yes (rightSt_iff.2 (by omega))]
  omega
theorem wordS_back {s : Int} {e : Nat} (h : rightSt s = true) (he : e < 4294967296) : okS (wordS s e) = true ∧ (stateW (wordS s e) : Int) = s ∧ epochW (wordS s e) = e := by
  have h' := rightSt_iff.1 h
  have h1 := wordS_yes (e := e) h
  have ho : okS (wordS s e) = true := okS_iff.2 (by rw [h1]; omega)
  refine ⟨ho, ?_, ?_⟩
  · unfold stateW; rw [if_pos ho, h1]; omega
  · unfold epochW; rw [if_pos ho, h1]; omega
theorem epochW_lt (w : Nat) : epochW w < 4294967296 := by
  unfold epochW
  split
  · rename_i h; have := okS_iff.1 h; omega
  · omega
theorem stateW_le (w : Nat) : stateW w ≤ 4 := by
  unfold stateW
  split
  · rename_i h; have := okS_iff.1 h; omega
  · omega
end
section
open Go.RowKit

set_option maxHeartbeats 800000 in
theorem port_Right (s : Int) (w : World) : Calls Try.prog 109 #[.int .i64 s] w fun e w' => e = .returned (.bool (rightSt s)) ∧ w = w' := by
  by_cases h1 : 0 ≤ s
  · have d1 : decide (s ≥ 0) = true := by simpa using h1
    have d1' : decide (0 ≤ s) = true := by simpa using h1
    by_cases h2 : s ≤ 4
    · have d2 : decide (s ≤ 4) = true := by simpa using h2
      have hr : rightSt s = true := rightSt_iff.2 ⟨h1, h2⟩
      rw [hr]
      go_enter Try.func109, Try.ntmps109
      go_wp2
      go_ret
      exact ⟨by first | rfl | (simp; done) | (simp [h1, h2]; done), rfl⟩
    · have d2 : decide (s ≤ 4) = false := by simpa using h2
      have hr : rightSt s = false := rightSt_no (by omega)
      rw [hr]
      go_enter Try.func109, Try.ntmps109
      go_wp2
      go_ret
      exact ⟨by first | rfl | (simp; done) | (simp [h1, h2]; done), rfl⟩
  · have d1 : decide (s ≥ 0) = false := by simpa using h1
    have d1' : decide (0 ≤ s) = false := by simpa using h1
    have hr : rightSt s = false := rightSt_no (by omega)
    rw [hr]
    go_enter Try.func109, Try.ntmps109
    go_wp2
    go_ret
    exact ⟨by first | rfl | (simp; done) | (simp [h1]; done), rfl⟩

set_option maxHeartbeats 800000 in
theorem ref16_Right (s : Int) (w : World) : Calls Try.prog 25 #[.int .i64 s] w fun e w' => e = .returned (.bool (rightSt s)) ∧ w = w' := by
  by_cases h1 : 0 ≤ s
  · have d1 : decide (s ≥ 0) = true := by simpa using h1
    have d1' : decide (0 ≤ s) = true := by simpa using h1
    by_cases h2 : s ≤ 4
    · have d2 : decide (s ≤ 4) = true := by simpa using h2
      have hr : rightSt s = true := rightSt_iff.2 ⟨h1, h2⟩
      rw [hr]
      go_enter Try.func25, Try.ntmps25
      go_wp2
      go_ret
      exact ⟨by first | rfl | (simp; done) | (simp [h1, h2]; done), rfl⟩
    · have d2 : decide (s ≤ 4) = false := by simpa using h2
      have hr : rightSt s = false := rightSt_no (by omega)
      rw [hr]
      go_enter Try.func25, Try.ntmps25
      go_wp2
      go_ret
      exact ⟨by first | rfl | (simp; done) | (simp [h1, h2]; done), rfl⟩
  · have d1 : decide (s ≥ 0) = false := by simpa using h1
    have d1' : decide (0 ≤ s) = false := by simpa using h1
    have hr : rightSt s = false := rightSt_no (by omega)
    rw [hr]
    go_enter Try.func25, Try.ntmps25
    go_wp2
    go_ret
    exact ⟨by first | rfl | (simp; done) | (simp [h1]; done), rfl⟩

set_option maxHeartbeats 800000 in
theorem port_Forwards (s : Int) (w : World) : Calls Try.prog 92 #[.int .i64 s] w fun e w' => e = .returned (.bool (decide (s = 4))) ∧ w = w' := by
  have hh : decide (s = 4) = (s == 4) := by by_cases h4 : s = 4 <;> simp [h4]
  rw [hh]
  go_enter Try.func92, Try.ntmps92
  go_wp2
  go_ret
  exact ⟨by first | rfl | (simp; done), rfl⟩

end
section
open Go.RowKit

theorem of_no {a : Nat} (h : okS a = false) : stateW a = 0 ∧ epochW a = 0 := by
  unfold stateW epochW; rw [h]; exact ⟨rfl, rfl⟩
theorem of_yes {a : Nat} (h : okS a = true) : stateW a = a % 256 ∧ epochW a = a / 256 := by
  unfold stateW epochW; rw [h]; exact ⟨rfl, rfl⟩

set_option maxHeartbeats 1600000 in
theorem port_Set (s x : Int) (k : Nat) (w : World) : Calls Try.prog 90 #[.agg #[.int .i64 s, .int .u32 (k : Int)], .int .i64 x] w (Says (if rightSt x = true then .tuple #[.agg #[.int .i64 x, .int .u32 (((k + 1) % 4294967296 : Nat) : Int)], .int .i64 0] else .tuple #[.agg #[.int .i64 0, .int .u32 0], .int .i64 7]) w) := by
  have HR := Lib.hid (fun W => port_Right x W)
  by_cases h : rightSt x = true
  · rw [if_pos h]
    rw [h] at HR
    have hk : IntKind.u32.wrap ((k : Int) + 1) = (((k + 1) % 4294967296 : Nat) : Int) := by rw [IntKind.wrap_u32]; omega
    generalize (((k + 1) % 4294967296 : Nat) : Int) = K at *
    generalize (k : Int) = k at *
    clear h
    go_enter Try.func90, Try.ntmps90
    go_wp2_with fail
    refine (HR.out _).mono ?_
    rintro e w1 ⟨rfl, rfl⟩
    go_wp2
    exact bodyPost_ret (v := .tuple #[.agg #[.int .i64 x, .int .u32 K], .int .i64 0]) (by first | (simp [results, Try.results90, go_sem]; done) | (simp_all [results, Try.results90, go_sem]; done)) rfl ⟨rfl, (by (repeat' (first | (with_reducible exact Below.refl _ _) | (with_reducible assumption) | (with_reducible refine Below.setCell ?_ ?_ _) | (with_reducible refine Below.alloc ?_ ?_ _) | (with_reducible refine below_drewN ?_ _) | (with_reducible refine Below.drew ?_) | go_size)))⟩
  · rw [if_neg h]
    have h : rightSt x = false := by simpa using h
    rw [h] at HR
    clear h
    go_enter Try.func90, Try.ntmps90
    go_wp2_with fail
    refine (HR.out _).mono ?_
    rintro e w1 ⟨rfl, rfl⟩
    go_wp2
    exact bodyPost_ret (v := .tuple #[.agg #[.int .i64 0, .int .u32 0], .int .i64 7]) (by first | (simp [results, Try.results90, go_sem]; done) | (simp_all [results, Try.results90, go_sem]; done)) rfl ⟨rfl, (by (repeat' (first | (with_reducible exact Below.refl _ _) | (with_reducible assumption) | (with_reducible refine Below.setCell ?_ ?_ _) | (with_reducible refine Below.alloc ?_ ?_ _) | (with_reducible refine below_drewN ?_ _) | (with_reducible refine Below.drew ?_) | go_size)))⟩

end
section
open Go.RowKit

theorem model_isNone0 (w : World) : Calls Try.prog 43 #[.pointer none] w (Says (.bool true) w) := by
  go_enter Try.func43, Try.ntmps43
  go_wp2
  go_ret
  exact ⟨rfl, Below.refl _ _⟩
theorem model_isPort0 (p : Int) (w : World) : Calls Try.prog 62 #[.pointer none, .int .i64 p] w (Says (.bool false) w) := by
  have H := Lib.hid fun W => model_isNone0 W
  go_enter Try.func62, Try.ntmps62
  go_wp2_with fail
  refine (H.out _).mono ?_
  rintro e w1 ⟨rfl, hb⟩
  go_wp2
  go_ret
  exact ⟨rfl, hb⟩
/-- An order as a value: its fourteen parts. -/
def opV (kd po tt vi st kv : Int) (km : Int) (me un : Int) (nw li : Int) (sh bu id : Int) : Value := .agg #[.int .i64 kd, .int .i64 po, .int .i64 tt, .int .i64 vi, .int .i64 st, .int .i64 kv, .int .u64 km, .int .u64 me, .int .u64 un, .int .u32 nw, .int .u32 li, .int .i64 sh, .int .i64 bu, .int .i64 id]
set_option maxRecDepth 20000 in
theorem model_Do0 (kd po tt vi st kv km me un nw li sh bu id : Int) (w : World) : Calls Try.prog 14 #[.pointer none, opV kd po tt vi st kv km me un nw li sh bu id] w (Says (.int .i64 (-1)) w) := by
  have H := Lib.hid fun W => model_isNone0 W
  unfold opV
  go_enter Try.func14, Try.ntmps14
  go_wp2_with fail
  refine (H.out _).mono ?_
  rintro e w1 ⟨rfl, hb⟩
  go_wp2
  go_ret
  exact ⟨rfl, ((Below.refl _ _).alloc (Nat.le_refl _) _).trans (hb.mono (by simp))⟩
theorem model_Copy0 (w : World) : Calls Try.prog 15 #[.pointer none] w (Says (.pointer none) w) := by
  have H := Lib.hid fun W => model_isNone0 W
  go_enter Try.func15, Try.ntmps15
  go_wp2_with fail
  refine (H.out _).mono ?_
  rintro e w1 ⟨rfl, hb⟩
  go_wp2
  go_ret
  exact ⟨rfl, hb⟩
theorem model_Vlans0 (w : World) : Calls Try.prog 16 #[.pointer none] w (Says (.slice none 0 0) w) := by
  have H := Lib.hid fun W => model_isNone0 W
  go_enter Try.func16, Try.ntmps16
  go_wp2_with fail
  refine (H.out _).mono ?_
  rintro e w1 ⟨rfl, hb⟩
  go_wp2
  go_ret
  exact ⟨rfl, hb⟩
theorem model_List0 (w : World) : Calls Try.prog 17 #[.pointer none] w (Says (.slice none 0 0) w) := by
  have H := Lib.hid fun W => model_isNone0 W
  go_enter Try.func17, Try.ntmps17
  go_wp2_with fail
  refine (H.out _).mono ?_
  rintro e w1 ⟨rfl, hb⟩
  go_wp2
  go_ret
  exact ⟨rfl, hb⟩
theorem model_Bucket0 (s n : Int) (w : World) : Calls Try.prog 19 #[.pointer none, .int .i64 s, .int .i64 n] w (Says (.slice none 0 0) w) := by
  have H := Lib.hid fun W => model_isNone0 W
  go_enter Try.func19, Try.ntmps19
  go_wp2_with fail
  refine (H.out _).mono ?_
  rintro e w1 ⟨rfl, hb⟩
  go_wp2
  go_ret
  exact ⟨rfl, hb⟩
theorem model_Queue0 (p q : Int) (w : World) : Calls Try.prog 18 #[.pointer none, .int .i64 p, .int .i64 q] w (Says (.slice none 0 0) w) := by
  have H := Lib.hid fun W => model_isPort0 p W
  go_enter Try.func18, Try.ntmps18
  go_wp2_with fail
  refine (H.out _).mono ?_
  rintro e w1 ⟨rfl, hb⟩
  go_wp2
  go_ret
  exact ⟨rfl, hb⟩
theorem model_Stand0 (p : Int) (w : World) : Calls Try.prog 21 #[.pointer none, .int .i64 p] w (Says (.agg #[.int .i64 0, .int .u32 0]) w) := by
  have H := Lib.hid fun W => model_isPort0 p W
  go_enter Try.func21, Try.ntmps21
  go_wp2_with fail
  refine (H.out _).mono ?_
  rintro e w1 ⟨rfl, hb⟩
  have k0 : w1.cell? ⟨w.heap.size, 0, none⟩ = some (.int .i64 0) := (hb.cell (p := ⟨w.heap.size, 0, none⟩) (by simp)).trans (by simp [go_sem])
  have f0 : w1.frozen? ⟨w.heap.size, 0, none⟩ = false := (hb.frozen (p := ⟨w.heap.size, 0, none⟩) (by simp)).trans (by simp [go_sem])
  have k1 : w1.cell? ⟨w.heap.size, 1, none⟩ = some (.int .u32 0) := (hb.cell (p := ⟨w.heap.size, 1, none⟩) (by simp)).trans (by simp [go_sem])
  have f1 : w1.frozen? ⟨w.heap.size, 1, none⟩ = false := (hb.frozen (p := ⟨w.heap.size, 1, none⟩) (by simp)).trans (by simp [go_sem])
  have hz : w.heap.size < w1.heap.size := by have := hb.size; simp at this; omega
  have hbl : Below w.heap.size w w1 := ((Below.refl _ _).alloc (Nat.le_refl _) _).trans (hb.mono (by simp))
  clear hb
  go_wp2
  exact bodyPost_ret (v := .agg #[.int .i64 0, .int .u32 0]) (by simp [results, Try.results21, go_sem, k0, k1]) rfl ⟨rfl, (by (repeat' (first | (with_reducible exact Below.refl _ _) | (with_reducible assumption) | (with_reducible refine Below.setCell ?_ ?_ _) | (with_reducible refine Below.alloc ?_ ?_ _) | go_size)))⟩
theorem model_Shape0 (w : World) : Calls Try.prog 20 #[.pointer none] w (Says (.agg #[.slice none 0 0, .slice none 0 0, .slice none 0 0, .slice none 0 0]) w) := by
  have H := Lib.hid fun W => model_isNone0 W
  go_enter Try.func20, Try.ntmps20
  go_wp2_with fail
  refine (H.out _).mono ?_
  rintro e w1 ⟨rfl, hb⟩
  have k0 : w1.cell? ⟨w.heap.size, 0, none⟩ = some (.slice none 0 0) := (hb.cell (p := ⟨w.heap.size, 0, none⟩) (by simp)).trans (by simp [go_sem])
  have f0 : w1.frozen? ⟨w.heap.size, 0, none⟩ = false := (hb.frozen (p := ⟨w.heap.size, 0, none⟩) (by simp)).trans (by simp [go_sem])
  have k1 : w1.cell? ⟨w.heap.size, 1, none⟩ = some (.slice none 0 0) := (hb.cell (p := ⟨w.heap.size, 1, none⟩) (by simp)).trans (by simp [go_sem])
  have f1 : w1.frozen? ⟨w.heap.size, 1, none⟩ = false := (hb.frozen (p := ⟨w.heap.size, 1, none⟩) (by simp)).trans (by simp [go_sem])
  have k2 : w1.cell? ⟨w.heap.size, 2, none⟩ = some (.slice none 0 0) := (hb.cell (p := ⟨w.heap.size, 2, none⟩) (by simp)).trans (by simp [go_sem])
  have f2 : w1.frozen? ⟨w.heap.size, 2, none⟩ = false := (hb.frozen (p := ⟨w.heap.size, 2, none⟩) (by simp)).trans (by simp [go_sem])
  have k3 : w1.cell? ⟨w.heap.size, 3, none⟩ = some (.slice none 0 0) := (hb.cell (p := ⟨w.heap.size, 3, none⟩) (by simp)).trans (by simp [go_sem])
  have f3 : w1.frozen? ⟨w.heap.size, 3, none⟩ = false := (hb.frozen (p := ⟨w.heap.size, 3, none⟩) (by simp)).trans (by simp [go_sem])
  have hz : w.heap.size < w1.heap.size := by have := hb.size; simp at this; omega
  have hbl : Below w.heap.size w w1 := ((Below.refl _ _).alloc (Nat.le_refl _) _).trans (hb.mono (by simp))
  clear hb
  go_wp2
  exact bodyPost_ret (v := .agg #[.slice none 0 0, .slice none 0 0, .slice none 0 0, .slice none 0 0]) (by simp [results, Try.results20, go_sem, k0, k1, k2, k3]) rfl ⟨rfl, (by (repeat' (first | (with_reducible exact Below.refl _ _) | (with_reducible assumption) | (with_reducible refine Below.setCell ?_ ?_ _) | (with_reducible refine Below.alloc ?_ ?_ _) | go_size)))⟩
end
section
open Go.RowKit

theorem tgt_on' {W : World} {g : Nat} {cs : Array Value} {t : TypeId} (h : W.heap[g]? = some (.cells cs t)) (i : Nat) (v : Value) (hv : cs[i]? = some v) : W.cell? ⟨g, i, none⟩ = some v := by
  simp [World.cell?, h, hv]
def updS (st : Nat → Int × Nat) (p : Nat) (x : Int) (e : Nat) (i : Nat) : Int × Nat := if i = p then (x, e) else st i
theorem MdAt.setS {w : World} {L A S1 Q : Nat} {uv bv : Value} {P r nv : Nat} {lv : List Vl} {st : Nat → Int × Nat} {G : Nat → Value} (h : MdAt w L A S1 Q uv bv P r nv lv st G) (p : Nat) (x : Int) (e : Nat) : MdAt ((w.setCell ⟨S1, p * 2, none⟩ (.int .i64 x)).setCell ⟨S1, p * 2 + 1, none⟩ (.int .u32 (e : Nat))) L A S1 Q uv bv P r nv lv (updS st p x e) G := by
  have hb : ∀ b, b ≠ S1 → ((w.setCell ⟨S1, p * 2, none⟩ (.int .i64 x)).setCell ⟨S1, p * 2 + 1, none⟩ (.int .u32 (e : Nat))).heap[b]? = w.heap[b]? := fun b hb => (heap_setCell_far _ _ _ (by exact hb)).trans (heap_setCell_far _ _ _ (by exact hb))
  refine ⟨h.la, h.ls, h.lq, h.cells.of_block (hb _ (rowIs_ne h.cells h.stands (by decide))), ?_, own_low' h.vlans (fun g e2 => hb _ (fun e3 => rowIs_own_ne h.stands h.vlans (by decide) (by rw [e2, e3]))), h.queues.of_block (hb _ (rowIs_ne h.queues h.stands (by decide)))⟩
  refine ((h.stands.set (p * 2) _).set (p * 2 + 1) _).congr fun i hi => ?_
  unfold rowS updS
  by_cases e1 : i = p * 2 + 1
  · subst e1
    rw [if_pos rfl, if_neg (by omega), show (p * 2 + 1) / 2 = p by omega, if_pos rfl]
  · rw [if_neg e1]
    by_cases e2 : i = p * 2
    · subst e2
      rw [if_pos rfl, if_pos (by omega), show p * 2 / 2 = p by omega, if_pos rfl]
    · rw [if_neg e2]
      have hne : i / 2 ≠ p := by omega
      rw [if_neg hne]
def portB (P : Nat) (p : Int) : Bool := decide (0 ≤ p) && decide (p < (P : Int))
set_option maxHeartbeats 800000 in
theorem model_isNone {w : World} {L A S1 Q bp : Nat} {uv : Value} {P r nv : Nat} {lv : List Vl} {st : Nat → Int × Nat} {G : Nat → Value} (h : MdAt w L A S1 Q uv (.pointer (some ⟨bp, 0, none⟩)) P r nv lv st G) : Calls Try.prog 43 #[.pointer (some ⟨A, 0, none⟩)] w (Says (.bool false) w) := by
  have c3 : w.cell? ⟨A, 3, none⟩ = some (.pointer (some ⟨bp, 0, none⟩)) := h.cells.cell (by omega)
  go_enter Try.func43, Try.ntmps43
  go_wp2
  go_ret
  exact ⟨rfl, Below.refl _ _⟩
set_option maxHeartbeats 800000 in
theorem model_isPort {w : World} {L A S1 Q bp : Nat} {uv : Value} {P r nv : Nat} {lv : List Vl} {st : Nat → Int × Nat} {G : Nat → Value} (h : MdAt w L A S1 Q uv (.pointer (some ⟨bp, 0, none⟩)) P r nv lv st G) (p : Int) : Calls Try.prog 62 #[.pointer (some ⟨A, 0, none⟩), .int .i64 p] w (Says (.bool (portB P p)) w) := by
  have HN := Lib.hid (model_isNone h)
  have HH := Lib.hid h
  obtain ⟨X, hX⟩ : ∃ X, X = portB P p := ⟨_, rfl⟩
  rw [← hX]
  have hY : portB P p = (decide (0 ≤ p) && decide (p < (P : Int))) := rfl
  rw [← hX] at hY
  clear hX h
  by_cases h0 : 0 ≤ p
  · rw [decide_eq_true h0, Bool.true_and] at hY
    by_cases h1 : p < (P : Int)
    · rw [decide_eq_true h1] at hY
      have HX := Lib.hid hY
      clear hY
      go_enter Try.func62, Try.ntmps62
      go_wp2_with fail
      refine (HN.out).mono ?_
      rintro e w1 ⟨rfl, hb⟩
      have c1 : w1.cell? ⟨A, 1, none⟩ = some (.slice (some ⟨S1, 0, none⟩) P P) := (HH.out.call hb).cells.cell (by omega)
      go_wp2
      go_ret
      exact ⟨by rw [HX.out] <;> first | rfl | (simp; done) | (simp; omega), hb⟩
    · rw [decide_eq_false h1] at hY
      have HX := Lib.hid hY
      clear hY
      go_enter Try.func62, Try.ntmps62
      go_wp2_with fail
      refine (HN.out).mono ?_
      rintro e w1 ⟨rfl, hb⟩
      have c1 : w1.cell? ⟨A, 1, none⟩ = some (.slice (some ⟨S1, 0, none⟩) P P) := (HH.out.call hb).cells.cell (by omega)
      go_wp2
      go_ret
      exact ⟨by rw [HX.out] <;> first | rfl | (simp; done) | (simp; omega), hb⟩
  · rw [decide_eq_false h0, Bool.false_and] at hY
    have HX := Lib.hid hY
    clear hY
    go_enter Try.func62, Try.ntmps62
    go_wp2_with fail
    refine (HN.out).mono ?_
    rintro e w1 ⟨rfl, hb⟩
    go_wp2
    go_ret
    exact ⟨by rw [HX.out] <;> first | rfl | (simp; done) | (simp; omega), hb⟩
set_option maxHeartbeats 800000 in
theorem model_may8 {w : World} {L A S1 Q bp : Nat} {uv : Value} {P r nv : Nat} {lv : List Vl} {st : Nat → Int × Nat} {G : Nat → Value} (h : MdAt w L A S1 Q uv (.pointer (some ⟨bp, 0, none⟩)) P r nv lv st G) (po tt vi sx : Int) (kv km me un nw li sh bu id : Int) : Calls Try.prog 44 #[.pointer (some ⟨A, 0, none⟩), opV 8 po tt vi sx kv km me un nw li sh bu id] w (Says (.bool (portB P po)) w) := by
  have HH := Lib.hid h
  have HP := Lib.hid fun w' (hb : Below w.heap.size w w') => model_isPort (h.call hb) po
  clear h
  unfold opV
  go_enter Try.func44, Try.ntmps44
  go_wp2_with fail
  refine (HP.out _ ((Below.refl _ _).alloc (Nat.le_refl _) _)).mono ?_
  rintro e w1 ⟨rfl, hb⟩
  go_wp2
  go_ret
  exact ⟨rfl, ((Below.refl _ _).alloc (Nat.le_refl _) _).trans (hb.mono (by simp))⟩
set_option maxHeartbeats 800000 in
theorem model_may12 {w : World} {L A S1 Q bp : Nat} {uv : Value} {P r nv : Nat} {lv : List Vl} {st : Nat → Int × Nat} {G : Nat → Value} (h : MdAt w L A S1 Q uv (.pointer (some ⟨bp, 0, none⟩)) P r nv lv st G) (po tt vi sx : Int) (kv km me un nw li sh bu id : Int) : Calls Try.prog 44 #[.pointer (some ⟨A, 0, none⟩), opV 12 po tt vi sx kv km me un nw li sh bu id] w (Says (.bool (portB P tt)) w) := by
  have HH := Lib.hid h
  have HP := Lib.hid fun w' (hb : Below w.heap.size w w') => model_isPort (h.call hb) tt
  clear h
  unfold opV
  go_enter Try.func44, Try.ntmps44
  go_wp2_with fail
  refine (HP.out _ ((Below.refl _ _).alloc (Nat.le_refl _) _)).mono ?_
  rintro e w1 ⟨rfl, hb⟩
  go_wp2
  go_ret
  exact ⟨rfl, ((Below.refl _ _).alloc (Nat.le_refl _) _).trans (hb.mono (by simp))⟩
set_option maxHeartbeats 800000 in
theorem model_may13 {w : World} {L A S1 Q bp : Nat} {uv : Value} {P r nv : Nat} {lv : List Vl} {st : Nat → Int × Nat} {G : Nat → Value} (h : MdAt w L A S1 Q uv (.pointer (some ⟨bp, 0, none⟩)) P r nv lv st G) (po tt vi sx : Int) (kv km me un nw li sh bu id : Int) : Calls Try.prog 44 #[.pointer (some ⟨A, 0, none⟩), opV 13 po tt vi sx kv km me un nw li sh bu id] w (Says (.bool (true)) w) := by
  have HH := Lib.hid h
  have HP := Lib.hid fun w' (hb : Below w.heap.size w w') => model_isPort (h.call hb) po
  clear h
  unfold opV
  go_enter Try.func44, Try.ntmps44
  go_wp2_with fail
  go_ret
  exact ⟨rfl, (Below.refl _ _).alloc (Nat.le_refl _) _⟩
theorem thereS {w : World} {L A S1 Q bp : Nat} {uv : Value} {P r nv : Nat} {lv : List Vl} {st : Nat → Int × Nat} {G : Nat → Value} (h : MdAt w L A S1 Q uv (.pointer (some ⟨bp, 0, none⟩)) P r nv lv st G) (p : Nat) (hp : p < P) : w.cell? ⟨S1, p * 2, none⟩ = some (.int .i64 (st p).1) ∧ w.cell? ⟨S1, p * 2 + 1, none⟩ = some (.int .u32 ((st p).2 : Nat)) :=
  ⟨(h.stands.cell (by omega)).trans (by rw [rowS_0]), (h.stands.cell (by omega)).trans (by rw [rowS_1])⟩
set_option maxRecDepth 20000 in
set_option maxHeartbeats 3200000 in
theorem model_setState {w : World} {L A S1 Q bp : Nat} {uv : Value} {P r nv : Nat} {lv : List Vl} {st : Nat → Int × Nat} {G : Nat → Value} (h : MdAt w L A S1 Q uv (.pointer (some ⟨bp, 0, none⟩)) P r nv lv st G) (hP : P ≤ 64) (p : Nat) (hp : p < P) (x : Int) (hx : rightSt x = true) : Calls Try.prog 53 #[.pointer (some ⟨A, 0, none⟩), .int .i64 (p : Nat), .int .i64 x] w fun e w' => e = .returned (.int .i64 ((((st p).2 + 1) % 4294967296 : Nat) : Int)) ∧ MdAt w' L A S1 Q uv (.pointer (some ⟨bp, 0, none⟩)) P r nv lv (updS st p x (((st p).2 + 1) % 4294967296)) G ∧ But S1 w w' := by
  obtain ⟨s0, s1⟩ := thereS h p hp
  have c1 : w.cell? ⟨A, 1, none⟩ = some (.slice (some ⟨S1, 0, none⟩) P P) := h.cells.cell (by omega)
  have hS := fun W => port_Set (st p).1 x (st p).2 W
  rw [if_pos hx] at hS
  have hk1 : ((st p).2 + 1) % 4294967296 < 4294967296 := Nat.mod_lt _ (by omega)
  obtain ⟨k1, hk⟩ : ∃ k, k = ((st p).2 + 1) % 4294967296 := ⟨_, rfl⟩
  rw [← hk] at hk1 hS
  rw [← hk]
  have HS := Lib.hid hS
  have HH := Lib.hid h
  have hAS : A ≠ S1 := rowIs_ne h.cells h.stands (by decide)
  have hAz : A < w.heap.size := h.cells.lt
  have hSz : S1 < w.heap.size := h.stands.lt
  have d1 : decide (p < P) = true := by simp; omega
  clear hS h hx hk
  generalize (st p).1 = sx at *
  generalize (st p).2 = sk at *
  go_enter Try.func53, Try.ntmps53
  go_upto_region 4 with (first
    | (go_at_call 90; (with_reducible refine Calls.mono (HS.out _) ?_); rintro e w1 ⟨rfl, hb⟩; (have HB1 : Hid (Below w.heap.size w w1) := hb); (have hz1 := hb.size); clear hb))
  obtain ⟨tb, htb⟩ : ∃ x, x = w1.heap.size := ⟨_, rfl⟩
  obtain ⟨w3, hw3⟩ : ∃ z, z = w1.alloc (.cells #[.int .i64 x, .int .u32 (k1 : Nat)] 66) := ⟨_, rfl⟩
  have HB3 : Hid (Below w.heap.size w w3) := by rw [hw3]; exact HB1.out.alloc hz1 _
  have t0 : w3.cell? ⟨tb, 0, none⟩ = some (.int .i64 x) := by rw [hw3, htb]; exact tgt_on' (heap_alloc_new _ _) 0 _ rfl
  have t1 : w3.cell? ⟨tb, 1, none⟩ = some (.int .u32 (k1 : Nat)) := by rw [hw3, htb]; exact tgt_on' (heap_alloc_new _ _) 1 _ rfl
  have hz3 : w3.heap.size = tb + 1 := by rw [hw3, htb, World.size_alloc]
  rw [← hw3, ← htb]
  have HM3 := Lib.hid (HH.out.call HB3.out)
  have htb2 : w.heap.size ≤ tb := by omega
  clear hw3 htb HB1 s0 s1 c1 hz1
  have c1 : w3.cell? ⟨A, 1, none⟩ = some (.slice (some ⟨S1, 0, none⟩) P P) := HM3.out.cells.cell (by omega)
  refine wp_region_held_drew (S := fun w' => w'.cell? ⟨A, 1, none⟩ = some (.slice (some ⟨S1, 0, none⟩) P P) ∧ w'.cell? ⟨tb, 0, none⟩ = some (.int .i64 x) ∧ w'.cell? ⟨tb, 1, none⟩ = some (.int .u32 (k1 : Nat))) (by kernel_rfl) ?_ (fun hHeld => ?_)
  · exact ⟨c1, t0, t1⟩
  obtain ⟨v0, hv0⟩ : ∃ w', w' = w3.drew := ⟨_, rfl⟩
  have hvb : Below w3.heap.size w3 v0 := by rw [hv0]; exact (Below.refl _ _).drew
  rw [← hv0] at hHeld ⊢
  clear hv0
  have HM4 := Lib.hid (HM3.out.call hvb)
  have s0 : v0.cell? ⟨S1, p * 2, none⟩ = some (rowS st (p * 2)) := HM4.out.stands.cell (by omega)
  have s1 : v0.cell? ⟨S1, p * 2 + 1, none⟩ = some (rowS st (p * 2 + 1)) := HM4.out.stands.cell (by omega)
  have fz : ∀ o, v0.frozen? ⟨S1, o, none⟩ = false := fun o => HM4.out.stands.frozen o
  have HK9 : Hid (∀ q : Addr, q.block ≠ S1 → ((v0.setCell ⟨S1, p * 2, none⟩ (.int .i64 x)).setCell ⟨S1, p * 2 + 1, none⟩ (.int .u32 (k1 : Nat))).cell? q = v0.cell? q) := fun q hq =>
    (World.cell?_setCell_other _ _ _ _ (by intro e; exact hq (by rw [← e]))).trans (World.cell?_setCell_other _ _ _ _ (by intro e; exact hq (by rw [← e])))
  refine wpAnyH_take (i := 0) (oi := { dst := some 23, op := Go.Op.move (Go.Operand.tmp 0), type := 31, pos := "do.go:84", after := #[], guard := none }) (v := ?_) rfl (by kernel_rfl) (by kernel_rfl) (by kernel_rfl) (fun _ _ _ h => h) (Or.inl ⟨by rfl, ?_⟩) (by assumption) ?_
  rotate_left
  · intro w hSw
    (try dsimp only at hSw)
    go_simp
    try with_reducible rfl
  (try simp only [Act.put, List.setIfInBounds_toArray, List.set_cons_zero, List.set_cons_succ])
  refine wpAnyH_take (i := 1) (oi := { dst := some 24, op := Go.Op.nilCheck (Go.Operand.tmp 23), type := 0, pos := "do.go:84", after := #[{ on := 0, ground := Go.Ground.data }], guard := none }) (v := ?_) rfl (by kernel_rfl) (by kernel_rfl) (by kernel_rfl) (fun _ _ _ h => h) (Or.inl ⟨by rfl, ?_⟩) (by assumption) ?_
  rotate_left
  · intro w hSw
    (try dsimp only at hSw)
    go_simp
    try with_reducible rfl
  (try simp only [Act.put, List.setIfInBounds_toArray, List.set_cons_zero, List.set_cons_succ])
  refine wpAnyH_take (i := 2) (oi := { dst := some 25, op := Go.Op.fieldAddr 100 (Go.Operand.tmp 24) 1, type := 0, pos := "do.go:84", after := #[{ on := 1, ground := Go.Ground.data }], guard := none }) (v := ?_) rfl (by kernel_rfl) (by kernel_rfl) (by kernel_rfl) (fun _ _ _ h => h) (Or.inl ⟨by rfl, ?_⟩) (by assumption) ?_
  rotate_left
  · intro w hSw
    (try dsimp only at hSw)
    go_simp
    try with_reducible rfl
  (try simp only [Act.put, List.setIfInBounds_toArray, List.set_cons_zero, List.set_cons_succ])
  refine wpAnyH_take (i := 3) (oi := { dst := some 26, op := Go.Op.load 59 (Go.Operand.tmp 25), type := 59, pos := "do.go:84", after := #[{ on := 2, ground := Go.Ground.data }], guard := none }) (v := ?_) rfl (by kernel_rfl) (by kernel_rfl) (by kernel_rfl) (fun _ _ _ h => h) (Or.inl ⟨by rfl, ?_⟩) (by assumption) ?_
  rotate_left
  · intro w hSw
    (try dsimp only at hSw)
    go_simp
    try with_reducible rfl
  (try simp only [Act.put, List.setIfInBounds_toArray, List.set_cons_zero, List.set_cons_succ])
  refine wpAnyH_take (i := 4) (oi := { dst := some 27, op := Go.Op.move (Go.Operand.tmp 1), type := 3, pos := "do.go:84", after := #[], guard := none }) (v := ?_) rfl (by kernel_rfl) (by kernel_rfl) (by kernel_rfl) (fun _ _ _ h => h) (Or.inl ⟨by rfl, ?_⟩) (by assumption) ?_
  rotate_left
  · intro w hSw
    (try dsimp only at hSw)
    go_simp
    try with_reducible rfl
  (try simp only [Act.put, List.setIfInBounds_toArray, List.set_cons_zero, List.set_cons_succ])
  refine wpAnyH_take (i := 5) (oi := { dst := some 28, op := Go.Op.load 66 (Go.Operand.tmp 7), type := 66, pos := "do.go:84", after := #[], guard := none }) (v := ?_) rfl (by kernel_rfl) (by kernel_rfl) (by kernel_rfl) (fun _ _ _ h => h) (Or.inl ⟨by rfl, ?_⟩) (by assumption) ?_
  rotate_left
  · intro w hSw
    (try dsimp only at hSw)
    go_simp
    try with_reducible rfl
  (try simp only [Act.put, List.setIfInBounds_toArray, List.set_cons_zero, List.set_cons_succ])
  refine wpAnyH_take (i := 6) (oi := { dst := some 29, op := Go.Op.indexAddr 59 (Go.Operand.tmp 26) (Go.Operand.tmp 27), type := 0, pos := "do.go:84", after := #[{ on := 3, ground := Go.Ground.data }, { on := 4, ground := Go.Ground.data }, { on := 0, ground := Go.Ground.phase }, { on := 1, ground := Go.Ground.phase }, { on := 2, ground := Go.Ground.phase }, { on := 3, ground := Go.Ground.phase }, { on := 4, ground := Go.Ground.phase }, { on := 5, ground := Go.Ground.phase }], guard := none }) (v := ?_) rfl (by kernel_rfl) (by kernel_rfl) (by kernel_rfl) (fun _ _ _ h => h) (Or.inl ⟨by rfl, ?_⟩) (by assumption) ?_
  rotate_left
  · intro w hSw
    (try dsimp only at hSw)
    go_simp
    try with_reducible rfl
  (try simp only [Act.put, List.setIfInBounds_toArray, List.set_cons_zero, List.set_cons_succ])
  refine wpAnyH_ready (rs := [7]) (by kernel_rfl) (by simp) ?_
  refine AllReadyH.cons (o := { dst := none, op := Go.Op.store 66 (Go.Operand.tmp 29) (Go.Operand.tmp 28), type := 0, pos := "do.go:84", after := #[{ on := 6, ground := Go.Ground.data }, { on := 5, ground := Go.Ground.data }, { on := 0, ground := Go.Ground.phase }, { on := 1, ground := Go.Ground.phase }, { on := 2, ground := Go.Ground.phase }, { on := 3, ground := Go.Ground.phase }, { on := 4, ground := Go.Ground.phase }, { on := 5, ground := Go.Ground.phase }], guard := none }) rfl (fun K hK => ?_) AllReadyH.nil
  go_simp

  refine hK.out _ _ ?_ (fun hHeld => ?_)
  · (try dsimp only)
    obtain ⟨q0, q1, q2⟩ := hHeld
    exact ⟨(HK9.out _ hAS).trans q0, (HK9.out _ (by show tb ≠ S1; omega)).trans q1, (HK9.out _ (by show tb ≠ S1; omega)).trans q2⟩
  clear hK K
  (try simp only [Act.put, List.setIfInBounds_toArray, List.set_cons_zero, List.set_cons_succ])
  refine wpAnyH_done (by kernel_rfl) ?_ _
  obtain ⟨w9, hw9⟩ : ∃ z, z = ((v0.setCell ⟨S1, p * 2, none⟩ (.int .i64 x)).setCell ⟨S1, p * 2 + 1, none⟩ (.int .u32 (k1 : Nat))) := ⟨_, rfl⟩
  have HM9 : Hid (MdAt w9 L A S1 Q uv (.pointer (some ⟨bp, 0, none⟩)) P r nv lv (updS st p x k1) G) := by rw [hw9]; exact HM4.out.setS p x k1
  have HB9 : Hid (But S1 w w9) := by
    rw [hw9]
    exact ((But.of (HB3.out.trans (hvb.mono (by omega))) (by omega)).trans (But.set _ _)).trans (But.set _ _)
  rw [← hw9] at hHeld ⊢
  obtain ⟨q0, q1, q2⟩ := hHeld
  clear hw9 HM4 s0 s1 fz HK9 hvb t0 t1 c1
  go_wp2
  go_ret
  exact ⟨by first | rfl | (simp; done), HM9.out, HB9.out⟩
/-- What comes of a Send. -/
def sendK (lv : List Vl) (nv : Nat) (s : Int) (p : Nat) (vid : Int) : Nat := if s ≠ 4 then 0 else if findN lv vid nv < 0 then 1 else if hasB (lv.getD (findN lv vid nv).toNat vl0).mem p = false then 1 else if hasB (lv.getD (findN lv vid nv).toNat vl0).unt p = true then 2 else 3
set_option maxRecDepth 20000 in
set_option maxHeartbeats 3200000 in
theorem model_send {w : World} {L A S1 Q bp : Nat} {uv : Value} {P r nv : Nat} {lv : List Vl} {st : Nat → Int × Nat} {G : Nat → Value} (h : MdAt w L A S1 Q uv (.pointer (some ⟨bp, 0, none⟩)) P r nv lv st G) (hok : ∀ x ∈ lv, x.ok) (p : Nat) (hp : p < P) (vid : Int) : Calls Try.prog 57 #[.pointer (some ⟨A, 0, none⟩), .int .i64 (p : Nat), .int .i64 vid] w (Says (.int .i64 (sendK lv nv (st p).1 p vid : Nat)) w) := by
  obtain ⟨s0, s1⟩ := thereS h p hp
  have c1 : w.cell? ⟨A, 1, none⟩ = some (.slice (some ⟨S1, 0, none⟩) P P) := h.cells.cell (by omega)
  have hF := fun W => port_Forwards (st p).1 W
  have hV := fun w' (hb : Below w.heap.size w w') => vlan_Find (Sl.of_own (h.call hb).vlans) (Nat.le_refl _) vid
  have d1 : decide (p < P) = true := by simp; omega
  have hbd := firstI_bd (vidAt lv vid) nv
  obtain ⟨X, hX⟩ : ∃ X, X = sendK lv nv (st p).1 p vid := ⟨_, rfl⟩
  rw [← hX]
  unfold sendK at hX
  obtain ⟨Au, cu, huv, _, _⟩ := (Sl.of_own h.vlans).form
  have HH := Lib.hid h
  have hsl := Sl.of_own h.vlans
  generalize (st p).1 = s at *
  by_cases hs : s = 4
  · subst hs
    rw [if_neg (by simp)] at hX
    have hF' : ∀ W, Calls Try.prog 92 #[.int .i64 4] W fun e w' => e = .returned (.bool true) ∧ W = w' := hF
    have HF := Lib.hid hF'
    unfold findN at hV hX
    by_cases hneg : firstI (vidAt lv vid) nv < 0
    · rw [if_pos hneg] at hX
      have hm : firstI (vidAt lv vid) nv = -1 := by omega
      rw [hm] at hV
      have HV := Lib.hid hV
      have HX := Lib.hid hX
      subst huv
      have c2 : w.cell? ⟨A, 2, none⟩ = some (.slice Au nv cu) := h.cells.cell (by omega)
      clear hF hF' hV hX h hsl hneg hm hbd
      go_enter Try.func57, Try.ntmps57
      go_wp2_with (first
        | (go_at_call 92; (with_reducible refine Calls.mono (HF.out _) ?_); rintro e w1 ⟨rfl, rfl⟩)
        | (go_at_call 81; (with_reducible refine Calls.mono (HV.out _ (Below.refl _ _)) ?_); rintro e w1 ⟨rfl, hb⟩; (have HB := Lib.hid hb); clear hb))
      go_ret
      exact ⟨by rw [HX.out]; rfl, HB.out⟩
    · rw [if_neg hneg] at hX
      obtain ⟨j, hj⟩ : ∃ j : Nat, firstI (vidAt lv vid) nv = j := ⟨(firstI (vidAt lv vid) nv).toNat, by omega⟩
      rw [hj, Int.toNat_natCast] at hX
      have hjn : j < nv := by omega
      rw [hj] at hV
      have HV := Lib.hid hV
      obtain ⟨b0, off, cap, e, hc1, hc2, hb0, hlen, hcell⟩ := hsl.vlAt (by omega)
      obtain ⟨k0, k1, k2⟩ := hcell j hjn
      have hok' := vl_ok hok j
      generalize hgx : lv.getD j vl0 = xv at *
      have hm1 := fun W => vlan_Has xv.mem hok'.2.1 (p : Int) W
      have hm2 := fun W => vlan_Has xv.unt hok'.2.2 (p : Int) W
      subst e
      have c2 : w.cell? ⟨A, 2, none⟩ = some (.slice (some ⟨b0, off, none⟩) nv cap) := h.cells.cell (by omega)
      have hAz : A < w.heap.size := h.cells.lt
      have HK := Lib.hid fun w' (hb : Below w.heap.size w w') => And.intro ((hb.cell (p := ⟨A, 2, none⟩) hAz).trans c2) (And.intro ((hb.cell (p := ⟨b0, off + j * 3 + 1, none⟩) hb0).trans k1) ((hb.cell (p := ⟨b0, off + j * 3 + 2, none⟩) hb0).trans k2))
      have d2 : decide (j < nv) = true := by simp; omega
      have g0 : (0 : Int) ≤ (j : Int) := Int.natCast_nonneg _
      have d3 : decide ((j : Int) < 0) = false := by simp
      clear hcell k0 k1 k2 hok' hgx hok hV hF hF' hbd hneg hj hlen h hsl huv
      generalize hasB xv.mem (p : Int) = z1 at *
      generalize hasB xv.unt (p : Int) = z2 at *
      have H1 := Lib.hid hm1
      have H2 := Lib.hid hm2
      clear hm1 hm2
      cases z1
      · rw [if_pos rfl] at hX
        have HX := Lib.hid hX
        clear hX
        go_enter Try.func57, Try.ntmps57
        go_wp2_with (first
          | (go_at_call 92; (with_reducible refine Calls.mono (HF.out _) ?_); rintro e w1 ⟨rfl, rfl⟩)
          | (go_at_call 81; (with_reducible refine Calls.mono (HV.out _ (Below.refl _ _)) ?_); rintro e w1 ⟨rfl, hb⟩; (have HB := Lib.hid hb); (obtain ⟨r2, r3, r4⟩ := HK.out _ hb); clear hb)
          | (go_at_call 93; (with_reducible refine Calls.mono (H1.out _) ?_); rintro e w2 ⟨rfl, rfl⟩)
          | (go_at_call 93; (with_reducible refine Calls.mono (H2.out _) ?_); rintro e w2 ⟨rfl, rfl⟩))
        go_ret
        exact ⟨by rw [HX.out]; rfl, HB.out⟩
      · rw [if_neg (by simp)] at hX
        cases z2
        · rw [if_neg (by simp)] at hX
          have HX := Lib.hid hX
          clear hX
          go_enter Try.func57, Try.ntmps57
          go_wp2_with (first
            | (go_at_call 92; (with_reducible refine Calls.mono (HF.out _) ?_); rintro e w1 ⟨rfl, rfl⟩)
            | (go_at_call 81; (with_reducible refine Calls.mono (HV.out _ (Below.refl _ _)) ?_); rintro e w1 ⟨rfl, hb⟩; (have HB := Lib.hid hb); (obtain ⟨r2, r3, r4⟩ := HK.out _ hb); clear hb)
            | (go_at_call 93; (with_reducible refine Calls.mono (H1.out _) ?_); rintro e w2 ⟨rfl, rfl⟩)
            | (go_at_call 93; (with_reducible refine Calls.mono (H2.out _) ?_); rintro e w2 ⟨rfl, rfl⟩))
          go_ret
          exact ⟨by rw [HX.out]; rfl, HB.out⟩
        · rw [if_pos rfl] at hX
          have HX := Lib.hid hX
          clear hX
          go_enter Try.func57, Try.ntmps57
          go_wp2_with (first
            | (go_at_call 92; (with_reducible refine Calls.mono (HF.out _) ?_); rintro e w1 ⟨rfl, rfl⟩)
            | (go_at_call 81; (with_reducible refine Calls.mono (HV.out _ (Below.refl _ _)) ?_); rintro e w1 ⟨rfl, hb⟩; (have HB := Lib.hid hb); (obtain ⟨r2, r3, r4⟩ := HK.out _ hb); clear hb)
            | (go_at_call 93; (with_reducible refine Calls.mono (H1.out _) ?_); rintro e w2 ⟨rfl, rfl⟩)
            | (go_at_call 93; (with_reducible refine Calls.mono (H2.out _) ?_); rintro e w2 ⟨rfl, rfl⟩))
          go_ret
          exact ⟨by rw [HX.out]; rfl, HB.out⟩
  · rw [if_pos hs] at hX
    have hd : decide (s = 4) = false := decide_eq_false hs
    rw [hd] at hF
    have HF := Lib.hid hF
    have HX := Lib.hid hX
    clear hF hV hX h hsl hs hd hbd
    go_enter Try.func57, Try.ntmps57
    go_wp2_with (first
      | (go_at_call 92; (with_reducible refine Calls.mono (HF.out _) ?_); rintro e w1 ⟨rfl, rfl⟩))
    go_ret
    exact ⟨by rw [HX.out]; rfl, Below.refl _ _⟩
set_option maxRecDepth 20000 in
set_option maxHeartbeats 3200000 in
theorem model_DoSet {w : World} {L A S1 Q bp : Nat} {uv : Value} {P r nv : Nat} {lv : List Vl} {st : Nat → Int × Nat} {G : Nat → Value} (h : MdAt w L A S1 Q uv (.pointer (some ⟨bp, 0, none⟩)) P r nv lv st G) (hP : P ≤ 64) (p : Nat) (hp : p < P) (x : Int) (hx : rightSt x = true) (tt vi : Int) (kv km me un nw li sh bu id : Int) : Calls Try.prog 14 #[.pointer (some ⟨A, 0, none⟩), opV 8 (p : Nat) tt vi x kv km me un nw li sh bu id] w fun e w' => e = .returned (.int .i64 ((((st p).2 + 1) % 4294967296 : Nat) : Int)) ∧ MdAt w' L A S1 Q uv (.pointer (some ⟨bp, 0, none⟩)) P r nv lv (updS st p x (((st p).2 + 1) % 4294967296)) G ∧ But S1 w w' := by
  have HN := Lib.hid fun w' (hb : Below w.heap.size w w') => model_isNone (h.call hb)
  have hmay := fun w' (hb : Below w.heap.size w w') => model_may8 (h.call hb) (p : Nat) tt vi x kv km me un nw li sh bu id
  have hpb : portB P (p : Int) = true := by simp [portB]; omega
  rw [hpb] at hmay
  have HMAY := Lib.hid hmay
  have HC := Lib.hid fun w' (hb : Below w.heap.size w w') => model_setState (h.call hb) hP p hp x hx
  have hSz : S1 < w.heap.size := h.stands.lt
  have HBOX : Hid (∀ w', Below (w.heap.size + 1) (w.alloc (.cells #[.int .i64 8, .int .i64 (p : Nat), .int .i64 tt, .int .i64 vi, .int .i64 x, .int .i64 kv, .int .u64 km, .int .u64 me, .int .u64 un, .int .u32 nw, .int .u32 li, .int .i64 sh, .int .i64 bu, .int .i64 id] 50)) w' → (w'.cell? ⟨w.heap.size, 0, none⟩ = some (.int .i64 (8)) ∧ w'.cell? ⟨w.heap.size, 1, none⟩ = some (.int .i64 ((p : Nat))) ∧ w'.cell? ⟨w.heap.size, 2, none⟩ = some (.int .i64 (tt)) ∧ w'.cell? ⟨w.heap.size, 3, none⟩ = some (.int .i64 (vi)) ∧ w'.cell? ⟨w.heap.size, 4, none⟩ = some (.int .i64 (x)) ∧ w'.cell? ⟨w.heap.size, 5, none⟩ = some (.int .i64 kv) ∧ w'.cell? ⟨w.heap.size, 6, none⟩ = some (.int .u64 km) ∧ w'.cell? ⟨w.heap.size, 7, none⟩ = some (.int .u64 me) ∧ w'.cell? ⟨w.heap.size, 8, none⟩ = some (.int .u64 un) ∧ w'.cell? ⟨w.heap.size, 9, none⟩ = some (.int .u32 nw) ∧ w'.cell? ⟨w.heap.size, 10, none⟩ = some (.int .u32 li) ∧ w'.cell? ⟨w.heap.size, 11, none⟩ = some (.int .i64 sh) ∧ w'.cell? ⟨w.heap.size, 12, none⟩ = some (.int .i64 bu) ∧ w'.cell? ⟨w.heap.size, 13, none⟩ = some (.int .i64 id)) ) := fun w' hb => by
    refine ⟨?_, ?_, ?_, ?_, ?_, ?_, ?_, ?_, ?_, ?_, ?_, ?_, ?_, ?_⟩ <;>
    · rw [hb.cell (by show w.heap.size < _; omega)]
      simp [go_sem]
  have HLOW : Hid (∀ w', Below (w.heap.size + 1) (w.alloc (.cells #[.int .i64 8, .int .i64 (p : Nat), .int .i64 tt, .int .i64 vi, .int .i64 x, .int .i64 kv, .int .u64 km, .int .u64 me, .int .u64 un, .int .u32 nw, .int .u32 li, .int .i64 sh, .int .i64 bu, .int .i64 id] 50)) w' → Below w.heap.size w w') := fun w' hb => ((Below.refl w.heap.size w).alloc (Nat.le_refl _) _).trans (hb.mono (by omega))
  have HUP : Hid (∀ w' w'', Below (w.heap.size + 1) (w.alloc (.cells #[.int .i64 8, .int .i64 (p : Nat), .int .i64 tt, .int .i64 vi, .int .i64 x, .int .i64 kv, .int .u64 km, .int .u64 me, .int .u64 un, .int .u32 nw, .int .u32 li, .int .i64 sh, .int .i64 bu, .int .i64 id] 50)) w' → Below w'.heap.size w' w'' → Below (w.heap.size + 1) (w.alloc (.cells #[.int .i64 8, .int .i64 (p : Nat), .int .i64 tt, .int .i64 vi, .int .i64 x, .int .i64 kv, .int .u64 km, .int .u64 me, .int .u64 un, .int .u32 nw, .int .u32 li, .int .i64 sh, .int .i64 bu, .int .i64 id] 50)) w'') := fun w' w'' h1 h2 => h1.trans (h2.mono (by have := h1.size; simp at this; omega))
  have hq : Below (w.heap.size + 1) (w.alloc (.cells #[.int .i64 8, .int .i64 (p : Nat), .int .i64 tt, .int .i64 vi, .int .i64 x, .int .i64 kv, .int .u64 km, .int .u64 me, .int .u64 un, .int .u32 nw, .int .u32 li, .int .i64 sh, .int .i64 bu, .int .i64 id] 50)) (w.alloc (.cells #[.int .i64 8, .int .i64 (p : Nat), .int .i64 tt, .int .i64 vi, .int .i64 x, .int .i64 kv, .int .u64 km, .int .u64 me, .int .u64 un, .int .u32 nw, .int .u32 li, .int .i64 sh, .int .i64 bu, .int .i64 id] 50)) := Below.refl _ _
  have HH := Lib.hid h
  clear h hmay hpb
  unfold opV at HMAY ⊢
  go_enter Try.func14, Try.ntmps14
  go_wp2_with (first
    | (go_at_call 43; (with_reducible refine Calls.mono (HN.out _ (HLOW.out _ hq)) ?_); rintro e wa ⟨rfl, hba⟩; (have hq := HUP.out _ _ hq hba); (obtain ⟨q0, q1, q2, q3, q4, q5, q6, q7, q8, q9, q10, q11, q12, q13⟩ := HBOX.out _ hq); clear hba)
    | (go_at_call 44; (with_reducible refine Calls.mono (HMAY.out _ (HLOW.out _ hq)) ?_); rintro e wa ⟨rfl, hba⟩; (have hq := HUP.out _ _ hq hba); (obtain ⟨q0, q1, q2, q3, q4, q5, q6, q7, q8, q9, q10, q11, q12, q13⟩ := HBOX.out _ hq); clear hba)
    | (go_at_call 53; (with_reducible refine Calls.mono (HC.out _ (HLOW.out _ hq)) ?_); rintro e wz ⟨rfl, hmd, hbt⟩; (have HMD := Lib.hid hmd); (have HBT : Hid (But S1 w wz) := (But.of (HLOW.out _ hq) (by omega)).trans hbt); clear hmd hbt hq))
  go_ret
  exact ⟨by first | rfl | (simp; done), HMD.out, HBT.out⟩
set_option maxRecDepth 20000 in
set_option maxHeartbeats 3200000 in
theorem model_DoSend {w : World} {L A S1 Q bp : Nat} {uv : Value} {P r nv : Nat} {lv : List Vl} {st : Nat → Int × Nat} {G : Nat → Value} (h : MdAt w L A S1 Q uv (.pointer (some ⟨bp, 0, none⟩)) P r nv lv st G) (hok : ∀ x ∈ lv, x.ok) (p : Nat) (hp : p < P) (po vi sx : Int) (kv km me un nw li sh bu id : Int) : Calls Try.prog 14 #[.pointer (some ⟨A, 0, none⟩), opV 12 po (p : Nat) vi sx kv km me un nw li sh bu id] w (Says (.int .i64 (sendK lv nv (st p).1 p vi : Nat)) w) := by
  have HN := Lib.hid fun w' (hb : Below w.heap.size w w') => model_isNone (h.call hb)
  have hmay := fun w' (hb : Below w.heap.size w w') => model_may12 (h.call hb) po (p : Nat) vi sx kv km me un nw li sh bu id
  have hpb : portB P (p : Int) = true := by simp [portB]; omega
  rw [hpb] at hmay
  have HMAY := Lib.hid hmay
  have HC := Lib.hid fun w' (hb : Below w.heap.size w w') => model_send (h.call hb) hok p hp vi
  have HBOX : Hid (∀ w', Below (w.heap.size + 1) (w.alloc (.cells #[.int .i64 12, .int .i64 po, .int .i64 (p : Nat), .int .i64 vi, .int .i64 sx, .int .i64 kv, .int .u64 km, .int .u64 me, .int .u64 un, .int .u32 nw, .int .u32 li, .int .i64 sh, .int .i64 bu, .int .i64 id] 50)) w' → (w'.cell? ⟨w.heap.size, 0, none⟩ = some (.int .i64 (12)) ∧ w'.cell? ⟨w.heap.size, 1, none⟩ = some (.int .i64 (po)) ∧ w'.cell? ⟨w.heap.size, 2, none⟩ = some (.int .i64 ((p : Nat))) ∧ w'.cell? ⟨w.heap.size, 3, none⟩ = some (.int .i64 (vi)) ∧ w'.cell? ⟨w.heap.size, 4, none⟩ = some (.int .i64 (sx)) ∧ w'.cell? ⟨w.heap.size, 5, none⟩ = some (.int .i64 kv) ∧ w'.cell? ⟨w.heap.size, 6, none⟩ = some (.int .u64 km) ∧ w'.cell? ⟨w.heap.size, 7, none⟩ = some (.int .u64 me) ∧ w'.cell? ⟨w.heap.size, 8, none⟩ = some (.int .u64 un) ∧ w'.cell? ⟨w.heap.size, 9, none⟩ = some (.int .u32 nw) ∧ w'.cell? ⟨w.heap.size, 10, none⟩ = some (.int .u32 li) ∧ w'.cell? ⟨w.heap.size, 11, none⟩ = some (.int .i64 sh) ∧ w'.cell? ⟨w.heap.size, 12, none⟩ = some (.int .i64 bu) ∧ w'.cell? ⟨w.heap.size, 13, none⟩ = some (.int .i64 id)) ) := fun w' hb => by
    refine ⟨?_, ?_, ?_, ?_, ?_, ?_, ?_, ?_, ?_, ?_, ?_, ?_, ?_, ?_⟩ <;>
    · rw [hb.cell (by show w.heap.size < _; omega)]
      simp [go_sem]
  have HLOW : Hid (∀ w', Below (w.heap.size + 1) (w.alloc (.cells #[.int .i64 12, .int .i64 po, .int .i64 (p : Nat), .int .i64 vi, .int .i64 sx, .int .i64 kv, .int .u64 km, .int .u64 me, .int .u64 un, .int .u32 nw, .int .u32 li, .int .i64 sh, .int .i64 bu, .int .i64 id] 50)) w' → Below w.heap.size w w') := fun w' hb => ((Below.refl w.heap.size w).alloc (Nat.le_refl _) _).trans (hb.mono (by omega))
  have HUP : Hid (∀ w' w'', Below (w.heap.size + 1) (w.alloc (.cells #[.int .i64 12, .int .i64 po, .int .i64 (p : Nat), .int .i64 vi, .int .i64 sx, .int .i64 kv, .int .u64 km, .int .u64 me, .int .u64 un, .int .u32 nw, .int .u32 li, .int .i64 sh, .int .i64 bu, .int .i64 id] 50)) w' → Below w'.heap.size w' w'' → Below (w.heap.size + 1) (w.alloc (.cells #[.int .i64 12, .int .i64 po, .int .i64 (p : Nat), .int .i64 vi, .int .i64 sx, .int .i64 kv, .int .u64 km, .int .u64 me, .int .u64 un, .int .u32 nw, .int .u32 li, .int .i64 sh, .int .i64 bu, .int .i64 id] 50)) w'') := fun w' w'' h1 h2 => h1.trans (h2.mono (by have := h1.size; simp at this; omega))
  have hq : Below (w.heap.size + 1) (w.alloc (.cells #[.int .i64 12, .int .i64 po, .int .i64 (p : Nat), .int .i64 vi, .int .i64 sx, .int .i64 kv, .int .u64 km, .int .u64 me, .int .u64 un, .int .u32 nw, .int .u32 li, .int .i64 sh, .int .i64 bu, .int .i64 id] 50)) (w.alloc (.cells #[.int .i64 12, .int .i64 po, .int .i64 (p : Nat), .int .i64 vi, .int .i64 sx, .int .i64 kv, .int .u64 km, .int .u64 me, .int .u64 un, .int .u32 nw, .int .u32 li, .int .i64 sh, .int .i64 bu, .int .i64 id] 50)) := Below.refl _ _
  have HH := Lib.hid h
  clear h hmay hpb
  unfold opV at HMAY ⊢
  go_enter Try.func14, Try.ntmps14
  go_wp2_with (first
    | (go_at_call 43; (with_reducible refine Calls.mono (HN.out _ (HLOW.out _ hq)) ?_); rintro e wa ⟨rfl, hba⟩; (have hq := HUP.out _ _ hq hba); (obtain ⟨q0, q1, q2, q3, q4, q5, q6, q7, q8, q9, q10, q11, q12, q13⟩ := HBOX.out _ hq); clear hba)
    | (go_at_call 44; (with_reducible refine Calls.mono (HMAY.out _ (HLOW.out _ hq)) ?_); rintro e wa ⟨rfl, hba⟩; (have hq := HUP.out _ _ hq hba); (obtain ⟨q0, q1, q2, q3, q4, q5, q6, q7, q8, q9, q10, q11, q12, q13⟩ := HBOX.out _ hq); clear hba)
    | (go_at_call 57; (with_reducible refine Calls.mono (HC.out _ (HLOW.out _ hq)) ?_); rintro e wz ⟨rfl, hbz⟩; (have HBZ := Lib.hid (HLOW.out _ (HUP.out _ _ hq hbz))); clear hbz hq))
  go_ret
  exact ⟨by first | rfl | (simp; done), HBZ.out⟩
set_option maxRecDepth 20000 in
set_option maxHeartbeats 3200000 in
theorem model_Do13 {w : World} {L A S1 Q bp : Nat} {uv : Value} {P r nv : Nat} {lv : List Vl} {st : Nat → Int × Nat} {G : Nat → Value} (h : MdAt w L A S1 Q uv (.pointer (some ⟨bp, 0, none⟩)) P r nv lv st G)  (po tt vi sx : Int) (kv km me un nw li sh bu id : Int) : Calls Try.prog 14 #[.pointer (some ⟨A, 0, none⟩), opV 13 po tt vi sx kv km me un nw li sh bu id] w (Says (.int .i64 (-1)) w) := by
  have HN := Lib.hid fun w' (hb : Below w.heap.size w w') => model_isNone (h.call hb)
  have hmay := fun w' (hb : Below w.heap.size w w') => model_may13 (h.call hb) po tt vi sx kv km me un nw li sh bu id
  skip
  skip
  have HMAY := Lib.hid hmay
  skip
  have HBOX : Hid (∀ w', Below (w.heap.size + 1) (w.alloc (.cells #[.int .i64 13, .int .i64 po, .int .i64 tt, .int .i64 vi, .int .i64 sx, .int .i64 kv, .int .u64 km, .int .u64 me, .int .u64 un, .int .u32 nw, .int .u32 li, .int .i64 sh, .int .i64 bu, .int .i64 id] 50)) w' → (w'.cell? ⟨w.heap.size, 0, none⟩ = some (.int .i64 (13)) ∧ w'.cell? ⟨w.heap.size, 1, none⟩ = some (.int .i64 (po)) ∧ w'.cell? ⟨w.heap.size, 2, none⟩ = some (.int .i64 (tt)) ∧ w'.cell? ⟨w.heap.size, 3, none⟩ = some (.int .i64 (vi)) ∧ w'.cell? ⟨w.heap.size, 4, none⟩ = some (.int .i64 (sx)) ∧ w'.cell? ⟨w.heap.size, 5, none⟩ = some (.int .i64 kv) ∧ w'.cell? ⟨w.heap.size, 6, none⟩ = some (.int .u64 km) ∧ w'.cell? ⟨w.heap.size, 7, none⟩ = some (.int .u64 me) ∧ w'.cell? ⟨w.heap.size, 8, none⟩ = some (.int .u64 un) ∧ w'.cell? ⟨w.heap.size, 9, none⟩ = some (.int .u32 nw) ∧ w'.cell? ⟨w.heap.size, 10, none⟩ = some (.int .u32 li) ∧ w'.cell? ⟨w.heap.size, 11, none⟩ = some (.int .i64 sh) ∧ w'.cell? ⟨w.heap.size, 12, none⟩ = some (.int .i64 bu) ∧ w'.cell? ⟨w.heap.size, 13, none⟩ = some (.int .i64 id)) ) := fun w' hb => by
    refine ⟨?_, ?_, ?_, ?_, ?_, ?_, ?_, ?_, ?_, ?_, ?_, ?_, ?_, ?_⟩ <;>
    · rw [hb.cell (by show w.heap.size < _; omega)]
      simp [go_sem]
  have HLOW : Hid (∀ w', Below (w.heap.size + 1) (w.alloc (.cells #[.int .i64 13, .int .i64 po, .int .i64 tt, .int .i64 vi, .int .i64 sx, .int .i64 kv, .int .u64 km, .int .u64 me, .int .u64 un, .int .u32 nw, .int .u32 li, .int .i64 sh, .int .i64 bu, .int .i64 id] 50)) w' → Below w.heap.size w w') := fun w' hb => ((Below.refl w.heap.size w).alloc (Nat.le_refl _) _).trans (hb.mono (by omega))
  have HUP : Hid (∀ w' w'', Below (w.heap.size + 1) (w.alloc (.cells #[.int .i64 13, .int .i64 po, .int .i64 tt, .int .i64 vi, .int .i64 sx, .int .i64 kv, .int .u64 km, .int .u64 me, .int .u64 un, .int .u32 nw, .int .u32 li, .int .i64 sh, .int .i64 bu, .int .i64 id] 50)) w' → Below w'.heap.size w' w'' → Below (w.heap.size + 1) (w.alloc (.cells #[.int .i64 13, .int .i64 po, .int .i64 tt, .int .i64 vi, .int .i64 sx, .int .i64 kv, .int .u64 km, .int .u64 me, .int .u64 un, .int .u32 nw, .int .u32 li, .int .i64 sh, .int .i64 bu, .int .i64 id] 50)) w'') := fun w' w'' h1 h2 => h1.trans (h2.mono (by have := h1.size; simp at this; omega))
  have hq : Below (w.heap.size + 1) (w.alloc (.cells #[.int .i64 13, .int .i64 po, .int .i64 tt, .int .i64 vi, .int .i64 sx, .int .i64 kv, .int .u64 km, .int .u64 me, .int .u64 un, .int .u32 nw, .int .u32 li, .int .i64 sh, .int .i64 bu, .int .i64 id] 50)) (w.alloc (.cells #[.int .i64 13, .int .i64 po, .int .i64 tt, .int .i64 vi, .int .i64 sx, .int .i64 kv, .int .u64 km, .int .u64 me, .int .u64 un, .int .u32 nw, .int .u32 li, .int .i64 sh, .int .i64 bu, .int .i64 id] 50)) := Below.refl _ _
  have HH := Lib.hid h
  clear h hmay 
  unfold opV at HMAY ⊢
  go_enter Try.func14, Try.ntmps14
  go_wp2_with (first
    | (go_at_call 43; (with_reducible refine Calls.mono (HN.out _ (HLOW.out _ hq)) ?_); rintro e wa ⟨rfl, hba⟩; (have hq := HUP.out _ _ hq hba); (obtain ⟨q0, q1, q2, q3, q4, q5, q6, q7, q8, q9, q10, q11, q12, q13⟩ := HBOX.out _ hq); clear hba)
    | (go_at_call 44; (with_reducible refine Calls.mono (HMAY.out _ (HLOW.out _ hq)) ?_); rintro e wa ⟨rfl, hba⟩; (have hq := HUP.out _ _ hq hba); (obtain ⟨q0, q1, q2, q3, q4, q5, q6, q7, q8, q9, q10, q11, q12, q13⟩ := HBOX.out _ hq); clear hba)
    | fail)
  go_ret
  exact ⟨by first | rfl | (simp; done), HLOW.out _ hq⟩
end
section
open Go.RowKit

theorem within_fx {k : Nat} (hk : 0 < k) (hk2 : k ≤ 5000) (x : Int) : withinI ((1 + fx k x : Nat) : Int) (k : Int) = true := by
  have := fx_lt hk x
  unfold withinI
  simp only [Bool.and_eq_true, decide_eq_true_eq]
  omega
theorem fix_good (lr : List Rl) (lv : List Vl) (P0 a b c t r : Int) (P S B n T G nv : Nat) (hP : P = 2 + fx 7 P0) (hT : T = 1 + fx 8 t) (hG : G = 1 + fx 64 r) (hS : S = 1 + fx 8 a) (hB : B = 1 + fx 16 b) (hn : n = 1 + fx 8 c) :
    planK (checkN (fixVs (allN P) lv (min nv 8)) P (min nv 8)) (decide ((P : Int) = P)) (!decide (P < P)) (rightS S B n && (withinI T 8 && withinI G 64)) = 0 := by
  have h0 := fx_lt (k := 7) (by omega) P0
  have h1 := fx_lt (k := 8) (by omega) a
  have h2 := fx_lt (k := 16) (by omega) b
  have h3 := fx_lt (k := 8) (by omega) c
  rw [fixVs_check lv (P := P) (by omega) (by omega) (by omega)]
  have e1 : rightS (S : Nat) (B : Nat) (n : Nat) = true := by
    unfold rightS inB
    simp
    omega
  have e2 : withinI (T : Nat) 8 = true := by rw [hT]; exact within_fx (k := 8) (by omega) (by omega) t
  have e3 : withinI (G : Nat) 64 = true := by rw [hG]; exact within_fx (k := 64) (by omega) (by omega) r
  rw [e1, e2, e3]
  simp [planK]
def toldVs : List Vl := fixVs (allN 2) [⟨0, 2, 0⟩] 1
theorem told_send1 : sendK toldVs 1 4 1 1 = 3 := by decide
theorem told_send0 : sendK toldVs 1 0 0 1 = 0 := by decide
theorem told_lit (w : World) (e : TypeId) : Sl (w.alloc (.cells #[.int .i64 0, .int .u64 2, .int .u64 0] e)) (w.heap.size + 1) 3 (.slice (some ⟨w.heap.size, 0, none⟩) 1 1) 1 (vlc [⟨0, 2, 0⟩]) :=
  Sl.litN w #[.int .i64 0, .int .u64 2, .int .u64 0] e 1 3 rfl (by decide)
theorem told_nil (w : World) (B : Nat) : Sl w B 2 (.slice none 0 0) 0 (rlc []) := ⟨rfl, none, 0, rfl, Nat.le_refl _, Nat.zero_le _, fun h => absurd h (by omega)⟩
theorem told_fix (w : World) (e : TypeId) : Calls Try.prog 22 #[planV 0 (.slice none 0 0) (.slice (some ⟨w.heap.size, 0, none⟩) 1 1) 0 0 0 0 0 0 0] (w.alloc (.cells #[.int .i64 0, .int .u64 2, .int .u64 0] e)) fun e' w' => ∃ Ar cr Av cv, e' = .returned (planV ((2 : Nat) : Int) (.slice Ar 2 cr) (.slice Av 1 cv) ((1 : Nat) : Int) ((1 : Nat) : Int) ((1 : Nat) : Int) ((1 : Nat) : Int) ((1 : Nat) : Int) 0 0) ∧ Sl w' w'.heap.size 2 (.slice Ar 2 cr) 2 (rlc (fixRs [] 2)) ∧ Sl w' w'.heap.size 3 (.slice Av 1 cv) 1 (vlc toldVs) ∧ Below w.heap.size w w' := by
  refine (ref17_Fix (told_nil _ _) (told_lit w e) (by intro x hx; simp at hx; subst hx; unfold Vl.ok; decide) (by rw [World.size_alloc]; exact Nat.le_refl _) 0 0 0 0 0 0 0 0 2 1 1 1 1 1 (by decide) (by decide) (by decide) (by decide) (by decide) (by decide)).mono ?_
  rintro e' w' ⟨ur, uv, rfl, h1, h2, hb⟩
  obtain ⟨Ar, cr, rfl, _, _⟩ := (Sl.of_own h1).form
  obtain ⟨Av, cv, rfl, _, _⟩ := (Sl.of_own h2).form
  refine ⟨Ar, cr, Av, cv, rfl, Sl.of_own h1, Sl.of_own h2, ((Below.refl _ _).alloc (Nat.le_refl _) _).trans (hb.mono (by rw [World.size_alloc]; omega))⟩
theorem told_to (W : World) (B : Nat) (Ar : Option Addr) (cr : Nat) (Av : Option Addr) (cv : Nat) (h1 : Sl W B 2 (.slice Ar 2 cr) 2 (rlc (fixRs [] 2))) (h2 : Sl W B 3 (.slice Av 1 cv) 1 (vlc toldVs)) (hB : B ≤ W.heap.size) :
    Calls Try.prog 11 #[.agg #[.int .i64 2, .slice Ar 2 cr, .slice Av 1 cv, .int .i64 1, .int .i64 1, .int .i64 1, .int .i64 1, .int .i64 1, .int .u32 0, .int .u32 0]] W fun e w' => ∃ Ar' cr' Av' cv', e = .returned (.agg #[.int .i64 2, .slice Ar' 2 cr', .slice Av' 1 cv', .int .i64 1, .int .i64 1, .int .i64 1, .int .i64 1, .int .i64 1, .int .u32 0, .int .u32 0]) ∧ Sl w' w'.heap.size 2 (.slice Ar' 2 cr') 2 (rlc (fixRs [] 2)) ∧ Sl w' w'.heap.size 3 (.slice Av' 1 cv') 1 (vlc toldVs) ∧ Below W.heap.size W w' := by
  refine (law17_To h1 h2 hB (by omega) (by omega) 2 1 1 1 1 1 0 0).mono ?_
  rintro e w' ⟨ur, uv, rfl, h1, h2, hb⟩
  obtain ⟨Ar', cr', rfl, _, _⟩ := (Sl.of_own h1).form
  obtain ⟨Av', cv', rfl, _, _⟩ := (Sl.of_own h2).form
  exact ⟨Ar', cr', Av', cv', rfl, Sl.of_own h1, Sl.of_own h2, hb⟩
theorem told_new (W : World) (B : Nat) (Ar : Option Addr) (cr : Nat) (Av : Option Addr) (cv : Nat) (h1 : Sl W B 2 (.slice Ar 2 cr) 2 (rlc (fixRs [] 2))) (h2 : Sl W B 3 (.slice Av 1 cv) 1 (vlc toldVs)) (hB : B ≤ W.heap.size) :
    Calls Try.prog 10 #[.agg #[.int .i64 2, .slice Ar 2 cr, .slice Av 1 cv, .int .i64 1, .int .i64 1, .int .i64 1, .int .i64 1, .int .i64 1, .int .u32 0, .int .u32 0]] W fun e w' => ∃ (A S1 Q bp : Nat) (uv : Value) (G : Nat → Value), e = .returned (.tuple #[.pointer (some ⟨A, 0, none⟩), .int .i64 0]) ∧ MdAt w' W.heap.size A S1 Q uv (.pointer (some ⟨bp, 0, none⟩)) 2 1 1 toldVs (fun _ => (0, 0)) G ∧ Below W.heap.size W w' := by
  refine (model_New h1 h2 (fixVs_ok _ _ (allN_lt _) 1 (by omega)) hB (fixRs_first [] 2) 2 1 1 1 1 1 0 0 (by omega) (by omega) (by omega) (by omega) (by omega) (fix_good [] [⟨0, 2, 0⟩] 0 0 0 0 0 0 2 1 1 1 1 1 1 (by decide) (by decide) (by decide) (by decide) (by decide) (by decide))).mono ?_
  rintro e w' ⟨A, S1, Q, bp, bq, hN, uv, R, G, rfl, hm, hrest⟩
  obtain ⟨_, _, _, _, _, _, _, hb⟩ := hrest
  exact ⟨A, S1, Q, bp, uv, G, rfl, hm, hb⟩
theorem toldVs_ok : ∀ x ∈ toldVs, x.ok := fixVs_ok _ _ (allN_lt _) 1 (by omega)
set_option maxRecDepth 20000 in
set_option maxHeartbeats 3200000 in
theorem law17_told (w : World) : Calls Try.prog 12 #[] w (Says (.bool true) w) := by
  have hfx := fun W e => told_fix W e
  unfold planV at hfx
  have HFX := Lib.hid hfx
  have HTO := Lib.hid told_to
  have HNW := Lib.hid told_new
  clear hfx
  go_enter Try.func12, Try.ntmps12
  go_wp2_with (first
    | (go_at_call 22; (refine Calls.mono (HFX.out _ _) ?_); rintro e w1 ⟨Ar, cr, Av, cv, rfl, h1, h2, hb⟩; (have H1 := Lib.hid h1); (have H2 := Lib.hid h2); (have HB1 := Lib.hid hb); (have hz1 := hb.size); clear h1 h2 hb)
    | (go_at_call 11; (refine Calls.mono (HTO.out _ w1.heap.size _ _ _ _ (H1.out.below ((Below.refl _ _).alloc (Nat.le_refl _) _)) (H2.out.below ((Below.refl _ _).alloc (Nat.le_refl _) _)) (by rw [World.size_alloc]; omega)) ?_); rintro e w3 ⟨Ar', cr', Av', cv', rfl, h1, h2, hb⟩; (have H3 := Lib.hid h1); (have H4 := Lib.hid h2); (have HB3 : Hid (Below w.heap.size w w3) := (HB1.out.alloc hz1 _).trans (hb.mono (by rw [World.size_alloc]; omega))); (have hz3 := HB3.out.size); clear h1 h2 hb)
    | (go_at_call 10; (refine Calls.mono (HNW.out _ w3.heap.size _ _ _ _ H3.out H4.out (Nat.le_refl _)) ?_); rintro e w4 ⟨A, S1, Q, bp, uv, G, rfl, hm, hb⟩; (have HM := Lib.hid hm); (have HB4 : Hid (Below w.heap.size w w4) := HB3.out.trans (hb.mono hz3)); (have hz4 := HB4.out.size); clear hm hb)
    | fail)
  refine (model_DoSet HM.out (by omega) 1 (by omega) 4 (by decide) 0 0 0 0 0 0 0 0 0 0 0).mono ?_
  rintro e w5 ⟨rfl, hm5, hbt⟩
  have HM5 := Lib.hid hm5
  have HB5 : Hid (Below w.heap.size w w5) := HB4.out.trans (hbt.below.mono (by have := HM.out.ls; omega))
  have hz5 := HB5.out.size
  clear hm5 hbt
  go_wp2_with fail
  refine (model_DoSend HM5.out toldVs_ok 1 (by omega) 0 1 0 0 0 0 0 0 0 0 0 0).mono ?_
  rintro e w6 ⟨rfl, hb⟩
  have HM6 := Lib.hid (HM5.out.call hb)
  have HB6 : Hid (Below w.heap.size w w6) := HB5.out.trans (hb.mono hz5)
  have hz6 := HB6.out.size
  have hk1 : sendK toldVs 1 (updS (fun _ => (0, 0)) 1 4 ((((fun _ => (0, 0)) : Nat → Int × Nat) 1).2 + 1) 1).1 1 1 = 3 := told_send1
  rw [hk1]
  clear hb hk1
  go_wp2_with fail
  refine (model_DoSend HM6.out toldVs_ok 0 (by omega) 0 1 0 0 0 0 0 0 0 0 0 0).mono ?_
  rintro e w7 ⟨rfl, hb⟩
  have HM7 := Lib.hid (HM6.out.call hb)
  have HB7 : Hid (Below w.heap.size w w7) := HB6.out.trans (hb.mono hz6)
  have hz7 := HB7.out.size
  have hk0 : sendK toldVs 1 (updS (fun _ => (0, 0)) 1 4 ((0 + 1) % 4294967296) 0).1 0 1 = 0 := told_send0
  rw [hk0]
  clear hb hk0
  go_wp2_with fail
  refine (model_Do13 HM7.out 0 0 0 0 0 0 0 0 0 0 0 0 0).mono ?_
  rintro e w8 ⟨rfl, hb⟩
  have HB8 : Hid (Below w.heap.size w w8) := HB7.out.trans (hb.mono hz7)
  clear hb
  go_wp2
  go_ret
  exact ⟨by first | rfl | (simp; done), HB8.out⟩
end
section
open Go.RowKit

set_option maxHeartbeats 6400000 in
theorem ref3_Check {l : List Vl} {n : Nat} {v : Value} {w : World} {B : Nat} (hok : ∀ x ∈ l, x.ok) (hv : Sl w B 3 v n (vlc l)) (ports : Int) :
    Calls Try.prog 31 #[v, .int .i64 ports] w (Says (.int .i64 (checkN l ports n : Nat)) w) := by
  obtain ⟨A, cap, rfl, hcap, hmx⟩ := hv.form
  have hmx' := hmx
  unfold maxLen at hmx'
  by_cases hp : ports < 2 ∨ 64 < ports
  · rw [check5 hp]
    clear hv
    rcases hp with hp | hp
    · go_enter Try.func31, Try.ntmps31
      go_wp2
      go_ret
      exact ⟨rfl, Below.refl _ _⟩
    · have hp2 : ¬ ports < 2 := by omega
      go_enter Try.func31, Try.ntmps31
      go_wp2
      go_ret
      exact ⟨rfl, Below.refl _ _⟩
  · have hp1 : ¬ ports < 2 := by omega
    have hp2 : ¬ 64 < ports := by omega
    by_cases h16 : 16 < n
    · rw [check8 hp h16]
      have h16' : (16 : Int) < (n : Int) := by omega
      clear hv hp
      go_enter Try.func31, Try.ntmps31
      go_wp2
      go_ret
      exact ⟨rfl, Below.refl _ _⟩
    · have h16' : ¬ (16 : Int) < (n : Int) := by omega
      obtain ⟨C, hC⟩ : ∃ C, C = checkN l ports n := ⟨_, rfl⟩
      rw [← hC]
      have HC := Lib.hid hC
      have HP := Lib.hid hp
      have H16 := Lib.hid h16
      have HV := Lib.hid hv
      have HOK := Lib.hid hok
      have hal := allN_lt ports
      have hAll := fun W => ref3_All ports W
      obtain ⟨al, hal0⟩ : ∃ al, al = allN ports := ⟨_, rfl⟩
      rw [← hal0] at hAll hal
      have HALL := Lib.hid hAll
      have HAL := Lib.hid hal0
      have HALT := Lib.hid hal
      clear hC hp h16 hv hok hAll hal0 hal
      go_enter Try.func31, Try.ntmps31
      go_wp2
      go_loopw [5] (fun i wr => ∃ k : Nat, k ≤ n ∧ i = .int .i64 k ∧ Hid (∀ i, i < k → wrongAt l ports i = 0) ∧ ∃ m, wr = w.drewN m) (fun i _ => n - (intOf i).toNat)
      case atStart => exact ⟨0, by omega, rfl, fun i hi => by omega, 0, rfl⟩
      case round =>
        obtain ⟨k, hk, rfl, HF, m, rfl⟩ := hrel
        by_cases hlt : k < n
        · obtain ⟨b, off, cap', hvv, _, _, hb, hlen, hcell⟩ := HV.out.vlAt (show 0 < n by omega)
          injection hvv with e1 _ e2
          subst e1 e2
          obtain ⟨c0, c1, c2⟩ := hcell k hlt
          have hxok := vl_ok HOK.out k
          obtain ⟨x, hx⟩ : ∃ x, x = l.getD k vl0 := ⟨_, rfl⟩
          obtain ⟨ah, hah⟩ : ∃ ah, ah = aheadN l k := ⟨_, rfl⟩
          have W6a := Lib.hid (@wrong6a l ports k)
          have W6b := Lib.hid (@wrong6b l ports k)
          have W5 := Lib.hid (@wrong5 l ports k)
          have W1 := Lib.hid (@wrong1 l ports k)
          have W0 := Lib.hid (@wrong0 l ports k)
          rw [← hx, ← hah] at W6b W5 W1 W0
          rw [← hx] at W6a c0 c1 c2 hxok
          rw [← HAL.out] at W5 W1 W0
          have hWA := fun W => ref3_Within x.mem al hxok.2.1 HALT.out W
          have hWB := fun W => ref3_Within x.unt x.mem hxok.2.2 hxok.2.1 W
          have g0 : (0 : Int) ≤ (k : Int) := Int.natCast_nonneg _
          have g1 : (k : Int) < (n : Int) := by omega
          have hvbd : vidB x.vid = (decide (1 ≤ x.vid) && decide (x.vid ≤ 4094)) := rfl
          obtain ⟨vb, hvb⟩ : ∃ vb, vb = vidB x.vid := ⟨_, rfl⟩
          rw [← hvb] at hvbd W6a W6b W5 W1 W0
          have hah0 : k = 0 → ah = 0 := fun h => by rw [hah]; unfold aheadN; rw [if_pos h]
          have hah1 : 0 < k → ah = (l.getD (k - 1) vl0).vid := fun h => by rw [hah]; unfold aheadN; rw [if_neg (by omega)]
          have hp0 := fun h : 0 < k => (hcell (k - 1) (by omega)).1
          clear hx hah hvb hcell hlen hxok HV HOK HAL
          cases vb
          · have HW : Hid (C = 6) := by show C = 6; rw [HC.out]; exact checkAt HP.out H16.out HF.out hlt (W6a.out rfl) (by omega)
            by_cases h1 : x.vid < 1
            · have hd1 : decide (x.vid < 1) = true := by simp; omega
              clear hvbd hah0 hah1 hp0
              clear W6a W6b W5 W1 W0 HF hWA hWB
              go_wp2_with fail
              go_quiet (fail)
              go_wp2
              go_ret
              exact ⟨ret_i64 (by rw [HW.out]; rfl), (by repeat' (first | exact Below.refl _ _ | refine below_drewN ?_ _))⟩
            · have h2 : 4094 < x.vid := by simp at hvbd; omega
              have hd1 : decide (x.vid < 1) = false := by simp; omega
              have hd2 : decide (4094 < x.vid) = true := by simp; omega
              clear hvbd hah0 hah1 hp0
              clear W6a W6b W5 W1 W0 HF hWA hWB
              go_wp2_with fail
              go_quiet (fail)
              go_wp2
              go_ret
              exact ⟨ret_i64 (by rw [HW.out]; rfl), (by repeat' (first | exact Below.refl _ _ | refine below_drewN ?_ _))⟩
          · have hv1 : 1 ≤ x.vid := by simp at hvbd; omega
            have hv2 : x.vid ≤ 4094 := by simp at hvbd; omega
            have hd1 : decide (x.vid < 1) = false := by simp; omega
            have hd2 : decide (4094 < x.vid) = false := by simp; omega
            clear hvbd
            rcases Nat.eq_zero_or_pos k with hk0 | hk0
            · have hle : ¬ x.vid ≤ ah := by have := hah0 hk0; omega
              have hd3 : decide (0 < k) = false := by simp; omega
              clear hah0 hah1 hp0 hk0
              cases hw1 : withinB x.mem al
              · have HW : Hid (C = 5) := by show C = 5; rw [HC.out]; exact checkAt HP.out H16.out HF.out hlt (W5.out rfl hle hw1) (by omega)
                have KW1 := hWA
                rw [hw1] at KW1
                have KW1 := Lib.hid KW1
                clear W6a W6b W5 W1 W0 HF hw1 hWA hWB
                go_wp2_with fail
                go_quiet (fail)
                go_wp2_with fail
                go_quiet (first | (go_at_call 67; with_reducible exact still1 HALL.out _ _ _) | (go_at_call 75; with_reducible exact still1 KW1.out _ _ _))
                go_wp2
                go_ret
                exact ⟨ret_i64 (by rw [HW.out]; rfl), (by repeat' (first | exact Below.refl _ _ | refine below_drewN ?_ _))⟩
              · have KW1 := hWA
                rw [hw1] at KW1
                have KW1 := Lib.hid KW1
                cases hw2 : withinB x.unt x.mem
                · have HW : Hid (C = 1) := by show C = 1; rw [HC.out]; exact checkAt HP.out H16.out HF.out hlt (W1.out rfl hle hw1 hw2) (by omega)
                  have KW2 := hWB
                  rw [hw2] at KW2
                  have KW2 := Lib.hid KW2
                  clear W6a W6b W5 W1 W0 HF hw1 hw2 hWA hWB
                  go_wp2_with fail
                  go_quiet (fail)
                  go_wp2_with fail
                  go_quiet (first | (go_at_call 67; with_reducible exact still1 HALL.out _ _ _) | (go_at_call 75; with_reducible exact still1 KW1.out _ _ _))
                  go_wp2_with fail
                  go_quiet ((go_at_call 75; with_reducible exact still1 KW2.out _ _ _))
                  go_wp2
                  go_ret
                  exact ⟨ret_i64 (by rw [HW.out]; rfl), (by repeat' (first | exact Below.refl _ _ | refine below_drewN ?_ _))⟩
                · have HF2 := Lib.hid (all_step HF.out (W0.out rfl hle hw1 hw2))
                  have KW2 := hWB
                  rw [hw2] at KW2
                  have KW2 := Lib.hid KW2
                  clear W6a W6b W5 W1 W0 HF hw1 hw2 hWA hWB
                  go_wp2_with fail
                  go_quiet (fail)
                  go_wp2_with fail
                  go_quiet (first | (go_at_call 67; with_reducible exact still1 HALL.out _ _ _) | (go_at_call 75; with_reducible exact still1 KW1.out _ _ _))
                  go_wp2_with fail
                  go_quiet ((go_at_call 75; with_reducible exact still1 KW2.out _ _ _))
                  go_wp2
                  go_roundw
                  case rel => exact ⟨k + 1, by omega, by go_num, HF2.out, _, (by first | rfl | exact World.drewN_drewN _ _ _)⟩
                  case measure => simp [intOf]; omega
            · have hpc := hp0 hk0
              have ha := hah1 hk0
              rw [← ha] at hpc
              obtain ⟨j, hj⟩ : ∃ j, j = k - 1 := ⟨_, rfl⟩
              rw [← hj] at hpc
              have hw : IntKind.i64.wrap ((k : Int) - 1) = (j : Int) := by rw [IntWalk.i64_in _ (by omega)]; omega
              have hw2 : (k : Int) - 1 = (j : Int) := by omega
              have j0 : (0 : Int) ≤ (j : Int) := Int.natCast_nonneg _
              have j1 : (j : Int) < (n : Int) := by omega
              have hd3 : decide (0 < k) = true := by simp; omega
              clear hah0 hah1 hp0 ha hj
              by_cases hle : x.vid ≤ ah
              · have HW : Hid (C = 6) := by show C = 6; rw [HC.out]; exact checkAt HP.out H16.out HF.out hlt (W6b.out rfl hle) (by omega)
                have hd5 : decide (x.vid ≤ ah) = true := by simp; omega
                clear W6a W6b W5 W1 W0 HF hWA hWB
                go_wp2_with fail
                go_quiet (fail)
                go_wp2
                go_ret
                exact ⟨ret_i64 (by rw [HW.out]; rfl), (by repeat' (first | exact Below.refl _ _ | refine below_drewN ?_ _))⟩
              · have hd5 : decide (x.vid ≤ ah) = false := by simp; omega
                cases hw1 : withinB x.mem al
                · have HW : Hid (C = 5) := by show C = 5; rw [HC.out]; exact checkAt HP.out H16.out HF.out hlt (W5.out rfl hle hw1) (by omega)
                  have KW1 := hWA
                  rw [hw1] at KW1
                  have KW1 := Lib.hid KW1
                  clear W6a W6b W5 W1 W0 HF hw1 hWA hWB
                  go_wp2_with fail
                  go_quiet (fail)
                  go_wp2_with fail
                  go_quiet (first | (go_at_call 67; with_reducible exact still1 HALL.out _ _ _) | (go_at_call 75; with_reducible exact still1 KW1.out _ _ _))
                  go_wp2
                  go_ret
                  exact ⟨ret_i64 (by rw [HW.out]; rfl), (by repeat' (first | exact Below.refl _ _ | refine below_drewN ?_ _))⟩
                · have KW1 := hWA
                  rw [hw1] at KW1
                  have KW1 := Lib.hid KW1
                  cases hw2 : withinB x.unt x.mem
                  · have HW : Hid (C = 1) := by show C = 1; rw [HC.out]; exact checkAt HP.out H16.out HF.out hlt (W1.out rfl hle hw1 hw2) (by omega)
                    have KW2 := hWB
                    rw [hw2] at KW2
                    have KW2 := Lib.hid KW2
                    clear W6a W6b W5 W1 W0 HF hw1 hw2 hWA hWB
                    go_wp2_with fail
                    go_quiet (fail)
                    go_wp2_with fail
                    go_quiet (first | (go_at_call 67; with_reducible exact still1 HALL.out _ _ _) | (go_at_call 75; with_reducible exact still1 KW1.out _ _ _))
                    go_wp2_with fail
                    go_quiet ((go_at_call 75; with_reducible exact still1 KW2.out _ _ _))
                    go_wp2
                    go_ret
                    exact ⟨ret_i64 (by rw [HW.out]; rfl), (by repeat' (first | exact Below.refl _ _ | refine below_drewN ?_ _))⟩
                  · have HF2 := Lib.hid (all_step HF.out (W0.out rfl hle hw1 hw2))
                    have KW2 := hWB
                    rw [hw2] at KW2
                    have KW2 := Lib.hid KW2
                    clear W6a W6b W5 W1 W0 HF hw1 hw2 hWA hWB
                    go_wp2_with fail
                    go_quiet (fail)
                    go_wp2_with fail
                    go_quiet (first | (go_at_call 67; with_reducible exact still1 HALL.out _ _ _) | (go_at_call 75; with_reducible exact still1 KW1.out _ _ _))
                    go_wp2_with fail
                    go_quiet ((go_at_call 75; with_reducible exact still1 KW2.out _ _ _))
                    go_wp2
                    go_roundw
                    case rel => exact ⟨k + 1, by omega, by go_num, HF2.out, _, (by first | rfl | exact World.drewN_drewN _ _ _)⟩
                    case measure => simp [intOf]; omega
        · have : k = n := by omega
          subst this
          go_wp2
          go_ret
          exact ⟨ret_i64 (by rw [HC.out, check0 HP.out H16.out HF.out]; rfl), below_drewN (Below.refl _ _) _⟩
end
section
open Go.RowKit

set_option maxRecDepth 20000 in
set_option maxHeartbeats 3200000 in
theorem ref17_Check {w : World} {Bo nr nv m : Nat} {vr vv : Value} {lr : List Rl} {lv : List Vl} (hr : Sl w Bo 2 vr nr (rlc lr)) (hv : Sl w Bo 3 vv nv (vlc lv)) (hok : ∀ x ∈ lv, x.ok) (hB : Bo ≤ w.heap.size) (hf : FirstBad lr nr m) (P S B n t r nm sh : Int) :
    Calls Try.prog 9 #[planV P vr vv S B n t r nm sh] w (Says (.int .i64 (planK (checkN lv P nv) (decide ((nr : Int) = P)) (!decide (m < nr)) (rightS S B n && (withinI t 8 && withinI r 64)) : Nat)) w) := by
  obtain ⟨Ar, cr, rfl, hcr, hcm⟩ := hr.form
  unfold maxLen at hcm
  have HVC := Lib.hid fun w' (hb : Below w.heap.size w w') => ref3_Check hok (hv.below (hb.mono hB)) P
  have HV := Lib.hid hr
  have HF := Lib.hid hf
  have HBR := Lib.hid fun W => ref11_Right S B n W
  have HW := Lib.hid fun p a W => ref3_Right p a W
  clear hr hv hok hf
  obtain ⟨c, hc⟩ : ∃ c, c = checkN lv P nv := ⟨_, rfl⟩
  obtain ⟨zs, hzs⟩ : ∃ z, z = rightS S B n := ⟨_, rfl⟩
  rw [← hc] at HVC
  rw [← hzs] at HBR
  rw [← hc, ← hzs]
  clear hc hzs
  unfold planV
  obtain ⟨X, hX⟩ : ∃ X : Nat, X = planK c (decide ((nr : Int) = P)) (!decide (m < nr)) (zs && (withinI t 8 && withinI r 64)) := ⟨_, rfl⟩
  rw [← hX]
  have HX := Lib.hid hX
  clear hX
  have HBOX : Hid (∀ w', Below (w.heap.size + 1) (w.alloc (.cells #[.int .i64 P, .slice Ar nr cr, vv, .int .i64 S, .int .i64 B, .int .i64 n, .int .i64 t, .int .i64 r, .int .u32 nm, .int .u32 sh] 28)) w' → w'.cell? ⟨w.heap.size, 0, none⟩ = some (.int .i64 P) ∧ w'.cell? ⟨w.heap.size, 1, none⟩ = some (.slice Ar nr cr) ∧ w'.cell? ⟨w.heap.size, 2, none⟩ = some vv ∧ w'.cell? ⟨w.heap.size, 3, none⟩ = some (.int .i64 S) ∧ w'.cell? ⟨w.heap.size, 4, none⟩ = some (.int .i64 B) ∧ w'.cell? ⟨w.heap.size, 5, none⟩ = some (.int .i64 n) ∧ w'.cell? ⟨w.heap.size, 6, none⟩ = some (.int .i64 t) ∧ w'.cell? ⟨w.heap.size, 7, none⟩ = some (.int .i64 r)) := fun w' hb => by
    refine ⟨?_, ?_, ?_, ?_, ?_, ?_, ?_, ?_⟩ <;>
    · rw [hb.cell (by show w.heap.size < _; omega)]
      simp [go_sem]
  have HLOW : Hid (∀ w', Below (w.heap.size + 1) (w.alloc (.cells #[.int .i64 P, .slice Ar nr cr, vv, .int .i64 S, .int .i64 B, .int .i64 n, .int .i64 t, .int .i64 r, .int .u32 nm, .int .u32 sh] 28)) w' → Below w.heap.size w w') := fun w' hb => ((Below.refl w.heap.size w).alloc (Nat.le_refl _) _).trans (hb.mono (by omega))
  have HUP : Hid (∀ w' w'', Below (w.heap.size + 1) (w.alloc (.cells #[.int .i64 P, .slice Ar nr cr, vv, .int .i64 S, .int .i64 B, .int .i64 n, .int .i64 t, .int .i64 r, .int .u32 nm, .int .u32 sh] 28)) w' → Below w'.heap.size w' w'' → Below (w.heap.size + 1) (w.alloc (.cells #[.int .i64 P, .slice Ar nr cr, vv, .int .i64 S, .int .i64 B, .int .i64 n, .int .i64 t, .int .i64 r, .int .u32 nm, .int .u32 sh] 28)) w'') := fun w' w'' h1 h2 => h1.trans (h2.mono (by have := h1.size; simp at this; omega))
  have hq : Below (w.heap.size + 1) (w.alloc (.cells #[.int .i64 P, .slice Ar nr cr, vv, .int .i64 S, .int .i64 B, .int .i64 n, .int .i64 t, .int .i64 r, .int .u32 nm, .int .u32 sh] 28)) (w.alloc (.cells #[.int .i64 P, .slice Ar nr cr, vv, .int .i64 S, .int .i64 B, .int .i64 n, .int .i64 t, .int .i64 r, .int .u32 nm, .int .u32 sh] 28)) := Below.refl _ _
  by_cases hc0 : c = 0
  · subst hc0
    by_cases hs : (nr : Int) = P
    · have d2 : ((nr : Int) != P) = false := by simp [hs]
      have e2 : decide ((nr : Int) = P) = true := by simp [hs]
      rw [e2] at HX
      clear hs e2
      cases zs
      · go_enter Try.func9, Try.ntmps9
        go_wp2_with (first
          | (go_at_call 31; (with_reducible refine Calls.mono (HVC.out _ (HLOW.out _ hq)) ?_); rintro e wa ⟨rfl, hba⟩; (have hq := HUP.out _ _ hq hba); (obtain ⟨q0, q1, q2, q3, q4, q5, q6, q7⟩ := HBOX.out _ hq); clear hba)
          | (go_at_call 32; (with_reducible refine Calls.mono (HBR.out _) ?_); rintro e wa ⟨rfl, hba⟩; (have hq := HUP.out _ _ hq hba); (obtain ⟨q0, q1, q2, q3, q4, q5, q6, q7⟩ := HBOX.out _ hq); clear hba)
          | fail)
        go_ret
        exact ⟨by rw [HX.out, planK_1 (by simp)]; rfl, HLOW.out _ hq⟩
      · by_cases h3 : 1 ≤ t
        · have d3 : decide (t < 1) = false := by simp; omega
          by_cases h4 : t ≤ 8
          · have d4 : decide (t > 8) = false := by simp; omega
            have e4 : decide (8 < t) = false := by simp; omega
            by_cases h5 : 1 ≤ r
            · have d5 : decide (r < 1) = false := by simp; omega
              by_cases h6 : r ≤ 64
              · have d6 : decide (r > 64) = false := by simp; omega
                have e6 : decide (64 < r) = false := by simp; omega
                rw [show (withinI t 8 && withinI r 64) = true by simp [withinI, *]] at HX
                go_enter Try.func9, Try.ntmps9
                go_wp2_with (first
                  | (go_at_call 31; (with_reducible refine Calls.mono (HVC.out _ (HLOW.out _ hq)) ?_); rintro e wa ⟨rfl, hba⟩; (have hq := HUP.out _ _ hq hba); (obtain ⟨q0, q1, q2, q3, q4, q5, q6, q7⟩ := HBOX.out _ hq); clear hba)
                  | (go_at_call 32; (with_reducible refine Calls.mono (HBR.out _) ?_); rintro e wa ⟨rfl, hba⟩; (have hq := HUP.out _ _ hq hba); (obtain ⟨q0, q1, q2, q3, q4, q5, q6, q7⟩ := HBOX.out _ hq); clear hba)
                  | fail)
                have hmn := HF.out.1
                have HX2 := Lib.hid HX.out
                go_loopw [4] (fun i wr => ∃ k : Nat, k ≤ m ∧ i = .int .i64 k ∧ Hid (Below (w.heap.size + 1) (w.alloc (.cells #[.int .i64 P, .slice Ar nr cr, vv, .int .i64 S, .int .i64 B, .int .i64 n, .int .i64 t, .int .i64 r, .int .u32 nm, .int .u32 sh] 28)) wr)) (fun i _ => nr - (intOf i).toNat)
                case atStart => exact ⟨0, by omega, rfl, hq⟩
                case round =>
                  clear q0 q1 q2 q3 q4 q5 q6 q7 hq
                  obtain ⟨k, hk, rfl, HB⟩ := hrel
                  obtain ⟨q0, q1, q2, q3, q4, q5, q6, q7⟩ := HBOX.out _ HB.out
                  by_cases hlt : k < nr
                  · obtain ⟨b, off, cap', e, hc1, hc2, hb, hlen, hcell⟩ := HV.out.rlAt (by omega)
                    cases e
                    obtain ⟨c0, c1⟩ := hcell k hlt
                    have hbl := HLOW.out _ HB.out
                    have k0 := (hbl.cell (p := ⟨b, off + k * 2, none⟩) (by show b < _; omega)).trans c0
                    have k1 := (hbl.cell (p := ⟨b, off + k * 2 + 1, none⟩) (by show b < _; omega)).trans c1
                    have HK := HW.out (lr.getD k rl0).pv (lr.getD k rl0).ac
                    have hbad : (!(ruleB (lr.getD k rl0).pv (lr.getD k rl0).ac)) = badR lr k := rfl
                    obtain ⟨z, hz⟩ : ∃ z, z = ruleB (lr.getD k rl0).pv (lr.getD k rl0).ac := ⟨_, rfl⟩
                    rw [← hz] at hbad HK
                    clear hcell c0 c1 hz hbl
                    generalize (lr.getD k rl0).pv = P1 at *
                    generalize (lr.getD k rl0).ac = P2 at *
                    by_cases hkm : k = m
                    · subst hkm
                      rw [HF.out.2.2 hlt] at hbad
                      have hzf : z = false := by cases z <;> simp at hbad ⊢
                      rw [hzf] at HK
                      have HK := Lib.hid HK
                      have hd : decide (k < nr) = true := by simp; omega
                      rw [hd] at HX2
                      clear hbad hd hzf
                      go_wp2_with fail
                      refine (HK.out _).mono ?_
                      rintro e w1 ⟨rfl, hb1⟩
                      go_wp2
                      go_ret
                      exact ⟨by rw [HX2.out]; rfl, HLOW.out _ (HUP.out _ _ HB.out hb1)⟩
                    · rw [HF.out.2.1 k (by omega)] at hbad
                      have hzf : z = true := by cases z <;> simp at hbad ⊢
                      rw [hzf] at HK
                      have HK := Lib.hid HK
                      clear hbad hzf
                      go_wp2_with fail
                      refine (HK.out _).mono ?_
                      rintro e w1 ⟨rfl, hb1⟩
                      have HB1 := Lib.hid (HUP.out _ _ HB.out hb1)
                      clear hb1
                      go_wp2
                      go_roundw
                      case rel => exact ⟨k + 1, by omega, by go_num, HB1⟩
                      case measure => simp [intOf]; omega
                  · have hd : decide (m < nr) = false := by simp; omega
                    rw [hd] at HX2
                    go_wp2
                    go_ret
                    exact ⟨by rw [HX2.out]; rfl, HLOW.out _ HB.out⟩
              · have d6 : decide (r > 64) = true := by simp; omega
                have e6 : decide (64 < r) = true := by simp; omega
                rw [show (withinI t 8 && withinI r 64) = false by simp [withinI, *]] at HX
                go_enter Try.func9, Try.ntmps9
                go_wp2_with (first
                  | (go_at_call 31; (with_reducible refine Calls.mono (HVC.out _ (HLOW.out _ hq)) ?_); rintro e wa ⟨rfl, hba⟩; (have hq := HUP.out _ _ hq hba); (obtain ⟨q0, q1, q2, q3, q4, q5, q6, q7⟩ := HBOX.out _ hq); clear hba)
                  | (go_at_call 32; (with_reducible refine Calls.mono (HBR.out _) ?_); rintro e wa ⟨rfl, hba⟩; (have hq := HUP.out _ _ hq hba); (obtain ⟨q0, q1, q2, q3, q4, q5, q6, q7⟩ := HBOX.out _ hq); clear hba)
                  | fail)
                go_ret
                exact ⟨by rw [HX.out, planK_1 (by simp)]; rfl, HLOW.out _ hq⟩
            · have d5 : decide (r < 1) = true := by simp; omega
              rw [show (withinI t 8 && withinI r 64) = false by simp [withinI, *]] at HX
              go_enter Try.func9, Try.ntmps9
              go_wp2_with (first
                | (go_at_call 31; (with_reducible refine Calls.mono (HVC.out _ (HLOW.out _ hq)) ?_); rintro e wa ⟨rfl, hba⟩; (have hq := HUP.out _ _ hq hba); (obtain ⟨q0, q1, q2, q3, q4, q5, q6, q7⟩ := HBOX.out _ hq); clear hba)
                | (go_at_call 32; (with_reducible refine Calls.mono (HBR.out _) ?_); rintro e wa ⟨rfl, hba⟩; (have hq := HUP.out _ _ hq hba); (obtain ⟨q0, q1, q2, q3, q4, q5, q6, q7⟩ := HBOX.out _ hq); clear hba)
                | fail)
              go_ret
              exact ⟨by rw [HX.out, planK_1 (by simp)]; rfl, HLOW.out _ hq⟩
          · have d4 : decide (t > 8) = true := by simp; omega
            have e4 : decide (8 < t) = true := by simp; omega
            rw [show (withinI t 8 && withinI r 64) = false by simp [withinI, *]] at HX
            go_enter Try.func9, Try.ntmps9
            go_wp2_with (first
              | (go_at_call 31; (with_reducible refine Calls.mono (HVC.out _ (HLOW.out _ hq)) ?_); rintro e wa ⟨rfl, hba⟩; (have hq := HUP.out _ _ hq hba); (obtain ⟨q0, q1, q2, q3, q4, q5, q6, q7⟩ := HBOX.out _ hq); clear hba)
              | (go_at_call 32; (with_reducible refine Calls.mono (HBR.out _) ?_); rintro e wa ⟨rfl, hba⟩; (have hq := HUP.out _ _ hq hba); (obtain ⟨q0, q1, q2, q3, q4, q5, q6, q7⟩ := HBOX.out _ hq); clear hba)
              | fail)
            go_ret
            exact ⟨by rw [HX.out, planK_1 (by simp)]; rfl, HLOW.out _ hq⟩
        · have d3 : decide (t < 1) = true := by simp; omega
          rw [show (withinI t 8 && withinI r 64) = false by simp [withinI, *]] at HX
          go_enter Try.func9, Try.ntmps9
          go_wp2_with (first
            | (go_at_call 31; (with_reducible refine Calls.mono (HVC.out _ (HLOW.out _ hq)) ?_); rintro e wa ⟨rfl, hba⟩; (have hq := HUP.out _ _ hq hba); (obtain ⟨q0, q1, q2, q3, q4, q5, q6, q7⟩ := HBOX.out _ hq); clear hba)
            | (go_at_call 32; (with_reducible refine Calls.mono (HBR.out _) ?_); rintro e wa ⟨rfl, hba⟩; (have hq := HUP.out _ _ hq hba); (obtain ⟨q0, q1, q2, q3, q4, q5, q6, q7⟩ := HBOX.out _ hq); clear hba)
            | fail)
          go_ret
          exact ⟨by rw [HX.out, planK_1 (by simp)]; rfl, HLOW.out _ hq⟩
    · have d2 : ((nr : Int) != P) = true := by simp [hs]
      have e2 : decide ((nr : Int) = P) = false := by simp [hs]
      rw [e2] at HX
      clear hs e2
      go_enter Try.func9, Try.ntmps9
      go_wp2_with (first
        | (go_at_call 31; (with_reducible refine Calls.mono (HVC.out _ (HLOW.out _ hq)) ?_); rintro e wa ⟨rfl, hba⟩; (have hq := HUP.out _ _ hq hba); (obtain ⟨q0, q1, q2, q3, q4, q5, q6, q7⟩ := HBOX.out _ hq); clear hba)
        | (go_at_call 32; (with_reducible refine Calls.mono (HBR.out _) ?_); rintro e wa ⟨rfl, hba⟩; (have hq := HUP.out _ _ hq hba); (obtain ⟨q0, q1, q2, q3, q4, q5, q6, q7⟩ := HBOX.out _ hq); clear hba)
        | fail)
      go_ret
      exact ⟨by rw [HX.out, planK_1 (by simp)]; rfl, HLOW.out _ hq⟩
  · have d1 : ((c : Int) != 0) = true := by simp; omega
    go_enter Try.func9, Try.ntmps9
    go_wp2_with (first
      | (go_at_call 31; (with_reducible refine Calls.mono (HVC.out _ (HLOW.out _ hq)) ?_); rintro e wa ⟨rfl, hba⟩; (have hq := HUP.out _ _ hq hba); (obtain ⟨q0, q1, q2, q3, q4, q5, q6, q7⟩ := HBOX.out _ hq); clear hba)
      | (go_at_call 32; (with_reducible refine Calls.mono (HBR.out _) ?_); rintro e wa ⟨rfl, hba⟩; (have hq := HUP.out _ _ hq hba); (obtain ⟨q0, q1, q2, q3, q4, q5, q6, q7⟩ := HBOX.out _ hq); clear hba)
      | fail)
    go_ret
    exact ⟨by rw [HX.out, planK_c hc0]; rfl, HLOW.out _ hq⟩
end
end Go.Proofs.Ytdiigibldkjhoaa
