/-
  Arguments opened: slices of what is to be done, of ints and of bools; what is kept by what is done. No statement is proved here.
-/
import Derived.Test.YtpojnknhmpmhjaaMemT
import Derived.Test.YtpojnknhmpmhjaaOpen
import Derived.Test.YtpojnknhmpmhjaaOpenI
set_option linter.unusedVariables false
namespace Go.Proofs.Ytpojnknhmpmhjaa
open Go.ChangeShapes Go.WideShapes Go.RowKit Go.Deep

/-- A slice of structs of an int, an int, an int and a number of 64 bits. -/
def Ops6 (w : World) (v : Value) : Prop := ∃ (A : Option Addr) (n cap : Nat), v = .slice A n cap ∧ n ≤ cap ∧ cap ≤ maxLen ∧ (0 < n → ∃ b off, A = some ⟨b, off, none⟩ ∧ b < w.heap.size ∧
  ∀ i, i < n → ∃ kd a who u : Int, w.cell? ⟨b, off + i * 4, none⟩ = some (.int .i64 kd) ∧ w.cell? ⟨b, off + i * 4 + 1, none⟩ = some (.int .i64 a) ∧ w.cell? ⟨b, off + i * 4 + 2, none⟩ = some (.int .i64 who) ∧ w.cell? ⟨b, off + i * 4 + 3, none⟩ = some (.int .u64 u))
/-- A slice of bools. -/
def Bools (w : World) (v : Value) : Prop := ∃ (A : Option Addr) (n cap : Nat), v = .slice A n cap ∧ n ≤ cap ∧ cap ≤ maxLen ∧ (0 < n → ∃ b off, A = some ⟨b, off, none⟩ ∧ b < w.heap.size ∧
  ∀ i, i < n → ∃ z : Bool, w.cell? ⟨b, off + i, none⟩ = some (.bool z))
section
variable {H : Type} {enc : TypeId × Value → H} {P : Program} {w : World} {base : Nat} {spare : Nat → Bool} {held : Bool}
theorem open_ops6 {r : Reach} {b0 : Nat} {t e : TypeId} {f0 f1 f2 f3 : Field} {v : Value} {d : DataW H} {p : List MemPlace} (ht : P.underlying t = some (.slice e)) (hs : P.underlying e = some (.struct #[f0, f1, f2, f3])) (hone : oneCellFields P #[f0, f1, f2, f3] = true) (hC : P.cellsOf e = 4)
    (h0 : P.underlying f0.type = some (.int .i64)) (h1 : P.underlying f1.type = some (.int .i64)) (h2 : P.underlying f2.type = some (.int .i64)) (h3 : P.underlying f3.type = some (.int .u64))
    (hv : Value.okWide P w r b0 t v) (h : DataW.Trod enc P w 0 (fun _ => true) held t v d p) : Ops6 w v := by
  obtain ⟨A, n, cap, rfl, hn, hc, hh⟩ := open_rows ht hs hone hC (by simp) hv h
  refine ⟨A, n, cap, rfl, hn, hc, fun h => ?_⟩
  obtain ⟨b, off, rfl, hb, hcell⟩ := hh h
  refine ⟨b, off, rfl, hb, fun i hi => ?_⟩
  obtain ⟨u0, e0, g0⟩ := hcell i hi 0 f0 rfl
  obtain ⟨u1, e1, g1⟩ := hcell i hi 1 f1 rfl
  obtain ⟨u2, e2, g2⟩ := hcell i hi 2 f2 rfl
  obtain ⟨u3, e3, g3⟩ := hcell i hi 3 f3 rfl
  obtain ⟨x0, rfl, _⟩ := g0.i64 h0
  obtain ⟨x1, rfl, _⟩ := g1.i64 h1
  obtain ⟨x2, rfl, _⟩ := g2.i64 h2
  obtain ⟨x3, rfl, _⟩ := g3.u64 h3
  exact ⟨x0, x1, x2, x3, by simpa using e0, e1, e2, e3⟩
theorem open_op6 {r : Reach} {b0 : Nat} {t : TypeId} {f0 f1 f2 f3 : Field} {v : Value} {d : DataW H} {p : List MemPlace} (hs : P.underlying t = some (.struct #[f0, f1, f2, f3])) (hone : oneCellFields P #[f0, f1, f2, f3] = true) (hC : P.cellsOf t = 4)
    (h0 : P.underlying f0.type = some (.int .i64)) (h1 : P.underlying f1.type = some (.int .i64)) (h2 : P.underlying f2.type = some (.int .i64)) (h3 : P.underlying f3.type = some (.int .u64))
    (hv : Value.okWide P w r b0 t v) (h : DataW.Trod enc P w base spare held t v d p) :
    ∃ x0 x1 x2 x3 : Int, v = .agg #[.int .i64 x0, .int .i64 x1, .int .i64 x2, .int .u64 x3] := by
  obtain ⟨l, rfl, hl, hf⟩ := open_fields hs hone hC hv h
  obtain ⟨u0, e0, g0⟩ := hf 0 f0 rfl
  obtain ⟨u1, e1, g1⟩ := hf 1 f1 rfl
  obtain ⟨u2, e2, g2⟩ := hf 2 f2 rfl
  obtain ⟨u3, e3, g3⟩ := hf 3 f3 rfl
  obtain ⟨x0, rfl, _⟩ := g0.i64 h0
  obtain ⟨x1, rfl, _⟩ := g1.i64 h1
  obtain ⟨x2, rfl, _⟩ := g2.i64 h2
  obtain ⟨x3, rfl, _⟩ := g3.u64 h3
  match l, hl with
  | [a, b, c, d], _ =>
    simp at e0 e1 e2 e3
    subst e0 e1 e2 e3
    exact ⟨x0, x1, x2, x3, rfl⟩
theorem open_boolrow {r : Reach} {b0 : Nat} {t e : TypeId} {v : Value} {d : DataW H} {p : List MemPlace} (ht : P.underlying t = some (.slice e)) (he : P.underlying e = some .bool) (hC : P.cellsOf e = 1)
    (hv : Value.okWide P w r b0 t v) (h : DataW.Trod enc P w 0 (fun _ => true) held t v d p) : Bools w v := by
  obtain ⟨A, n, cap, rfl⟩ := okWide_slice ht hv
  obtain ⟨fuel, hf⟩ := h
  rcases open_slice ht hf with ⟨hcs, _⟩ | ⟨a, len, c, m, k, D, Pl, hcs, _, hl, hm, hmm, _, hi⟩
  · simp [Value.cells] at hcs
    obtain ⟨rfl, rfl, rfl⟩ := hcs
    exact ⟨none, 0, 0, rfl, Nat.le_refl _, by simp [maxLen], fun h => absurd h (by omega)⟩
  · simp [Value.cells] at hcs
    obtain ⟨rfl, rfl, rfl⟩ := hcs
    simp only [if_true] at hmm
    subst hmm
    refine ⟨some a, n, m, rfl, hl, hm, fun hn => ?_⟩
    have hat : ∀ i, i < m → ∃ z : Bool, w.cell? (a.add i) = some (.bool z) := by
      intro i him
      obtain ⟨cs', hc, ht'⟩ := hi i him
      rw [hC, Nat.mul_one] at hc
      obtain ⟨_, hcl, hcat⟩ := World.cells?_some hc
      obtain ⟨z, h1, _⟩ := DataW.trod_bool he ht'
      refine ⟨z, ?_⟩
      have h2 := hcat 0 (by omega)
      rw [h1] at h2
      have h3 : (a.add i).add 0 = a.add i := by simp [Addr.add]
      rw [h3] at h2
      simpa using h2
    obtain ⟨z0, hz0⟩ := hat 0 (by omega)
    obtain ⟨b, off, spot⟩ := a
    have hspot : spot = none := by simpa [Addr.add] using World.cell?_spot hz0
    subst hspot
    refine ⟨b, off, rfl, World.block_lt_of_cell? w _ (by simpa [Addr.add] using hz0), fun i hi2 => ?_⟩
    obtain ⟨z, hz⟩ := hat i (by omega)
    have hadd : (⟨b, off, none⟩ : Addr).add i = ⟨b, off + i, none⟩ := by
      unfold Addr.add; split <;> simp_all
    rw [hadd] at hz
    exact ⟨z, hz⟩
end
/-- What is done keeps how many there are. -/
theorem opS_CL (k : Nat) (a who v : Int) (s : MemS) : (opS k a who v s).C = s.C ∧ (opS k a who v s).L = s.L := by
  unfold opS loadS storeS takeS freeS putC putL tickS
  repeat' split
  all_goals exact ⟨rfl, rfl⟩
/-- What is done elsewhere keeps a cell, and a lock. -/
theorem opS_else (k : Nat) (a who v : Int) (s : MemS) (q : Nat) (h : a ≠ (q : Int)) : (opS k a who v s).c q = s.c q ∧ (opS k a who v s).h q = s.h q := by
  have hc : hasC s a = true → q ≠ a.toNat := fun hh => by have := hasC_iff.1 hh; omega
  have hl : okWho s a who = true → q ≠ a.toNat := fun hh => by have := okWho_iff.1 hh; omega
  unfold opS
  split
  · unfold loadS; split <;> exact ⟨rfl, rfl⟩
  split
  · unfold storeS
    split
    · rename_i hh
      exact ⟨if_neg (hc hh), rfl⟩
    · exact ⟨rfl, rfl⟩
  split
  · unfold takeS
    split
    · rename_i hh
      split
      · exact ⟨rfl, if_neg (hl hh)⟩
      · exact ⟨rfl, rfl⟩
    · exact ⟨rfl, rfl⟩
  split
  · unfold freeS
    split
    · rename_i hh
      split
      · exact ⟨rfl, if_neg (hl hh)⟩
      · exact ⟨rfl, rfl⟩
    · exact ⟨rfl, rfl⟩
  · exact ⟨rfl, rfl⟩
theorem mod6 (a : Int) : ∃ k : Nat, k < 6 ∧ wrap64 ((IntKind.u64.wrap a).tmod 6) = (k : Int) := mod_u64 a 6 (by omega) (by omega)
end Go.Proofs.Ytpojnknhmpmhjaa
