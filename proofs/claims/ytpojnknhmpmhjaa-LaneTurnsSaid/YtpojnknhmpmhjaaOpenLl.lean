/-
  An argument opened: rows of numbers of 64 bits, side by side. No statement is proved here.
-/
import Derived.Test.YtpojnknhmpmhjaaOpenFl
namespace Go.Proofs.Ytpojnknhmpmhjaa
open Go.ChangeShapes Go.WideShapes Go.RowKit Go.Deep
/-- A row of numbers of 64 bits. -/
def U64Row (w : World) (v : Value) (l : Nat → Int) (n : Nat) : Prop := ∃ (A : Option Addr) (cap : Nat), v = .slice A n cap ∧ n ≤ cap ∧ cap ≤ maxLen ∧ (0 < n → ∃ b off, A = some ⟨b, off, none⟩ ∧ b < w.heap.size ∧
  ∀ j, j < n → w.cell? ⟨b, off + j, none⟩ = some (.int .u64 (l j)))
/-- Rows side by side. -/
def U64Rows (w : World) (v : Value) : Prop := ∃ (A : Option Addr) (n cap : Nat), v = .slice A n cap ∧ n ≤ cap ∧ cap ≤ maxLen ∧ (0 < n → ∃ b off, A = some ⟨b, off, none⟩ ∧ b < w.heap.size ∧
  ∀ i, i < n → ∃ (u : Value) (l : Nat → Int) (k : Nat), w.cell? ⟨b, off + i, none⟩ = some u ∧ U64Row w u l k)
section
variable {H : Type} {enc : TypeId × Value → H} {P : Program} {w : World} {held : Bool}
theorem Holds1.u64row {t e : TypeId} {u : Value} (h : Holds1 enc P w 0 (fun _ => true) held t u) (ht : P.underlying t = some (.slice e)) (hl : leaves P 8 e = some [e]) (hC : P.cellsOf e = 1) (he : P.underlying e = some (.int .u64)) : ∃ (l : Nat → Int) (k : Nat), U64Row w u l k := by
  obtain ⟨fuel, x, hf⟩ := h
  rcases open_slice ht hf with ⟨hcs, _⟩ | ⟨a, len, c, m, k, D, Pl, hcs, _, hl1, hm, hmm, _, hi⟩
  · simp at hcs
    subst hcs
    exact ⟨fun _ => 0, 0, none, 0, rfl, Nat.le_refl _, by simp [maxLen], fun h => absurd h (by omega)⟩
  · simp at hcs
    subst hcs
    simp only [if_true] at hmm
    subst hmm
    have hat : ∀ i, i < m → ∃ y : Int, w.cell? (a.add i) = some (.int .u64 y) := by
      intro i him
      obtain ⟨cs', hc, ht'⟩ := hi i him
      rw [hC] at hc
      obtain ⟨_, hcl, hcat⟩ := World.cells?_some hc
      obtain ⟨u, hu, hh⟩ := leaves_held 8 e _ _ _ _ hl (by omega) ht' 0 e rfl
      obtain ⟨y, rfl, _⟩ := hh.u64 he
      refine ⟨y, ?_⟩
      have := hcat 0 (by omega)
      rw [Go.Deep.add_add] at this
      rw [hu] at this
      simpa using this
    rcases Nat.eq_zero_or_pos len with h0 | h0
    · exact ⟨fun _ => 0, len, some a, m, rfl, hl1, hm, fun hn => absurd hn (by omega)⟩
    · obtain ⟨u0, hu0⟩ := hat 0 (by omega)
      obtain ⟨b, off, spot⟩ := a
      have hspot : spot = none := by simpa [Addr.add] using World.cell?_spot hu0
      subst hspot
      refine ⟨fun j => if h : j < m then Classical.choose (hat j h) else 0, len, some ⟨b, off, none⟩, m, rfl, hl1, hm, fun hn => ⟨b, off, rfl, World.block_lt_of_cell? w _ (by simpa [Addr.add] using hu0), fun j hj => ?_⟩⟩
      have hjm : j < m := by omega
      simp only [dif_pos hjm]
      have hadd : (⟨b, off, none⟩ : Addr).add j = ⟨b, off + j, none⟩ := by
        unfold Addr.add; split <;> simp_all
      rw [← hadd]
      exact Classical.choose_spec (hat j hjm)
theorem open_u64rows {r : Reach} {b0 : Nat} {t e e2 : TypeId} {v : Value} {d : DataW H} {p : List MemPlace} (ht : P.underlying t = some (.slice e)) (hl : leaves P 8 e = some [e]) (hC : P.cellsOf e = 1) (ht2 : P.underlying e = some (.slice e2)) (hl2 : leaves P 8 e2 = some [e2]) (hC2 : P.cellsOf e2 = 1) (he2 : P.underlying e2 = some (.int .u64))
    (hv : Value.okWide P w r b0 t v) (h : DataW.Trod enc P w 0 (fun _ => true) held t v d p) : U64Rows w v := by
  obtain ⟨A, n, cap, rfl, c1, c2, c3⟩ := open_flats ht hl (by simpa using hC) (by simp) hv h
  refine ⟨A, n, cap, rfl, c1, c2, fun hn => ?_⟩
  obtain ⟨b, off, rfl, hb, hc⟩ := c3 hn
  refine ⟨b, off, rfl, hb, fun i hi => ?_⟩
  obtain ⟨u, e0, g0⟩ := hc i hi 0 e rfl
  obtain ⟨l, k, hk⟩ := g0.u64row ht2 hl2 hC2 he2
  exact ⟨u, l, k, by simpa using e0, hk⟩
end
end Go.Proofs.Ytpojnknhmpmhjaa
