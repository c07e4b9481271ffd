/-
  Arguments opened: structs by value, and slices of structs, of fields of one cell each. No statement is proved here.
-/
import Derived.Test.YtdiigibldkjhoaaBase
import Derived.Deep.Slices
import Derived.Deep.Fields
import Derived.ChangeSame
namespace Go.Proofs.Ytdiigibldkjhoaa
open Go.ChangeShapes Go.WideShapes Go.RowKit Go.Deep
section
variable {H : Type} {enc : TypeId × Value → H} {P : Program} {w : World} {base : Nat} {spare : Nat → Bool} {held : Bool}

/-- What a field's cell holds, and how it reads. -/
def Holds1 (enc : TypeId × Value → H) (P : Program) (w : World) (base : Nat) (spare : Nat → Bool) (held : Bool) (t : TypeId) (u : Value) : Prop :=
  ∃ (n : Nat) (y : DataW H × List MemPlace), DataW.trod enc P w base spare held n t [u] = some y
theorem Holds1.int {k : IntKind} {t : TypeId} {u : Value} (h : Holds1 enc P w base spare held t u) (ht : P.underlying t = some (.int k)) : ∃ n, u = .int k n ∧ (Lit.int k n).wf = true := by
  obtain ⟨m, y, hy⟩ := h
  obtain ⟨n, h1, _, h3⟩ := DataW.trod_int ht hy
  exact ⟨n, by simpa using h1, h3⟩
theorem Holds1.bool {t : TypeId} {u : Value} (h : Holds1 enc P w base spare held t u) (ht : P.underlying t = some .bool) : ∃ b, u = .bool b := by
  obtain ⟨m, y, hy⟩ := h
  obtain ⟨n, h1, _⟩ := DataW.trod_bool ht hy
  exact ⟨n, by simpa using h1⟩
theorem Holds1.i64 {t : TypeId} {u : Value} (h : Holds1 enc P w base spare held t u) (ht : P.underlying t = some (.int .i64)) : ∃ n : Int, u = .int .i64 n ∧ -9223372036854775808 ≤ n ∧ n ≤ 9223372036854775807 := by
  obtain ⟨n, rfl, hw⟩ := h.int ht
  exact ⟨n, rfl, Go.bounds_i64 hw⟩
theorem Holds1.u64 {t : TypeId} {u : Value} (h : Holds1 enc P w base spare held t u) (ht : P.underlying t = some (.int .u64)) : ∃ n : Nat, u = .int .u64 (n : Int) ∧ n < 18446744073709551616 := by
  obtain ⟨n, rfl, hw⟩ := h.int ht
  have := Go.bounds_u64 hw
  exact ⟨n.toNat, by congr 1; omega, by omega⟩
theorem Holds1.u32 {t : TypeId} {u : Value} (h : Holds1 enc P w base spare held t u) (ht : P.underlying t = some (.int .u32)) : ∃ n : Nat, u = .int .u32 (n : Int) ∧ n < 4294967296 := by
  obtain ⟨n, rfl, hw⟩ := h.int ht
  have := Go.bounds_u32 hw
  exact ⟨n.toNat, by congr 1; omega, by omega⟩
theorem Holds1.u16 {t : TypeId} {u : Value} (h : Holds1 enc P w base spare held t u) (ht : P.underlying t = some (.int .u16)) : ∃ n : Nat, u = .int .u16 (n : Int) ∧ n < 65536 := by
  obtain ⟨n, rfl, hw⟩ := h.int ht
  have := Go.bounds_u16 hw
  exact ⟨n.toNat, by congr 1; omega, by omega⟩
theorem Holds1.bytes {t e : TypeId} {u : Value} (h : Holds1 enc P w 0 (fun _ => true) held t u) (ht : P.underlying t = some (.slice e)) (he : P.underlying e = some (.int .u8)) (hc : P.cellsOf e = 1) :
    ∃ l : List Nat, Sl w w.heap.size 1 u l.length (bv l) ∧ ∀ x ∈ l, x < 256 := by
  obtain ⟨fuel, y, hf⟩ := h
  rcases open_ints ht he hc hf with ⟨hcs, _⟩ | ⟨x, l, c, zs, hcs, _, hl, hm, hz, _, hcell, hwz⟩
  · obtain rfl : u = .slice none 0 0 := by simpa using hcs
    exact ⟨[], Sl.nil _ _ _, by simp⟩
  · obtain rfl : u = .slice (some x) l c := by simpa using hcs
    simp only [if_true] at hz
    obtain ⟨ns, rfl, hns⟩ := nats_of_u8 zs hwz
    simp only [List.length_map] at hz hcell
    have hlen : (ns.take l).length = l := by rw [List.length_take]; omega
    refine ⟨ns.take l, ?_, fun x hx => hns x (List.mem_of_mem_take hx)⟩
    refine ⟨by simp [bv_length], some x, c, by rw [hlen], by omega, hm, fun hn => ?_⟩
    obtain ⟨b, off, spot⟩ := x
    have h0 := hcell 0 (by omega)
    have hspot : spot = none := by simpa [Addr.add] using World.cell?_spot h0
    subst hspot
    refine ⟨b, off, rfl, World.block_lt_of_cell? w _ (by simpa [Addr.add] using h0), fun j hj => ?_⟩
    rw [hlen, Nat.mul_one] at hj
    have hj2 : j < ns.length := by omega
    have h1 := hcell j hj2
    have hadd : (⟨b, off, none⟩ : Addr).add j = ⟨b, off + j, none⟩ := by unfold Addr.add; split <;> simp_all
    rw [hadd] at h1
    rw [h1, bv_at _ _ (by rw [hlen]; exact hj)]
    simp [List.getD_eq_getElem?_getD, List.getElem?_map, List.getElem?_eq_getElem hj2]

/-- The fields' cells of a struct that was read. -/
theorem fields_held {t : TypeId} {fs : Array Field} {fuel : Nat} {cs : List Value} {x : DataW H × List MemPlace} (hs : P.underlying t = some (.struct fs)) (hone : oneCellFields P fs = true) (hC : P.cellsOf t = fs.size)
    (h : DataW.trod enc P w base spare held fuel t cs = some x) : cs.length = fs.size ∧ ∀ (j : Nat) (f : Field), fs[j]? = some f → ∃ u, cs[j]? = some u ∧ Holds1 enc P w base spare held f.type u := by
  obtain ⟨xs, n, _, _, hlen, hxl, hg⟩ := DataW.trod_struct hs h
  refine ⟨hlen.trans hC, fun j f hj => ?_⟩
  obtain ⟨ho, hk⟩ := hone_of hone j f hj
  have hjl : j < fs.size := (Array.getElem?_eq_some_iff.1 hj).1
  have hjc : j < cs.length := by omega
  have h1 := hg j f hj
  rw [ho, hk] at h1
  have h2 : (cs.drop j).take 1 = [cs[j]'hjc] := by
    rw [List.drop_eq_getElem_cons hjc]; rfl
  rw [h2, List.getElem?_eq_getElem (show j < xs.length by omega)] at h1
  exact ⟨_, List.getElem?_eq_getElem hjc, n, _, h1⟩
/-- A struct by value. -/
theorem open_fields {r : Reach} {b0 : Nat} {t : TypeId} {fs : Array Field} {v : Value} {d : DataW H} {p : List MemPlace} (hs : P.underlying t = some (.struct fs)) (hone : oneCellFields P fs = true) (hC : P.cellsOf t = fs.size)
    (hv : Value.okWide P w r b0 t v) (h : DataW.Trod enc P w base spare held t v d p) :
    ∃ l : List Value, v = .agg l.toArray ∧ l.length = fs.size ∧ ∀ (j : Nat) (f : Field), fs[j]? = some f → ∃ u, l[j]? = some u ∧ Holds1 enc P w base spare held f.type u := by
  obtain ⟨cs, rfl, hsz⟩ := okWide_struct hs hv
  obtain ⟨fuel, hf⟩ := h
  obtain ⟨h1, h2⟩ := fields_held hs hone hC hf
  obtain ⟨l⟩ := cs
  exact ⟨l, rfl, by simpa [Value.cells] using h1, by simpa [Value.cells] using h2⟩
/-- A slice of structs. -/
theorem open_rows {r : Reach} {b0 : Nat} {t e : TypeId} {fs : Array Field} {v : Value} {d : DataW H} {p : List MemPlace} (ht : P.underlying t = some (.slice e)) (hs : P.underlying e = some (.struct fs)) (hone : oneCellFields P fs = true) (hC : P.cellsOf e = fs.size) (h0 : 0 < fs.size)
    (hv : Value.okWide P w r b0 t v) (h : DataW.Trod enc P w 0 (fun _ => true) held t v d p) :
    ∃ (A : Option Addr) (n cap : Nat), v = .slice A n cap ∧ n ≤ cap ∧ cap ≤ maxLen ∧ (0 < n → ∃ b off, A = some ⟨b, off, none⟩ ∧ b < w.heap.size ∧
      ∀ i, i < n → ∀ (j : Nat) (f : Field), fs[j]? = some f → ∃ u, w.cell? ⟨b, off + i * fs.size + j, none⟩ = some u ∧ Holds1 enc P w 0 (fun _ => true) held f.type u) := by
  obtain ⟨A, n, cap, rfl⟩ := okWide_slice ht hv
  obtain ⟨fuel, hf⟩ := h
  rcases open_slice ht hf with ⟨hcs, _⟩ | ⟨a, len, c, m, k, D, Pl, hcs, _, hl, hm, hmm, _, hi⟩
  · simp [Value.cells] at hcs
    obtain ⟨rfl, rfl, rfl⟩ := hcs
    exact ⟨none, 0, 0, rfl, Nat.le_refl _, by simp [maxLen], fun h => absurd h (by omega)⟩
  · simp [Value.cells] at hcs
    obtain ⟨rfl, rfl, rfl⟩ := hcs
    simp only [if_true] at hmm
    subst hmm
    refine ⟨some a, n, m, rfl, hl, hm, fun hn => ?_⟩
    have hat : ∀ i, i < m → ∀ (j : Nat) (f : Field), fs[j]? = some f → ∃ u, w.cell? (a.add (i * fs.size + j)) = some u ∧ Holds1 enc P w 0 (fun _ => true) held f.type u := by
      intro i him j f hj
      obtain ⟨cs', hc, ht'⟩ := hi i him
      rw [hC] at hc
      obtain ⟨_, hcl, hcat⟩ := World.cells?_some hc
      obtain ⟨_, h2⟩ := fields_held hs hone hC ht'
      obtain ⟨u, hu, hh⟩ := h2 j f hj
      have hjl : j < fs.size := (Array.getElem?_eq_some_iff.1 hj).1
      refine ⟨u, ?_, hh⟩
      rw [← Go.Deep.add_add, hcat j hjl, hu]
    have hf0 : fs[0]? = some fs[0] := Array.getElem?_eq_getElem h0
    obtain ⟨u0, hu0, _⟩ := hat 0 (by omega) 0 _ hf0
    obtain ⟨b, off, spot⟩ := a
    have hspot : spot = none := by simpa [Addr.add] using World.cell?_spot hu0
    subst hspot
    refine ⟨b, off, rfl, World.block_lt_of_cell? w _ (by simpa [Addr.add] using hu0), fun i hi2 j f hj => ?_⟩
    obtain ⟨u, hu, hh⟩ := hat i (by omega) j f hj
    have hadd : (⟨b, off, none⟩ : Addr).add (i * fs.size + j) = ⟨b, off + i * fs.size + j, none⟩ := by
      unfold Addr.add; split <;> simp_all [Nat.add_assoc]
    rw [hadd] at hu
    exact ⟨u, hu, hh⟩
/-- Two ints by value. -/
theorem open_ii {r : Reach} {b0 : Nat} {t : TypeId} {f0 f1 : Field} {v : Value} {d : DataW H} {p : List MemPlace} (hs : P.underlying t = some (.struct #[f0, f1])) (hone : oneCellFields P #[f0, f1] = true) (hC : P.cellsOf t = 2) (h0 : P.underlying f0.type = some (.int .i64)) (h1 : P.underlying f1.type = some (.int .i64))
    (hv : Value.okWide P w r b0 t v) (h : DataW.Trod enc P w base spare held t v d p) :
    ∃ a b : Int, v = .agg #[.int .i64 a, .int .i64 b] ∧ (-9223372036854775808 ≤ a ∧ a ≤ 9223372036854775807) ∧ (-9223372036854775808 ≤ b ∧ b ≤ 9223372036854775807) := by
  obtain ⟨l, rfl, hl, hf⟩ := open_fields hs hone hC hv h
  obtain ⟨u0, e0, g0⟩ := hf 0 f0 rfl
  obtain ⟨u1, e1, g1⟩ := hf 1 f1 rfl
  obtain ⟨a, rfl, ha⟩ := g0.i64 h0
  obtain ⟨b, rfl, hb⟩ := g1.i64 h1
  match l, hl with
  | [x, y], _ =>
    simp at e0 e1
    subst e0 e1
    exact ⟨a, b, rfl, ha, hb⟩
end
end Go.Proofs.Ytdiigibldkjhoaa
