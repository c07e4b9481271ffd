/-
  Slices of numbers of 32 and of 64 bits, as lists. No statement is proved here.
-/
import Derived.Test.YtdiigibldkjhoaaKit
import Derived.Test.YtdiigibldkjhoaaKit2
namespace Go.Proofs.Ytdiigibldkjhoaa
open Go.RowKit Go.WideShapes Go.ChangeShapes

/-- Numbers of a kind as values. -/
def kv (k : IntKind) (l : List Int) : List Value := l.map fun n => .int k n
def uv (l : List Nat) : List Value := l.map fun (n : Nat) => .int .u32 (n : Int)
theorem kv_length (k : IntKind) (l : List Int) : (kv k l).length = l.length := by simp [kv]
theorem uv_length (l : List Nat) : (uv l).length = l.length := by simp [uv]
theorem uv_kv (l : List Nat) : uv l = kv .u32 (l.map fun n : Nat => (n : Int)) := by simp [uv, kv]
theorem uv_take (l : List Nat) (k : Nat) : (uv l).take k = uv (l.take k) := by simp [uv, List.map_take]
theorem kv_take (κ : IntKind) (l : List Int) (k : Nat) : (kv κ l).take k = kv κ (l.take k) := by simp [kv, List.map_take]
theorem word_lt {l : List Nat} (h : ∀ x ∈ l, x < 4294967296) (k : Nat) : l.getD k 0 < 4294967296 := by
  rw [List.getD_eq_getElem?_getD]
  rcases Nat.lt_or_ge k l.length with hk | hk
  · rw [List.getElem?_eq_getElem hk]; exact h _ (List.getElem_mem hk)
  · rw [List.getElem?_eq_none hk]; simp
/-- The cells of such a slice. -/
theorem Sl.wordAt {w : World} {B n : Nat} {v : Value} {l : List Nat} (h : Sl w B 1 v n (uv l)) (hn : 0 < n) :
    ∃ b off cap, v = .slice (some ⟨b, off, none⟩) n cap ∧ n ≤ cap ∧ cap ≤ maxLen ∧ b < B ∧ l.length = n ∧ ∀ j, j < n → w.cell? ⟨b, off + j, none⟩ = some (.int .u32 ((l.getD j 0 : Nat) : Int)) := by
  have hl := h.len
  rw [uv_length, Nat.mul_one] at hl
  obtain ⟨b, off, cap, rfl, h1, h2, h3, h4⟩ := h.at_ hn
  refine ⟨b, off, cap, rfl, h1, h2, h3, hl, fun j hj => ?_⟩
  rw [h4 j (by omega)]
  have : j < l.length := by omega
  simp [uv, List.getD_eq_getElem?_getD, List.getElem?_eq_getElem this]

theorem nats_of_u32 : ∀ zs : List Int, (∀ n ∈ zs, (Lit.int .u32 n).wf = true) → ∃ l : List Nat, zs = l.map (fun n : Nat => (n : Int)) ∧ ∀ x ∈ l, x < 4294967296
  | [], _ => ⟨[], rfl, by simp⟩
  | z :: zs, h => by
    obtain ⟨l, rfl, hl⟩ := nats_of_u32 zs fun n hn => h n (by simp [hn])
    have := Go.bounds_u32 (h z (by simp))
    refine ⟨z.toNat :: l, ?_, ?_⟩
    · simp; omega
    · intro x hx
      rcases List.mem_cons.1 hx with rfl | hx
      · omega
      · exact hl x hx
section
variable {H : Type} {enc : TypeId × Value → H} {P : Program} {w : World} {held : Bool}
/-- A slice of numbers of one kind that came in. -/
theorem open_kinds {κ : IntKind} {r : Reach} {b0 : Nat} {t e : TypeId} {v : Value} {d : DataW H} {ps : List MemPlace} (ht : P.underlying t = some (.slice e)) (he : P.underlying e = some (.int κ)) (hc : P.cellsOf e = 1)
    (hval : Value.okWide P w r b0 t v) (hd : DataW.Trod enc P w 0 (fun _ => true) held t v d ps) :
    ∃ l : List Int, Sl w w.heap.size 1 v l.length (kv κ l) ∧ ∀ x ∈ l, (Lit.int κ x).wf = true := by
  obtain ⟨a, len, cap, rfl⟩ := okWide_slice ht hval
  obtain ⟨fuel, hf⟩ := hd
  rcases open_ints ht he hc hf with ⟨hcs, _⟩ | ⟨x, l, c, zs, hcs, _, hl, hm, hz, _, hcell, hwz⟩
  · simp [Value.cells] at hcs
    obtain ⟨rfl, rfl, rfl⟩ := hcs
    exact ⟨[], Sl.nil _ _ _, by simp⟩
  · simp [Value.cells] at hcs
    obtain ⟨rfl, rfl, rfl⟩ := hcs
    simp only [if_true] at hz
    have hlen : (zs.take len).length = len := by rw [List.length_take]; omega
    refine ⟨zs.take len, ?_, fun x hx => hwz x (List.mem_of_mem_take hx)⟩
    refine ⟨by simp [kv_length], some x, cap, by rw [hlen], by omega, hm, fun hn => ?_⟩
    obtain ⟨b, off, spot⟩ := x
    have h0 := hcell 0 (by omega)
    have hspot : spot = none := by simpa [Addr.add] using World.cell?_spot h0
    subst hspot
    refine ⟨b, off, rfl, World.block_lt_of_cell? w _ (by simpa [Addr.add] using h0), fun j hj => ?_⟩
    rw [hlen, Nat.mul_one] at hj
    have hj2 : j < zs.length := by omega
    have h1 := hcell j hj2
    have hadd : (⟨b, off, none⟩ : Addr).add j = ⟨b, off + j, none⟩ := by unfold Addr.add; split <;> simp_all
    rw [hadd] at h1
    rw [h1]
    simp [kv, List.getD_eq_getElem?_getD, List.getElem?_map, hj, List.getElem?_eq_getElem hj2]
theorem open_u32s {r : Reach} {b0 : Nat} {t e : TypeId} {v : Value} {d : DataW H} {ps : List MemPlace} (ht : P.underlying t = some (.slice e)) (he : P.underlying e = some (.int .u32)) (hc : P.cellsOf e = 1)
    (hval : Value.okWide P w r b0 t v) (hd : DataW.Trod enc P w 0 (fun _ => true) held t v d ps) :
    ∃ l : List Nat, Sl w w.heap.size 1 v l.length (uv l) ∧ ∀ x ∈ l, x < 4294967296 := by
  obtain ⟨zs, h, hz⟩ := open_kinds ht he hc hval hd
  obtain ⟨l, rfl, hl⟩ := nats_of_u32 zs hz
  rw [List.length_map] at h
  exact ⟨l, by rw [uv_kv]; exact h, hl⟩
theorem open_u32 {r : Reach} {b0 : Nat} {t : TypeId} {v : Value} {d : DataW H} {ps : List MemPlace} (ht : P.underlying t = some (.int .u32)) (hval : Value.okWide P w r b0 t v) (hd : DataW.Trod enc P w 0 (fun _ => true) held t v d ps) :
    ∃ n : Nat, v = .int .u32 (n : Int) ∧ n < 4294967296 := by
  obtain ⟨n, rfl, _, _, hw⟩ := open_int ht hval hd
  have := Go.bounds_u32 hw
  exact ⟨n.toNat, by congr 1; omega, by omega⟩
end
end Go.Proofs.Ytdiigibldkjhoaa
