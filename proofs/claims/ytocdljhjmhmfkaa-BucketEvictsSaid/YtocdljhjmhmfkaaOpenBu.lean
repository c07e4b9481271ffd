/-
  Arguments opened: places side by side, and a station seen. No statement is proved here.
-/
import Derived.Test.YtocdljhjmhmfkaaOpenFl
import Derived.Test.YtocdljhjmhmfkaaBuA
namespace Go.Proofs.Ytocdljhjmhmfkaa
open Go.ChangeShapes Go.WideShapes Go.RowKit Go.Deep
section
variable {H : Type} {enc : TypeId × Value → H} {P : Program} {w : World} {held : Bool}
theorem open_places {r : Reach} {b0 : Nat} {t e t0 t1 t2 t3 t4 t5 : TypeId} {v : Value} {d : DataW H} {p : List MemPlace} (ht : P.underlying t = some (.slice e)) (hl : leaves P 8 e = some [t0, t1, t2, t3, t4, t5]) (hC : P.cellsOf e = 6)
    (h0 : P.underlying t0 = some .bool) (h1 : P.underlying t1 = some (.int .i64)) (h2 : P.underlying t2 = some (.int .u64)) (h3 : P.underlying t3 = some (.int .i64)) (h4 : P.underlying t4 = some .bool) (h5 : P.underlying t5 = some (.int .u32))
    (hv : Value.okWide P w r b0 t v) (h : DataW.Trod enc P w 0 (fun _ => true) held t v d p) :
    ∃ (n : Nat) (f : Nat → Pl), PlRow w w.heap.size v n f ∧ ∀ i, i < n → (f i).e.ok := by
  obtain ⟨A, n, cap, rfl, hn, hm, hc⟩ := open_flats ht hl hC (by simp) hv h
  rcases Nat.eq_zero_or_pos n with hz | hz
  · subst hz
    exact ⟨0, fun _ => pl0, ⟨A, cap, rfl, by omega, hm, fun h => by omega⟩, fun i hi => by omega⟩
  · obtain ⟨b, off, rfl, hb, hcell⟩ := hc hz
    have hex : ∀ i, i < n → ∃ x : Pl, x.e.ok ∧ plHolds w b (off + i * 6) x := by
      intro i hi
      obtain ⟨u0, e0, g0⟩ := hcell i hi 0 t0 rfl
      obtain ⟨u1, e1, g1⟩ := hcell i hi 1 t1 rfl
      obtain ⟨u2, e2, g2⟩ := hcell i hi 2 t2 rfl
      obtain ⟨u3, e3, g3⟩ := hcell i hi 3 t3 rfl
      obtain ⟨u4, e4, g4⟩ := hcell i hi 4 t4 rfl
      obtain ⟨u5, e5, g5⟩ := hcell i hi 5 t5 rfl
      obtain ⟨x0, rfl⟩ := g0.bool h0
      obtain ⟨x1, rfl, k1⟩ := g1.i64 h1
      obtain ⟨x2, rfl, k2⟩ := g2.u64 h2
      obtain ⟨x3, rfl, k3⟩ := g3.i64 h3
      obtain ⟨x4, rfl⟩ := g4.bool h4
      obtain ⟨x5, rfl, k5⟩ := g5.u32 h5
      exact ⟨⟨x0, ⟨x1, x2, x3, x4, x5⟩⟩, ⟨k1, k2, k3, k5⟩, e0, e1, e2, e3, e4, e5⟩
    refine ⟨n, fun i => if h : i < n then Classical.choose (hex i h) else pl0, ⟨_, cap, rfl, hn, hm, fun _ => ⟨b, off, rfl, hb, fun j hj => ?_⟩⟩, fun i hi => ?_⟩
    · simp only [dif_pos hj]; exact (Classical.choose_spec (hex j hj)).2
    · simp only [dif_pos hi]; exact (Classical.choose_spec (hex i hi)).1
theorem open_seen {r : Reach} {b0 base : Nat} {spare : Nat → Bool} {t t0 t1 t2 t3 : TypeId} {fs : Array Field} {v : Value} {d : DataW H} {p : List MemPlace} (hs : P.underlying t = some (.struct fs)) (hl : leaves P 8 t = some [t0, t1, t2, t3]) (hn : P.cellsOf t = 4) (h0 : P.underlying t0 = some (.int .i64)) (h1 : P.underlying t1 = some (.int .u64)) (h2 : P.underlying t2 = some (.int .i64)) (h3 : P.underlying t3 = some (.int .u32))
    (hv : Value.okWide P w r b0 t v) (h : DataW.Trod enc P w base spare held t v d p) :
    ∃ (a : Int) (m : Nat) (q : Int) (s : Nat), v = .agg #[.int .i64 a, .int .u64 (m : Int), .int .i64 q, .int .u32 (s : Int)] ∧ m < 18446744073709551616 ∧ s < 4294967296 := by
  obtain ⟨l, rfl, hlen, hf⟩ := open_flat hs hl hn hv h
  obtain ⟨u0, e0, g0⟩ := hf 0 t0 rfl
  obtain ⟨u1, e1, g1⟩ := hf 1 t1 rfl
  obtain ⟨u2, e2, g2⟩ := hf 2 t2 rfl
  obtain ⟨u3, e3, g3⟩ := hf 3 t3 rfl
  obtain ⟨a, rfl, _⟩ := g0.i64 h0
  obtain ⟨m, rfl, hm⟩ := g1.u64 h1
  obtain ⟨q, rfl, _⟩ := g2.i64 h2
  obtain ⟨s, rfl, hs⟩ := g3.u32 h3
  match l, hlen with
  | [x0, x1, x2, x3], _ =>
    simp at e0 e1 e2 e3
    subst e0 e1 e2 e3
    exact ⟨a, m, q, s, rfl, hm, hs⟩
end
end Go.Proofs.Ytocdljhjmhmfkaa
