/-
  Arguments opened: a book's size; something that is done to one. No statement is proved here.
-/
import Derived.Test.YtocdljhjmhmfkaaOpenFl
namespace Go.Proofs.Ytocdljhjmhmfkaa
open Go.ChangeShapes Go.WideShapes Go.RowKit Go.Deep
section
variable {H : Type} {enc : TypeId × Value → H} {P : Program} {w : World} {held : Bool} {base : Nat} {spare : Nat → Bool}
theorem open_size {r : Reach} {b0 : Nat} {t t0 t1 t2 : TypeId} {fs : Array Field} {v : Value} {d : DataW H} {p : List MemPlace} (hs : P.underlying t = some (.struct fs)) (hl : leaves P 8 t = some [t0, t1, t2]) (hn : P.cellsOf t = 3) (h0 : P.underlying t0 = some (.int .i64)) (h1 : P.underlying t1 = some (.int .i64)) (h2 : P.underlying t2 = some (.int .i64))
    (hv : Value.okWide P w r b0 t v) (h : DataW.Trod enc P w base spare held t v d p) :
    ∃ a b c : Int, v = .agg #[.int .i64 a, .int .i64 b, .int .i64 c] := by
  obtain ⟨l, rfl, hlen, hf⟩ := open_flat hs hl hn hv h
  obtain ⟨u0, e0, g0⟩ := hf 0 t0 rfl
  obtain ⟨u1, e1, g1⟩ := hf 1 t1 rfl
  obtain ⟨u2, e2, g2⟩ := hf 2 t2 rfl
  obtain ⟨a, rfl, _⟩ := g0.i64 h0
  obtain ⟨b, rfl, _⟩ := g1.i64 h1
  obtain ⟨c, rfl, _⟩ := g2.i64 h2
  match l, hlen with
  | [x, y, z], _ =>
    simp at e0 e1 e2
    subst e0 e1 e2
    exact ⟨a, b, c, rfl⟩
theorem open_op11 {r : Reach} {b0 : Nat} {t t0 t1 t2 t3 t4 t5 t6 : TypeId} {fs : Array Field} {v : Value} {d : DataW H} {p : List MemPlace} (hs : P.underlying t = some (.struct fs)) (hl : leaves P 8 t = some [t0, t1, t2, t3, t4, t5, t6]) (hn : P.cellsOf t = 7) (h0 : P.underlying t0 = some (.int .i64)) (h1 : P.underlying t1 = some (.int .i64)) (h2 : P.underlying t2 = some (.int .u64)) (h3 : P.underlying t3 = some (.int .i64)) (h4 : P.underlying t4 = some (.int .i64)) (h5 : P.underlying t5 = some (.int .u32)) (h6 : P.underlying t6 = some (.int .u32))
    (hv : Value.okWide P w r b0 t v) (h : DataW.Trod enc P w base spare held t v d p) :
    ∃ (kd kv : Int) (m : Nat) (port vid : Int) (now old : Nat), v = .agg #[.int .i64 kd, .int .i64 kv, .int .u64 (m : Int), .int .i64 port, .int .i64 vid, .int .u32 (now : Int), .int .u32 (old : Int)] ∧ m < 18446744073709551616 ∧ now < 4294967296 ∧ old < 4294967296 := by
  obtain ⟨l, rfl, hlen, hf⟩ := open_flat hs hl hn hv h
  obtain ⟨u0, e0, g0⟩ := hf 0 t0 rfl
  obtain ⟨u1, e1, g1⟩ := hf 1 t1 rfl
  obtain ⟨u2, e2, g2⟩ := hf 2 t2 rfl
  obtain ⟨u3, e3, g3⟩ := hf 3 t3 rfl
  obtain ⟨u4, e4, g4⟩ := hf 4 t4 rfl
  obtain ⟨u5, e5, g5⟩ := hf 5 t5 rfl
  obtain ⟨u6, e6, g6⟩ := hf 6 t6 rfl
  obtain ⟨kd, rfl, _⟩ := g0.i64 h0
  obtain ⟨kv, rfl, _⟩ := g1.i64 h1
  obtain ⟨m, rfl, hm⟩ := g2.u64 h2
  obtain ⟨port, rfl, _⟩ := g3.i64 h3
  obtain ⟨vid, rfl, _⟩ := g4.i64 h4
  obtain ⟨now, rfl, hnow⟩ := g5.u32 h5
  obtain ⟨old, rfl, hold⟩ := g6.u32 h6
  match l, hlen with
  | [x0, x1, x2, x3, x4, x5, x6], _ =>
    simp at e0 e1 e2 e3 e4 e5 e6
    subst e0 e1 e2 e3 e4 e5 e6
    exact ⟨kd, kv, m, port, vid, now, old, rfl, hm, hnow, hold⟩
end
end Go.Proofs.Ytocdljhjmhmfkaa
