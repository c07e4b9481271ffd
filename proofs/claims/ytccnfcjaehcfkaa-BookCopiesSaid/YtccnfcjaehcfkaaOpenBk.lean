/-
  Arguments opened: a book's size; something that is done to one. No statement is proved here.
-/
import Derived.Test.YtccnfcjaehcfkaaOpenFl
namespace Go.Proofs.Ytccnfcjaehcfkaa
open Go.ChangeShapes Go.WideShapes Go.RowKit Go.Deep
/-- A slice of things that are done to a book. -/
def Ops11 (w : World) (v : Value) : Prop := ∃ (A : Option Addr) (n cap : Nat), v = .slice A n cap ∧ n ≤ cap ∧ cap ≤ maxLen ∧ (0 < n → ∃ b off, A = some ⟨b, off, none⟩ ∧ b < w.heap.size ∧
  ∀ i, i < n → ∃ (kd kv : Int) (m : Nat) (port vid : Int) (now old : Nat), m < 18446744073709551616 ∧ now < 4294967296 ∧ old < 4294967296 ∧ w.cell? ⟨b, off + i * 7, none⟩ = some (.int .i64 kd) ∧ w.cell? ⟨b, off + i * 7 + 1, none⟩ = some (.int .i64 kv) ∧ w.cell? ⟨b, off + i * 7 + 2, none⟩ = some (.int .u64 (m : Int)) ∧ w.cell? ⟨b, off + i * 7 + 3, none⟩ = some (.int .i64 port) ∧ w.cell? ⟨b, off + i * 7 + 4, none⟩ = some (.int .i64 vid) ∧ w.cell? ⟨b, off + i * 7 + 5, none⟩ = some (.int .u32 (now : Int)) ∧ w.cell? ⟨b, off + i * 7 + 6, none⟩ = some (.int .u32 (old : Int)))
section
variable {H : Type} {enc : TypeId × Value → H} {P : Program} {w : World} {held : Bool} {base : Nat} {spare : Nat → Bool}
theorem open_size {r : Reach} {b0 : Nat} {t t0 t1 t2 : TypeId} {fs : Array Field} {v : Value} {d : DataW H} {p : List MemPlace} (hs : P.underlying t = some (.struct fs)) (hl : leaves P 8 t = some [t0, t1, t2]) (hn : P.cellsOf t = 3) (h0 : P.underlying t0 = some (.int .i64)) (h1 : P.underlying t1 = some (.int .i64)) (h2 : P.underlying t2 = some (.int .i64))
    (hv : Value.okWide P w r b0 t v) (h : DataW.Trod enc P w base spare held t v d p) :
    ∃ a b c : Int, v = .agg #[.int .i64 a, .int .i64 b, .int .i64 c] := by
  obtain ⟨l, rfl, hlen, hf⟩ := open_flat hs hl hn hv h
  obtain ⟨u0, e0, g0⟩ := hf 0 t0 rfl
  obtain ⟨u1, e1, g1⟩ := hf 1 t1 rfl
  obtain ⟨u2, e2, g2⟩ := hf 2 t2 rfl
  obtain ⟨a, rfl, _⟩ := g0.i64 h0
  obtain ⟨b, rfl, _⟩ := g1.i64 h1
  obtain ⟨c, rfl, _⟩ := g2.i64 h2
  match l, hlen with
  | [x, y, z], _ =>
    simp at e0 e1 e2
    subst e0 e1 e2
    exact ⟨a, b, c, rfl⟩
theorem open_op11 {r : Reach} {b0 : Nat} {t t0 t1 t2 t3 t4 t5 t6 : TypeId} {fs : Array Field} {v : Value} {d : DataW H} {p : List MemPlace} (hs : P.underlying t = some (.struct fs)) (hl : leaves P 8 t = some [t0, t1, t2, t3, t4, t5, t6]) (hn : P.cellsOf t = 7) (h0 : P.underlying t0 = some (.int .i64)) (h1 : P.underlying t1 = some (.int .i64)) (h2 : P.underlying t2 = some (.int .u64)) (h3 : P.underlying t3 = some (.int .i64)) (h4 : P.underlying t4 = some (.int .i64)) (h5 : P.underlying t5 = some (.int .u32)) (h6 : P.underlying t6 = some (.int .u32))
    (hv : Value.okWide P w r b0 t v) (h : DataW.Trod enc P w base spare held t v d p) :
    ∃ (kd kv : Int) (m : Nat) (port vid : Int) (now old : Nat), v = .agg #[.int .i64 kd, .int .i64 kv, .int .u64 (m : Int), .int .i64 port, .int .i64 vid, .int .u32 (now : Int), .int .u32 (old : Int)] ∧ m < 18446744073709551616 ∧ now < 4294967296 ∧ old < 4294967296 := by
  obtain ⟨l, rfl, hlen, hf⟩ := open_flat hs hl hn hv h
  obtain ⟨u0, e0, g0⟩ := hf 0 t0 rfl
  obtain ⟨u1, e1, g1⟩ := hf 1 t1 rfl
  obtain ⟨u2, e2, g2⟩ := hf 2 t2 rfl
  obtain ⟨u3, e3, g3⟩ := hf 3 t3 rfl
  obtain ⟨u4, e4, g4⟩ := hf 4 t4 rfl
  obtain ⟨u5, e5, g5⟩ := hf 5 t5 rfl
  obtain ⟨u6, e6, g6⟩ := hf 6 t6 rfl
  obtain ⟨kd, rfl, _⟩ := g0.i64 h0
  obtain ⟨kv, rfl, _⟩ := g1.i64 h1
  obtain ⟨m, rfl, hm⟩ := g2.u64 h2
  obtain ⟨port, rfl, _⟩ := g3.i64 h3
  obtain ⟨vid, rfl, _⟩ := g4.i64 h4
  obtain ⟨now, rfl, hnow⟩ := g5.u32 h5
  obtain ⟨old, rfl, hold⟩ := g6.u32 h6
  match l, hlen with
  | [x0, x1, x2, x3, x4, x5, x6], _ =>
    simp at e0 e1 e2 e3 e4 e5 e6
    subst e0 e1 e2 e3 e4 e5 e6
    exact ⟨kd, kv, m, port, vid, now, old, rfl, hm, hnow, hold⟩
theorem open_ops11 {r : Reach} {b0 : Nat} {t e t0 t1 t2 t3 t4 t5 t6 : TypeId} {v : Value} {d : DataW H} {p : List MemPlace} (ht : P.underlying t = some (.slice e)) (hl : leaves P 8 e = some [t0, t1, t2, t3, t4, t5, t6]) (hC : P.cellsOf e = 7) (h0 : P.underlying t0 = some (.int .i64)) (h1 : P.underlying t1 = some (.int .i64)) (h2 : P.underlying t2 = some (.int .u64)) (h3 : P.underlying t3 = some (.int .i64)) (h4 : P.underlying t4 = some (.int .i64)) (h5 : P.underlying t5 = some (.int .u32)) (h6 : P.underlying t6 = some (.int .u32))
    (hv : Value.okWide P w r b0 t v) (h : DataW.Trod enc P w 0 (fun _ => true) held t v d p) : Ops11 w v := by
  obtain ⟨A, n, cap, rfl, c1, c2, c3⟩ := open_flats ht hl hC (by simp) hv h
  refine ⟨A, n, cap, rfl, c1, c2, fun hn => ?_⟩
  obtain ⟨b, off, rfl, hb, hc⟩ := c3 hn
  refine ⟨b, off, rfl, hb, fun i hi => ?_⟩
  obtain ⟨u0, e0, g0⟩ := hc i hi 0 t0 rfl
  obtain ⟨u1, e1, g1⟩ := hc i hi 1 t1 rfl
  obtain ⟨u2, e2, g2⟩ := hc i hi 2 t2 rfl
  obtain ⟨u3, e3, g3⟩ := hc i hi 3 t3 rfl
  obtain ⟨u4, e4, g4⟩ := hc i hi 4 t4 rfl
  obtain ⟨u5, e5, g5⟩ := hc i hi 5 t5 rfl
  obtain ⟨u6, e6, g6⟩ := hc i hi 6 t6 rfl
  obtain ⟨kd, rfl, _⟩ := g0.i64 h0
  obtain ⟨kv, rfl, _⟩ := g1.i64 h1
  obtain ⟨m, rfl, hm⟩ := g2.u64 h2
  obtain ⟨port, rfl, _⟩ := g3.i64 h3
  obtain ⟨vid, rfl, _⟩ := g4.i64 h4
  obtain ⟨now, rfl, hnow⟩ := g5.u32 h5
  obtain ⟨old, rfl, hold⟩ := g6.u32 h6
  exact ⟨kd, kv, m, port, vid, now, old, hm, hnow, hold, by simpa using e0, by simpa using e1, by simpa using e2, by simpa using e3, by simpa using e4, by simpa using e5, by simpa using e6⟩
end
end Go.Proofs.Ytccnfcjaehcfkaa
