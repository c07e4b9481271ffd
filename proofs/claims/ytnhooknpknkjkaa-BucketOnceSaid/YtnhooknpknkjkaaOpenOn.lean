/-
  Arguments opened: stations that are seen, side by side. No statement is proved here.
-/
import Derived.Test.YtnhooknpknkjkaaOpenFl
namespace Go.Proofs.Ytnhooknpknkjkaa
open Go.ChangeShapes Go.WideShapes Go.RowKit Go.Deep
/-- A slice of stations seen. -/
def Seens (w : World) (v : Value) : Prop := ∃ (A : Option Addr) (n cap : Nat), v = .slice A n cap ∧ n ≤ cap ∧ cap ≤ maxLen ∧ (0 < n → ∃ b off, A = some ⟨b, off, none⟩ ∧ b < w.heap.size ∧
  ∀ i, i < n → ∃ (kv : Int) (m : Nat) (port : Int) (now : Nat), (-9223372036854775808 ≤ kv ∧ kv ≤ 9223372036854775807) ∧ m < 18446744073709551616 ∧ (-9223372036854775808 ≤ port ∧ port ≤ 9223372036854775807) ∧ now < 4294967296 ∧
    w.cell? ⟨b, off + i * 4, none⟩ = some (.int .i64 kv) ∧ w.cell? ⟨b, off + i * 4 + 1, none⟩ = some (.int .u64 (m : Int)) ∧ w.cell? ⟨b, off + i * 4 + 2, none⟩ = some (.int .i64 port) ∧ w.cell? ⟨b, off + i * 4 + 3, none⟩ = some (.int .u32 (now : Int)))
section
variable {H : Type} {enc : TypeId × Value → H} {P : Program} {w : World} {held : Bool} {base : Nat} {spare : Nat → Bool}
theorem open_seens {r : Reach} {b0 : Nat} {t e t0 t1 t2 t3 : TypeId} {v : Value} {d : DataW H} {p : List MemPlace} (ht : P.underlying t = some (.slice e)) (hl : leaves P 8 e = some [t0, t1, t2, t3]) (hC : P.cellsOf e = 4) (h0 : P.underlying t0 = some (.int .i64)) (h1 : P.underlying t1 = some (.int .u64)) (h2 : P.underlying t2 = some (.int .i64)) (h3 : P.underlying t3 = some (.int .u32))
    (hv : Value.okWide P w r b0 t v) (h : DataW.Trod enc P w 0 (fun _ => true) held t v d p) : Seens w v := by
  obtain ⟨A, n, cap, rfl, c1, c2, c3⟩ := open_flats ht hl hC (by simp) hv h
  refine ⟨A, n, cap, rfl, c1, c2, fun hn => ?_⟩
  obtain ⟨b, off, rfl, hb, hc⟩ := c3 hn
  refine ⟨b, off, rfl, hb, fun i hi => ?_⟩
  obtain ⟨u0, e0, g0⟩ := hc i hi 0 t0 rfl
  obtain ⟨u1, e1, g1⟩ := hc i hi 1 t1 rfl
  obtain ⟨u2, e2, g2⟩ := hc i hi 2 t2 rfl
  obtain ⟨u3, e3, g3⟩ := hc i hi 3 t3 rfl
  obtain ⟨kv, rfl, hk⟩ := g0.i64 h0
  obtain ⟨m, rfl, hm⟩ := g1.u64 h1
  obtain ⟨port, rfl, hp⟩ := g2.i64 h2
  obtain ⟨now, rfl, hnow⟩ := g3.u32 h3
  exact ⟨kv, m, port, now, hk, hm, hp, hnow, e0, e1, e2, e3⟩
end
end Go.Proofs.Ytnhooknpknkjkaa
