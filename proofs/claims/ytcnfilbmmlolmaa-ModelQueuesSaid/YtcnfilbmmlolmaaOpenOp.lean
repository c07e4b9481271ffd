/-
  A row of Ops that came in. No statement is proved here.
-/
import Derived.Test.YtcnfilbmmlolmaaOpenPn
set_option linter.unusedVariables false
namespace Go.Proofs.Ytcnfilbmmlolmaa
open Go.ChangeShapes Go.WideShapes Go.RowKit Go.Deep

/-- A slice of Ops: each one's fourteen cells. -/
def Ops17 (w : World) (v : Value) : Prop :=
  ∃ (A : Option Addr) (n cap : Nat), v = .slice A n cap ∧ n ≤ cap ∧ cap ≤ maxLen ∧ (0 < n → ∃ b off, A = some ⟨b, off, none⟩ ∧ b < w.heap.size ∧
    ∀ i, i < n → ∃ (kd po tt vi sx kv : Int) (km me un nw li : Nat) (sh bu id : Int), ((-9223372036854775808 ≤ vi ∧ vi ≤ 9223372036854775807) ∧ km < 18446744073709551616 ∧ me < 18446744073709551616 ∧ un < 18446744073709551616 ∧ nw < 4294967296 ∧ li < 4294967296) ∧ w.cell? ⟨b, off + i * 14 + 0, none⟩ = some (.int .i64 kd) ∧ w.cell? ⟨b, off + i * 14 + 1, none⟩ = some (.int .i64 po) ∧ w.cell? ⟨b, off + i * 14 + 2, none⟩ = some (.int .i64 tt) ∧ w.cell? ⟨b, off + i * 14 + 3, none⟩ = some (.int .i64 vi) ∧ w.cell? ⟨b, off + i * 14 + 4, none⟩ = some (.int .i64 sx) ∧ w.cell? ⟨b, off + i * 14 + 5, none⟩ = some (.int .i64 kv) ∧ w.cell? ⟨b, off + i * 14 + 6, none⟩ = some (.int .u64 (km : Nat)) ∧ w.cell? ⟨b, off + i * 14 + 7, none⟩ = some (.int .u64 (me : Nat)) ∧ w.cell? ⟨b, off + i * 14 + 8, none⟩ = some (.int .u64 (un : Nat)) ∧ w.cell? ⟨b, off + i * 14 + 9, none⟩ = some (.int .u32 (nw : Nat)) ∧ w.cell? ⟨b, off + i * 14 + 10, none⟩ = some (.int .u32 (li : Nat)) ∧ w.cell? ⟨b, off + i * 14 + 11, none⟩ = some (.int .i64 sh) ∧ w.cell? ⟨b, off + i * 14 + 12, none⟩ = some (.int .i64 bu) ∧ w.cell? ⟨b, off + i * 14 + 13, none⟩ = some (.int .i64 id))
section
variable {H : Type} {enc : TypeId × Value → H} {P : Program} {w : World} {held : Bool}
theorem open_ops17 {r : Reach} {b0 : Nat} {t e i q u : TypeId} {v : Value} {d : DataW H} {p : List MemPlace} (ht : P.underlying t = some (.slice e)) (hl : leaves P 8 e = some [i, i, i, i, i, i, q, q, q, u, u, i, i, i]) (hC : P.cellsOf e = 14)
    (hi : P.underlying i = some (.int .i64)) (hq : P.underlying q = some (.int .u64)) (hu : P.underlying u = some (.int .u32))
    (hv : Value.okWide P w r b0 t v) (h : DataW.Trod enc P w 0 (fun _ => true) held t v d p) : Ops17 w v := by
  obtain ⟨A, n, cap, rfl, hn, hm, hc⟩ := open_flats ht hl hC (by simp) hv h
  refine ⟨A, n, cap, rfl, hn, hm, fun h0 => ?_⟩
  obtain ⟨b, off, rfl, hb, hcell⟩ := hc h0
  refine ⟨b, off, rfl, hb, fun j hj => ?_⟩
  obtain ⟨u0, e0, g0⟩ := hcell j hj 0 i rfl
  obtain ⟨u1, e1, g1⟩ := hcell j hj 1 i rfl
  obtain ⟨u2, e2, g2⟩ := hcell j hj 2 i rfl
  obtain ⟨u3, e3, g3⟩ := hcell j hj 3 i rfl
  obtain ⟨u4, e4, g4⟩ := hcell j hj 4 i rfl
  obtain ⟨u5, e5, g5⟩ := hcell j hj 5 i rfl
  obtain ⟨u6, e6, g6⟩ := hcell j hj 6 q rfl
  obtain ⟨u7, e7, g7⟩ := hcell j hj 7 q rfl
  obtain ⟨u8, e8, g8⟩ := hcell j hj 8 q rfl
  obtain ⟨u9, e9, g9⟩ := hcell j hj 9 u rfl
  obtain ⟨u10, e10, g10⟩ := hcell j hj 10 u rfl
  obtain ⟨u11, e11, g11⟩ := hcell j hj 11 i rfl
  obtain ⟨u12, e12, g12⟩ := hcell j hj 12 i rfl
  obtain ⟨u13, e13, g13⟩ := hcell j hj 13 i rfl
  obtain ⟨x0, rfl, b0⟩ := g0.i64 hi
  obtain ⟨x1, rfl, b1⟩ := g1.i64 hi
  obtain ⟨x2, rfl, b2⟩ := g2.i64 hi
  obtain ⟨x3, rfl, b3⟩ := g3.i64 hi
  obtain ⟨x4, rfl, b4⟩ := g4.i64 hi
  obtain ⟨x5, rfl, b5⟩ := g5.i64 hi
  obtain ⟨x6, rfl, b6⟩ := g6.u64 hq
  obtain ⟨x7, rfl, b7⟩ := g7.u64 hq
  obtain ⟨x8, rfl, b8⟩ := g8.u64 hq
  obtain ⟨x9, rfl, b9⟩ := g9.u32 hu
  obtain ⟨x10, rfl, b10⟩ := g10.u32 hu
  obtain ⟨x11, rfl, b11⟩ := g11.i64 hi
  obtain ⟨x12, rfl, b12⟩ := g12.i64 hi
  obtain ⟨x13, rfl, b13⟩ := g13.i64 hi
  exact ⟨x0, x1, x2, x3, x4, x5, x6, x7, x8, x9, x10, x11, x12, x13, ⟨b3, b6, b7, b8, b9, b10⟩, e0, e1, e2, e3, e4, e5, e6, e7, e8, e9, e10, e11, e12, e13⟩
end
end Go.Proofs.Ytcnfilbmmlolmaa
