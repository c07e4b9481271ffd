/-
  Words and contracts that a statement's proof rests on (OpenOp, Store, MoQ). No statement is proved here.
-/
import Derived.Deep.MidRow
import Derived.Deep.RegionLaw
import Derived.Test.YtpcapdpglpgcbaaGreatKit
import Derived.Test.YtpcapdpglpgcbaaGreatBkA
import Derived.Test.YtpcapdpglpgcbaaGreatOpenPn
import Derived.Test.YtpcapdpglpgcbaaGreatBuN
set_option linter.unusedVariables false
set_option linter.unusedSimpArgs false
namespace Go.Proofs.YtpcapdpglpgcbaaGreat
section
open Go.ChangeShapes Go.WideShapes Go.RowKit Go.Deep
def Ops17 (w : World) (v : Value) : Prop :=
 ∃ (A : Option Addr) (n cap : Nat), v = .slice A n cap ∧ n ≤ cap ∧ cap ≤ maxLen ∧ (0 < n → ∃ b off, A = some ⟨b, off, none⟩ ∧ b < w.heap.size ∧
  ∀ i, i < n → ∃ (kd po tt vi sx kv : Int) (km me un nw li : Nat) (sh bu id : Int), ((-9223372036854775808 ≤ vi ∧ vi ≤ 9223372036854775807) ∧ km < 18446744073709551616 ∧ me < 18446744073709551616 ∧ un < 18446744073709551616 ∧ nw < 4294967296 ∧ li < 4294967296) ∧ w.cell? ⟨b, off + i * 14 + 0, none⟩ = some (.int .i64 kd) ∧ w.cell? ⟨b, off + i * 14 + 1, none⟩ = some (.int .i64 po) ∧ w.cell? ⟨b, off + i * 14 + 2, none⟩ = some (.int .i64 tt) ∧ w.cell? ⟨b, off + i * 14 + 3, none⟩ = some (.int .i64 vi) ∧ w.cell? ⟨b, off + i * 14 + 4, none⟩ = some (.int .i64 sx) ∧ w.cell? ⟨b, off + i * 14 + 5, none⟩ = some (.int .i64 kv) ∧ w.cell? ⟨b, off + i * 14 + 6, none⟩ = some (.int .u64 (km : Nat)) ∧ w.cell? ⟨b, off + i * 14 + 7, none⟩ = some (.int .u64 (me : Nat)) ∧ w.cell? ⟨b, off + i * 14 + 8, none⟩ = some (.int .u64 (un : Nat)) ∧ w.cell? ⟨b, off + i * 14 + 9, none⟩ = some (.int .u32 (nw : Nat)) ∧ w.cell? ⟨b, off + i * 14 + 10, none⟩ = some (.int .u32 (li : Nat)) ∧ w.cell? ⟨b, off + i * 14 + 11, none⟩ = some (.int .i64 sh) ∧ w.cell? ⟨b, off + i * 14 + 12, none⟩ = some (.int .i64 bu) ∧ w.cell? ⟨b, off + i * 14 + 13, none⟩ = some (.int .i64 id))
section
variable {H : Type} {enc : TypeId × Value → H} {P : Program} {w : World} {held : Bool}
theorem open_ops17 {r : Reach} {b0 : Nat} {t e i q u : TypeId} {v : Value} {d : DataW H} {p : List MemPlace} (ht : P.underlying t = some (.slice e)) (hl : leaves P 8 e = some [i, i, i, i, i, i, q, q, q, u, u, i, i, i]) (hC : P.cellsOf e = 14)
  (hi : P.underlying i = some (.int .i64)) (hq : P.underlying q = some (.int .u64)) (hu : P.underlying u = some (.int .u32))
  (hv : Value.okWide P w r b0 t v) (h : DataW.Trod enc P w 0 (fun _ => true) held t v d p) : Ops17 w v := by
 obtain ⟨A, n, cap, rfl, hn, hm, hc⟩ := open_flats ht hl hC (by simp) hv h
 refine ⟨A, n, cap, rfl, hn, hm, fun h0 => ?_⟩
 obtain ⟨b, off, rfl, hb, hcell⟩ := hc h0
 refine ⟨b, off, rfl, hb, fun j hj => ?_⟩
 obtain ⟨u0, e0, g0⟩ := hcell j hj 0 i rfl
 obtain ⟨u1, e1, g1⟩ := hcell j hj 1 i rfl
 obtain ⟨u2, e2, g2⟩ := hcell j hj 2 i rfl
 obtain ⟨u3, e3, g3⟩ := hcell j hj 3 i rfl
 obtain ⟨u4, e4, g4⟩ := hcell j hj 4 i rfl
 obtain ⟨u5, e5, g5⟩ := hcell j hj 5 i rfl
 obtain ⟨u6, e6, g6⟩ := hcell j hj 6 q rfl
 obtain ⟨u7, e7, g7⟩ := hcell j hj 7 q rfl
 obtain ⟨u8, e8, g8⟩ := hcell j hj 8 q rfl
 obtain ⟨u9, e9, g9⟩ := hcell j hj 9 u rfl
 obtain ⟨u10, e10, g10⟩ := hcell j hj 10 u rfl
 obtain ⟨u11, e11, g11⟩ := hcell j hj 11 i rfl
 obtain ⟨u12, e12, g12⟩ := hcell j hj 12 i rfl
 obtain ⟨u13, e13, g13⟩ := hcell j hj 13 i rfl
 obtain ⟨x0, rfl, b0⟩ := g0.i64 hi
 obtain ⟨x1, rfl, b1⟩ := g1.i64 hi
 obtain ⟨x2, rfl, b2⟩ := g2.i64 hi
 obtain ⟨x3, rfl, b3⟩ := g3.i64 hi
 obtain ⟨x4, rfl, b4⟩ := g4.i64 hi
 obtain ⟨x5, rfl, b5⟩ := g5.i64 hi
 obtain ⟨x6, rfl, b6⟩ := g6.u64 hq
 obtain ⟨x7, rfl, b7⟩ := g7.u64 hq
 obtain ⟨x8, rfl, b8⟩ := g8.u64 hq
 obtain ⟨x9, rfl, b9⟩ := g9.u32 hu
 obtain ⟨x10, rfl, b10⟩ := g10.u32 hu
 obtain ⟨x11, rfl, b11⟩ := g11.i64 hi
 obtain ⟨x12, rfl, b12⟩ := g12.i64 hi
 obtain ⟨x13, rfl, b13⟩ := g13.i64 hi
 exact ⟨x0, x1, x2, x3, x4, x5, x6, x7, x8, x9, x10, x11, x12, x13, ⟨b3, b6, b7, b8, b9, b10⟩, e0, e1, e2, e3, e4, e5, e6, e7, e8, e9, e10, e11, e12, e13⟩
end
end
section
open Go.RowKit
theorem heap_setCell_far (w : World) (p : Addr) (v : Value) {k : Nat} (h : k ≠ p.block) : (w.setCell p v).heap[k]? = w.heap[k]? := by
 unfold World.setCell
 simp only [Array.getElem?_modify]
 rw [if_neg (fun e => h e.symm)]
theorem heap_setCells_far (b : Nat) : ∀ (vs : List Value) (o : Nat) (w : World) {k : Nat}, k ≠ b → (w.setCells b o vs).heap[k]? = w.heap[k]?
 | [], _, _, _, _ => rfl
 | v :: r, o, w, _, h => (heap_setCells_far b r (o + 1) _ h).trans (heap_setCell_far w ⟨b, o, none⟩ v h)
theorem below_setCells {B b : Nat} (hB : B ≤ b) : ∀ (vs : List Value) (o : Nat) (w0 w : World), Below B w0 w → Below B w0 (w.setCells b o vs)
 | [], _, _, _, h => h
 | v :: r, o, w0, _, h => below_setCells hB r (o + 1) w0 _ (h.setCell hB v)
theorem size_setCells (b : Nat) : ∀ (vs : List Value) (o : Nat) (w : World), (w.setCells b o vs).heap.size = w.heap.size
 | [], _, _ => rfl
 | v :: r, o, w => (size_setCells b r (o + 1) _).trans (by simp)
structure Stored (w : World) (b o : Nat) (vs : List Value) (w' : World) : Prop where
 cells : ∀ j v, vs[j]? = some v → w'.cell? ⟨b, o + j, none⟩ = some v
 far : ∀ k, k ≠ b → w'.heap[k]? = w.heap[k]?
 size : w'.heap.size = w.heap.size
 below : ∀ B, B ≤ b → Below B w w'
 marks : ∀ p, w'.frozen? p = w.frozen? p
theorem Stored.mk_ (w : World) (b o : Nat) (vs : List Value) (ht : w.there b o vs.length) : Stored w b o vs (w.setCells b o vs) :=
 ⟨World.rangeAt_setCells_same w b o vs ht, fun _ h => heap_setCells_far b vs o w h, size_setCells b vs o w, fun _ hB => below_setCells hB vs o w w (Below.refl _ _), fun p => World.frozen?_setCells b vs o w p⟩
section
variable {P : Program}
theorem step_store {ops : Array Oper} {op : Oper} {a : Act} {w : World} {K : Act → World → Prop} {Q : Exit → Act → World → Prop} {E : Prop} (hgd : op.guard = none) (ty : TypeId) (x y : Operand) (ho : op.op = .store ty x y)
  (b o : Nat) (cells : Array Value) (hx : a.eval x = .pointer (some ⟨b, o, none⟩)) (hy : a.eval y = .agg cells)
  (ht : w.there b o cells.size) (hi : (P.info? ty).map (·.size) = some cells.size) (h1 : cells.all (·.oneCell') = true)
  (h : ∀ w', Stored w b o cells.toList w' → K (a.put op.dst undef) w') : if Region.wanted op (yielded ops a.tmps) = true then Oper.wp P op a w K Q else E := by
 have hw : Region.wanted op (yielded ops a.tmps) = true := by simp [Region.wanted, hgd]
 rw [if_pos hw]
 exact wp_store_mid ty x y ho b o cells hx hy ht hi h1 (h _ (Stored.mk_ w b o cells.toList (by simpa using ht)))
theorem wpList_store {ops : Array Oper} {rest : List Oper} {op : Oper} {a : Act} {w : World} {Q : Exit → Act → World → Prop} (hgd : op.guard = none) (ty : TypeId) (x y : Operand) (ho : op.op = .store ty x y)
  (b o : Nat) (cells : Array Value) (hx : a.eval x = .pointer (some ⟨b, o, none⟩)) (hy : a.eval y = .agg cells)
  (ht : w.there b o cells.size) (hi : (P.info? ty).map (·.size) = some cells.size) (h1 : cells.all (·.oneCell') = true)
  (h : ∀ w', Stored w b o cells.toList w' → wpList P ops Q rest (a.put op.dst undef) w') : wpList P ops Q (op :: rest) a w :=
 wpList_store_mid hgd ty x y ho b o cells hx hy ht hi h1 (h _ (Stored.mk_ w b o cells.toList (by simpa using ht)))
end
end
section
open Go.RowKit
theorem infoInt : (Tryz.prog.info? 3).map (fun i => (i.zero, i.size, i.bytes)) = some (some (.int .i64 0), 1, 8) := by kernel_rfl
def overL : List Value → Nat → List Value → List Value
 | xs, _, [] => xs
 | xs, o, v :: vs => overL (xs.set o v) (o + 1) vs
theorem overL_low : ∀ (vs xs : List Value) (o j : Nat), j < o → (overL xs o vs)[j]? = xs[j]?
 | [], xs, o, j, _ => rfl
 | v :: vs, xs, o, j, h => by
  unfold overL
  rw [overL_low vs _ _ _ (by omega), List.getElem?_set_ne (by omega)]
theorem overL_at : ∀ (vs xs : List Value) (o j : Nat), j < vs.length → o + j < xs.length → (overL xs o vs)[o + j]? = vs[j]?
 | [], xs, o, j, h, _ => by simp at h
 | v :: vs, xs, o, 0, h, h2 => by
  unfold overL
  rw [overL_low vs _ _ _ (by omega)]
  simp only [Nat.add_zero] at h2 ⊢
  rw [List.getElem?_set_self h2]
  rfl
 | v :: vs, xs, o, j + 1, h, h2 => by
  unfold overL
  rw [show o + (j + 1) = o + 1 + j by omega, overL_at vs _ _ _ (by simpa using h) (by rw [List.length_set]; omega)]
  rfl
theorem own_over {L n cap b : Nat} {e : TypeId} : ∀ (vs : List Value) (o : Nat) (w : World) (xs : List Value), w.ownsRow L e 1 (.slice (some ⟨b, 0, none⟩) n cap) n xs → (w.setCells b o vs).ownsRow L e 1 (.slice (some ⟨b, 0, none⟩) n cap) n (overL xs o vs)
 | [], _, _, _, h => h
 | v :: vs, o, w, xs, h => own_over vs (o + 1) _ _ (h.stored o v).1
theorem own_cut {w : World} {L n cap b : Nat} {e : TypeId} {xs : List Value} (h : w.ownsRow L e 1 (.slice (some ⟨b, 0, none⟩) (n + 1) cap) (n + 1) xs) : w.ownsRow L e 1 (.slice (some ⟨b, 0, none⟩) n cap) n (xs.take n) := by
 refine ⟨by have := h.1; rw [List.length_take]; omega, ?_⟩
 rcases h.2 with hn | ⟨g, cap', cur, hv, hb, hg, hnc, hcm, hcs, ht⟩
 ·cases hn.1
 ·simp only [Value.slice.injEq, Option.some.injEq, Addr.mk.injEq, and_true, true_and] at hv
  obtain ⟨rfl, rfl⟩ := hv
  refine .inr ⟨b, cap, cur, rfl, hb, hg, by omega, hcm, hcs, ?_⟩
  rw [← ht, List.take_take]
  congr 1
  omega
theorem But.setCells {q : Nat} : ∀ (vs : List Value) (o : Nat) (w : World), But q w (w.setCells q o vs)
 | [], _, w => ⟨Below.refl _ _, fun _ _ _ => rfl⟩
 | v :: vs, o, w => (But.set o v).trans (But.setCells vs (o + 1) _)
set_option maxRecDepth 100000 in
set_option maxHeartbeats 1600000 in
theorem delete_first {w : World} {L n cap b : Nat} {x : Int} {l : List Int} (hown : w.ownsRow L 3 1 (.slice (some ⟨b, 0, none⟩) (n + 1) cap) (n + 1) (kv .i64 (x :: l))) :
  Calls Tryz.prog 87 #[.slice (some ⟨b, 0, none⟩) (n + 1) cap, .int .i64 0, .int .i64 1] w fun e w' => e = .returned (.slice (some ⟨b, 0, none⟩) n cap) ∧ w'.ownsRow L 3 1 (.slice (some ⟨b, 0, none⟩) n cap) n (kv .i64 l) ∧ But b w w' := by
 obtain ⟨i0, hi0, hz0, hz1, hz2⟩ := info_parts infoInt
 obtain ⟨hnc, hcm⟩ : n + 1 ≤ cap ∧ cap ≤ maxLen := by
  rcases hown.2 with hn | ⟨g, cap', cur, hv, hb, hg, hnc, hcm, hcs, ht⟩
  ·cases hn.1
  ·simp only [Value.slice.injEq, Option.some.injEq, Addr.mk.injEq, and_true, true_and] at hv
   obtain ⟨rfl, rfl⟩ := hv
   exact ⟨hnc, hcm⟩
 unfold maxLen at hcm
 have hlen : (kv .i64 (x :: l)).length = n + 1 := by have := hown.1; omega
 have hl : (kv .i64 l).length = n := by simp [kv] at hlen ⊢; omega
 have hc : ∀ j, j < n + 1 → w.cell? ⟨b, j, none⟩ = (kv .i64 (x :: l))[j]? := fun j hj => hown.cellAt j (by omega)
 have hf : ∀ j, w.frozen? ⟨b, j, none⟩ = false := fun j => hown.frozenAt j
 obtain ⟨A, hA, hnews⟩ : ∃ A : Addr, (if cap = 1 then some (⟨b, 0, none⟩ : Addr) else some ⟨b, 1, none⟩) = some A ∧ Hid (∀ j u, (kv .i64 l)[j]? = some u → w.drew.cell? (A.add j) = some u) := by
  by_cases h : cap = 1
  ·refine ⟨⟨b, 0, none⟩, by simp [h], fun j u hu => ?_⟩
   have h0 : (kv .i64 l).length = 0 := by omega
   rw [List.length_eq_zero_iff.1 h0] at hu
   simp at hu
  ·refine ⟨⟨b, 1, none⟩, by simp [h], fun j u hu => ?_⟩
   have hj : j < n := by
    have := (List.getElem?_eq_some_iff.1 hu).1
    omega
   rw [Addr.add_lit, show 1 + j = j + 1 by omega]
   exact (hc (j + 1) (by omega)).trans (by rw [← hu]; rfl)
 have s1 : Hid ((kv .i64 l).length = n * 1) := by show _ = _; omega
 have s2 : Hid (∀ u ∈ kv .i64 l, u.oneCell' = true) := by
  intro u hu
  obtain ⟨y, _, rfl⟩ := List.mem_map.1 hu
  rfl
 have s3 : Hid (∀ j, j < (kv .i64 l).length → (w.drew.cell? ⟨b, 0 + 0 * 1 + j, none⟩).isSome = true ∧ w.drew.frozen? ⟨b, 0 + 0 * 1 + j, none⟩ = false) := by
  intro j hj
  rw [show 0 + 0 * 1 + j = j by omega]
  refine ⟨?_, hf j⟩
  show (w.cell? _).isSome = true
  rw [hc j (by omega), List.getElem?_eq_getElem (show j < (kv .i64 (x :: l)).length by omega)]
  rfl
 obtain ⟨X, hX⟩ : ∃ X, X = kv .i64 l := ⟨_, rfl⟩
 have HOWN := Lib.hid hown
 rw [← hX] at hnews s1 s2 s3
 have HX := Lib.hid hX
 have HL := Lib.hid hl
 have hp1 : (1 : Int) ≤ (n : Int) + 1 := by omega
 have hp2 : (n : Int) ≤ (n : Int) + 1 := by omega
 have hp3 : ¬ cap = n := by omega
 clear hc hf hown hl hlen hX
 go_enter Tryz.func87, Tryz.ntmps87
 go_wp2_with fail
 go_region_law (refine step_append_room rfl (.tmp 22) (.tmp 25) 62 rfl 3 i0 1 Tryz.underlying62 hi0 hz1 b 0 0 cap (by simp [Act.eval, Act.put]) A n (cap - 1) X (by simp [Act.eval, Act.put]) s1.out hnews.out s2.out (by omega) s3.out ?_)
 obtain ⟨w2, hw2⟩ : ∃ z, z = w.drew.setCells b 0 X := ⟨_, rfl⟩
 have HO2 : Hid (w2.ownsRow L 3 1 (.slice (some ⟨b, 0, none⟩) (n + 1) cap) (n + 1) (overL (kv .i64 (x :: l)) 0 X)) := by
  rw [hw2]
  exact own_over X 0 _ _ (own_below HOWN.out (Below.refl _ _).drew)
 have HB2 : Hid (But b w w2) := by
  rw [hw2]
  exact (But.of (Below.refl _ _).drew (by have := (HOWN.out.lt b rfl).2; omega)).trans (But.setCells X 0 _)
 obtain ⟨yl, y1⟩ : ∃ y, w2.cell? ⟨b, n, none⟩ = some y := by
  have h1 := HO2.out.cellAt n (by omega)
  rw [List.getElem?_eq_getElem (show n < (overL (kv .i64 (x :: l)) 0 X).length by have := HO2.out.1; omega)] at h1
  exact ⟨_, h1⟩
 have f1 : w2.frozen? ⟨b, n, none⟩ = false := HO2.out.frozenAt n
 rw [← hw2]
 clear hw2 hA hnews s1 s2 s3
 have hy1 : ∀ j, j < 1 → (w2.cell? ⟨b, n + j, none⟩).isSome = true := fun j hj => by
  obtain rfl : j = 0 := by omega
  rw [Nat.add_zero, y1]
  rfl
 have hy2 : ∀ j, j < 1 → w2.frozen? ⟨b, n + j, none⟩ = false := fun j hj => by
  obtain rfl : j = 0 := by omega
  exact f1
 have hcl : (Builtin.clear_ #[62] 0 #[.slice (some ⟨b, n, none⟩) 1 (cap - n)]).run Tryz.prog w2 = .ok (.tuple #[]) (w2.setCell ⟨b, n, none⟩ (.int .i64 0)) :=
  Lib.run_clear_slice w2 62 3 0 (.int .i64 0) Tryz.underlying62 (fun w => by kernel_rfl) rfl rfl b n 1 (cap - n) (by omega) hy1 hy2
 clear hy1 hy2
 go_wp2
 go_ret
 have h3 := own_cut (HO2.out.stored n (.int .i64 0)).1
 have hx : ((overL (kv .i64 (x :: l)) 0 X).set n (.int .i64 0)).take n = kv .i64 l := by
  have hX := HX.out
  have hl := HL.out
  apply List.ext_getElem?
  intro j
  by_cases hj : j < n
  ·rw [List.getElem?_take, if_pos hj, List.getElem?_set_ne (by omega)]
   have := overL_at X (kv .i64 (x :: l)) 0 j (by rw [hX]; omega) (by have := HOWN.out.1; omega)
   rw [Nat.zero_add] at this
   rw [this, hX]
  ·rw [List.getElem?_take, if_neg hj, List.getElem?_eq_none (by omega)]
 rw [hx] at h3
 exact ⟨by first | rfl | (simp; done), h3, HB2.out.trans (But.set n _)⟩
end
end Go.Proofs.YtpcapdpglpgcbaaGreat
