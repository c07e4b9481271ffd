/-
  One puts, one takes: a ring, its acts, and three rows that grow, in memory. No statement is proved here.
-/
import Derived.Test.YtjbdmifcdgllcaaPlainTs
import Derived.Test.YtjbdmifcdgllcaaLnE
set_option linter.unusedVariables false
namespace Go.Proofs.Ytjbdmifcdgllcaa
open Go.RowKit

theorem stActs : ST Try.prog 50 36 (.pointer none) 1 8 := ST.mk Try.underlying50 (by kernel_rfl) rfl (by omega) (by omega)
def kvf (f : Nat → Int) (n : Nat) : List Value := (List.range n).map fun i => Value.int .i64 (f i)
theorem kvf_length (f : Nat → Int) (n : Nat) : (kvf f n).length = n := by simp [kvf]
theorem kvf_at (f : Nat → Int) {n i : Nat} (h : i < n) : (kvf f n)[i]? = some (.int .i64 (f i)) := by simp [kvf, List.getElem?_range h]
theorem kvf_succ (f : Nat → Int) (n : Nat) (x : Int) : kvf (upd f n x) (n + 1) = kvf f n ++ [.int .i64 x] := by
  unfold kvf
  rw [List.range_succ, List.map_append]
  congr 1
  · exact List.map_congr_left fun i hi => by rw [upd_other _ (by have := List.mem_range.1 hi; omega)]
  · simp
theorem cell_setSame {w : World} {b o : Nat} {v : Value} (h : w.cell? ⟨b, o, none⟩ = some v) (u : Value) : (w.setCell ⟨b, o, none⟩ u).cell? ⟨b, o, none⟩ = some u := by simp [h, go_sem]
theorem cell_setOther {w : World} {b o o' : Nat} {v : Value} (hne : o ≠ o') (h : w.cell? ⟨b, o', none⟩ = some v) (u : Value) : (w.setCell ⟨b, o, none⟩ u).cell? ⟨b, o', none⟩ = some v := by simp [h, go_sem]
structure TurnS (W wr : World) (lo b rb st nw N na np nf : Nat) (ab : Nat → Nat) (ac : Nat → AcS) (pt fr : Nat → Int) (va vp vf : Value) (g : RgS) (stf nwf : Nat → Int) : Prop where
  ring : RingAt wr lo b rb g
  act : ∀ i, i < N → ActAt wr rb (ab i) (ac i)
  oa : wr.ownsRow (nw + 1) 36 1 va na (ptv (rp ab) na)
  op : wr.ownsRow (nw + 1) 3 1 vp np (kvf pt np)
  of_ : wr.ownsRow (nw + 1) 3 1 vf nf (kvf fr nf)
  sc : ∀ z, z < 2 → wr.cell? ⟨st, z, none⟩ = some (.int .i64 (stf z))
  nc : ∀ z, z < 2 → wr.cell? ⟨nw, z, none⟩ = some (.int .i64 (nwf z))
  sfz : ∀ z, wr.frozen? ⟨st, z, none⟩ = false
  nfz : ∀ z, wr.frozen? ⟨nw, z, none⟩ = false
  ord : lo + 3 ≤ rb ∧ rb < st ∧ st < nw ∧ nw < wr.heap.size
  anw : ∀ i, i < N → nw < ab i
  ne : ∀ i, i < N → va.ownBlock ≠ some (ab i) ∧ vp.ownBlock ≠ some (ab i) ∧ vf.ownBlock ≠ some (ab i)
  inj : ∀ i j, i < N → j < N → ab i = ab j → i = j
  dis : ∀ k, (va.ownBlock = some k → vp.ownBlock ≠ some k ∧ vf.ownBlock ≠ some k) ∧ (vp.ownBlock = some k → vf.ownBlock ≠ some k)
  le : na ≤ N ∧ np ≤ N ∧ nf ≤ N
  bel : Below W.heap.size W wr
  lo0 : W.heap.size ≤ lo
section
variable {W wr : World} {lo b rb st nw N na np nf : Nat} {ab : Nat → Nat} {ac : Nat → AcS} {pt fr : Nat → Int} {va vp vf : Value} {g : RgS} {stf nwf : Nat → Int}
/-- The ring, and the act in block ak, went on; or one was begun. -/
theorem TurnS.go (h : TurnS W wr lo b rb st nw N na np nf ab ac pt fr va vp vf g stf nwf) {w' : World} {D : Nat → Prop} {ak : Nat} {g' : RgS} {ac' : Nat → AcS} (ht : Tch D wr w') (hak : nw < ak) (hD : ∀ x, x < wr.heap.size → D x → RingD lo rb ak x)
    (hown : va.ownBlock ≠ some ak ∧ vp.ownBlock ≠ some ak ∧ vf.ownBlock ≠ some ak) (hr : RingAt w' lo b rb g') (ha : ∀ i, i < N → (ab i = ak ∧ ActAt w' rb (ab i) (ac' i)) ∨ (ab i ≠ ak ∧ ac' i = ac i)) :
    TurnS W w' lo b rb st nw N na np nf ab ac' pt fr va vp vf g' stf nwf := by
  have hT := ht.mono (E := RingD lo rb ak) hD
  obtain ⟨o1, o2, o3, o4⟩ := h.ord
  have hs := ht.size
  have hv : ∀ v : Value, (∀ k, v.ownBlock = some k → nw + 1 ≤ k) → v.ownBlock ≠ some ak → ∀ k, v.ownBlock = some k → ¬ RingD lo rb ak k := fun v h1 h2 k hk hd => by
    have := h1 k hk
    rcases hd with hd | hd | hd
    · omega
    · omega
    · exact h2 (hd ▸ hk)
  have c1 : ∀ z, w'.cell? ⟨st, z, none⟩ = wr.cell? ⟨st, z, none⟩ := fun z => hT.cell (p := ⟨st, z, none⟩) (by show st < _; omega) (by show ¬ RingD lo rb ak st; unfold RingD; omega)
  have c2 : ∀ z, w'.cell? ⟨nw, z, none⟩ = wr.cell? ⟨nw, z, none⟩ := fun z => hT.cell (p := ⟨nw, z, none⟩) (by show nw < _; omega) (by show ¬ RingD lo rb ak nw; unfold RingD; omega)
  have f1 : ∀ z, w'.frozen? ⟨st, z, none⟩ = wr.frozen? ⟨st, z, none⟩ := fun z => World.frozen?_of_block (hT.block st (by omega) (by unfold RingD; omega))
  have f2 : ∀ z, w'.frozen? ⟨nw, z, none⟩ = wr.frozen? ⟨nw, z, none⟩ := fun z => World.frozen?_of_block (hT.block nw (by omega) (by unfold RingD; omega))
  refine ⟨hr, fun i hi => ?_, own_tch h.oa hT (hv va (fun k hk => (h.oa.lt k hk).1) hown.1), own_tch h.op hT (hv vp (fun k hk => (h.op.lt k hk).1) hown.2.1), own_tch h.of_ hT (hv vf (fun k hk => (h.of_.lt k hk).1) hown.2.2), fun z hz => (c1 z).trans (h.sc z hz), fun z hz => (c2 z).trans (h.nc z hz), fun z => (f1 z).trans (h.sfz z), fun z => (f2 z).trans (h.nfz z), ⟨o1, o2, o3, by omega⟩, h.anw, h.ne, h.inj, h.dis, h.le, hT.below h.bel (fun x hx => ?_) h.bel.size, h.lo0⟩
  · rcases ha i hi with ⟨_, e⟩ | ⟨e1, e2⟩
    · exact e
    · rw [e2]
      have hn := h.anw i hi
      exact (h.act i hi).tch hT (by unfold RingD; omega)
  · have := h.lo0
    unfold RingD at hx
    omega
/-- An act begins: it lies in block ak, behind all. -/
theorem TurnS.more (h : TurnS W wr lo b rb st nw N na np nf ab ac pt fr va vp vf g stf nwf) {ak : Nat} {a : AcS} (ha : ActAt wr rb ak a) (hn : nw < ak) (hne : ∀ i, i < N → ab i ≠ ak) (hown : va.ownBlock ≠ some ak ∧ vp.ownBlock ≠ some ak ∧ vf.ownBlock ≠ some ak) :
    TurnS W wr lo b rb st nw (N + 1) na np nf (upd ab N ak) (upd ac N a) pt fr va vp vf g stf nwf := by
  refine ⟨h.ring, fun i hi => ?_, ?_, h.op, h.of_, h.sc, h.nc, h.sfz, h.nfz, h.ord, fun i hi => ?_, fun i hi => ?_, fun i j hi hj e => ?_, h.dis, ⟨by have := h.le; omega, by have := h.le; omega, by have := h.le; omega⟩, h.bel, h.lo0⟩
  · by_cases e : i = N
    · subst e; rw [upd_same, upd_same]; exact ha
    · rw [upd_other _ e, upd_other _ e]; exact h.act i (by omega)
  · rw [ptv_congr (g := rp ab) (fun i hi => by unfold rp; rw [upd_other _ (by have := h.le; omega)])]
    exact h.oa
  · by_cases e : i = N
    · subst e; rw [upd_same]; exact hn
    · rw [upd_other _ e]; exact h.anw i (by omega)
  · by_cases e : i = N
    · subst e; rw [upd_same]; exact hown
    · rw [upd_other _ e]; exact h.ne i (by omega)
  · by_cases e1 : i = N <;> by_cases e2 : j = N
    · omega
    · rw [e1, upd_same, upd_other _ e2] at e; exact absurd e.symm (hne j (by omega))
    · rw [e2, upd_same, upd_other _ e1] at e; exact absurd e (hne i (by omega))
    · rw [upd_other _ e1, upd_other _ e2] at e; exact h.inj i j (by omega) (by omega) e
theorem TurnS.set_st (h : TurnS W wr lo b rb st nw N na np nf ab ac pt fr va vp vf g stf nwf) {z : Nat} (hz : z < 2) (x : Int) :
    TurnS W (wr.setCell ⟨st, z, none⟩ (.int .i64 x)) lo b rb st nw N na np nf ab ac pt fr va vp vf g (upd stf z x) nwf := by
  obtain ⟨o1, o2, o3, o4⟩ := h.ord
  have hT := (Tch.refl (fun y => y = st) wr).setCell (p := ⟨st, z, none⟩) rfl (.int .i64 x)
  have hs := hT.size
  have fz : ∀ y, (wr.setCell ⟨st, z, none⟩ (.int .i64 x)).frozen? y = wr.frozen? y := fun y => World.frozen?_setCell _ _ _ _
  refine ⟨h.ring.tch hT (fun y h1 h2 h3 => by omega) (by omega), fun i hi => (h.act i hi).tch hT (by have := h.anw i hi; omega), own_tch h.oa hT (fun y hy => by have := (h.oa.lt y hy).1; omega), own_tch h.op hT (fun y hy => by have := (h.op.lt y hy).1; omega), own_tch h.of_ hT (fun y hy => by have := (h.of_.lt y hy).1; omega), fun y hy => ?_, fun y hy => ?_, fun y => (fz _).trans (h.sfz y), fun y => (fz _).trans (h.nfz y), ⟨o1, o2, o3, by omega⟩, h.anw, h.ne, h.inj, h.dis, h.le, h.bel.setCell (by have := h.lo0; show _ ≤ st; omega) _, h.lo0⟩
  · by_cases e : y = z
    · subst e
      rw [upd_same]
      exact cell_setSame (h.sc y hy) _
    · rw [upd_other _ e]
      exact cell_setOther (fun e' => e e'.symm) (h.sc y hy) _
  · exact (hT.cell (p := ⟨nw, y, none⟩) (by show nw < _; omega) (by show ¬ nw = st; omega)).trans (h.nc y hy)
theorem TurnS.set_nw (h : TurnS W wr lo b rb st nw N na np nf ab ac pt fr va vp vf g stf nwf) {z : Nat} (hz : z < 2) (x : Int) :
    TurnS W (wr.setCell ⟨nw, z, none⟩ (.int .i64 x)) lo b rb st nw N na np nf ab ac pt fr va vp vf g stf (upd nwf z x) := by
  obtain ⟨o1, o2, o3, o4⟩ := h.ord
  have hT := (Tch.refl (fun y => y = nw) wr).setCell (p := ⟨nw, z, none⟩) rfl (.int .i64 x)
  have hs := hT.size
  have fz : ∀ y, (wr.setCell ⟨nw, z, none⟩ (.int .i64 x)).frozen? y = wr.frozen? y := fun y => World.frozen?_setCell _ _ _ _
  refine ⟨h.ring.tch hT (fun y h1 h2 h3 => by omega) (by omega), fun i hi => (h.act i hi).tch hT (by have := h.anw i hi; omega), own_tch h.oa hT (fun y hy => by have := (h.oa.lt y hy).1; omega), own_tch h.op hT (fun y hy => by have := (h.op.lt y hy).1; omega), own_tch h.of_ hT (fun y hy => by have := (h.of_.lt y hy).1; omega), fun y hy => ?_, fun y hy => ?_, fun y => (fz _).trans (h.sfz y), fun y => (fz _).trans (h.nfz y), ⟨o1, o2, o3, by omega⟩, h.anw, h.ne, h.inj, h.dis, h.le, h.bel.setCell (by have := h.lo0; show _ ≤ nw; omega) _, h.lo0⟩
  · exact (hT.cell (p := ⟨st, y, none⟩) (by show st < _; omega) (by show ¬ st = nw; omega)).trans (h.sc y hy)
  · by_cases e : y = z
    · subst e
      rw [upd_same]
      exact cell_setSame (h.nc y hy) _
    · rw [upd_other _ e]
      exact cell_setOther (fun e' => e e'.symm) (h.nc y hy) _
/-- A row grows: va. -/
theorem TurnS.app_a (h : TurnS W wr lo b rb st nw N na np nf ab ac pt fr va vp vf g stf nwf) (hn : na + 1 ≤ N) {o : Obj} {w' : World} {v' : Value} (how : w'.ownsRow (nw + 1) 36 1 v' (na + 1) (ptv (rp ab) na ++ [.pointer (some ⟨ab na, 0, none⟩)])) (hg : (wr.alloc o).grownBy w' va.ownBlock) (hl : v'.ownBlock = va.ownBlock ∨ v'.ownBlock = some (wr.alloc o).heap.size) :
    TurnS W w' lo b rb st nw N (na + 1) np nf ab ac pt fr v' vp vf g stf nwf := by
  obtain ⟨o1, o2, o3, o4⟩ := h.ord
  have hvb : ∀ j, va.ownBlock = some j → nw + 1 ≤ j ∧ j < wr.heap.size := h.oa.lt
  have hT : Tch (fun y => va.ownBlock = some y) wr w' := (Tch.of_below ((Below.refl _ _).alloc (Nat.le_refl _) o)).trans ((Tch.grown hg fun j hj => hj).mono fun y _ hy => hy)
  have hs := hT.size
  have hlow : ∀ y, y ≤ nw → ¬ va.ownBlock = some y := fun y hy e => by have := (hvb y e).1; omega
  have hkey : ∀ y, y < wr.heap.size → va.ownBlock ≠ some y → v'.ownBlock ≠ some y := fun y h1 h2 e => by
    rcases hl with hl | hl
    · exact h2 (hl ▸ e)
    · rw [hl] at e
      simp at e
      omega
  have hal : ∀ i, i < N → ab i < wr.heap.size := fun i hi => (h.act i hi).lt
  refine ⟨h.ring.tch hT (fun y h1 h2 => hlow y (by omega)) (hlow rb (by omega)), fun i hi => (h.act i hi).tch hT (h.ne i hi).1, by rw [ptv_succ]; exact how, own_tch h.op hT (fun k e e2 => ((h.dis k).1 e2).1 e), own_tch h.of_ hT (fun k e e2 => ((h.dis k).1 e2).2 e), fun y hy => (hT.cell (p := ⟨st, y, none⟩) (by show st < _; omega) (hlow st (by omega))).trans (h.sc y hy), fun y hy => (hT.cell (p := ⟨nw, y, none⟩) (by show nw < _; omega) (hlow nw (by omega))).trans (h.nc y hy), fun y => (World.frozen?_of_block (hT.block st (by omega) (hlow st (by omega)))).trans (h.sfz y), fun y => (World.frozen?_of_block (hT.block nw (by omega) (hlow nw (by omega)))).trans (h.nfz y), ⟨o1, o2, o3, by omega⟩, h.anw, fun i hi => ⟨hkey _ (hal i hi) (h.ne i hi).1, (h.ne i hi).2.1, (h.ne i hi).2.2⟩, h.inj, fun k => ?_, by have := h.le; omega, hT.below h.bel (fun y hy => by have := (hvb y hy).1; have := h.lo0; omega) h.bel.size, h.lo0⟩
  refine ⟨fun e => ⟨fun e2 => ?_, fun e2 => ?_⟩, fun e => (h.dis k).2 e⟩
  · exact hkey k (h.op.lt k e2).2 (fun e3 => ((h.dis k).1 e3).1 e2) e
  · exact hkey k (h.of_.lt k e2).2 (fun e3 => ((h.dis k).1 e3).2 e2) e
/-- A row grows: vp. -/
theorem TurnS.app_p (h : TurnS W wr lo b rb st nw N na np nf ab ac pt fr va vp vf g stf nwf) (hn : np + 1 ≤ N) (x : Int) {o : Obj} {w' : World} {v' : Value} (how : w'.ownsRow (nw + 1) 3 1 v' (np + 1) (kvf pt np ++ [.int .i64 x])) (hg : (wr.alloc o).grownBy w' vp.ownBlock) (hl : v'.ownBlock = vp.ownBlock ∨ v'.ownBlock = some (wr.alloc o).heap.size) :
    TurnS W w' lo b rb st nw N na (np + 1) nf ab ac (upd pt np x) fr va v' vf g stf nwf := by
  obtain ⟨o1, o2, o3, o4⟩ := h.ord
  have hvb : ∀ j, vp.ownBlock = some j → nw + 1 ≤ j ∧ j < wr.heap.size := h.op.lt
  have hT : Tch (fun y => vp.ownBlock = some y) wr w' := (Tch.of_below ((Below.refl _ _).alloc (Nat.le_refl _) o)).trans ((Tch.grown hg fun j hj => hj).mono fun y _ hy => hy)
  have hs := hT.size
  have hlow : ∀ y, y ≤ nw → ¬ vp.ownBlock = some y := fun y hy e => by have := (hvb y e).1; omega
  have hkey : ∀ y, y < wr.heap.size → vp.ownBlock ≠ some y → v'.ownBlock ≠ some y := fun y h1 h2 e => by
    rcases hl with hl | hl
    · exact h2 (hl ▸ e)
    · rw [hl] at e
      simp at e
      omega
  have hal : ∀ i, i < N → ab i < wr.heap.size := fun i hi => (h.act i hi).lt
  refine ⟨h.ring.tch hT (fun y h1 h2 => hlow y (by omega)) (hlow rb (by omega)), fun i hi => (h.act i hi).tch hT (h.ne i hi).2.1, own_tch h.oa hT (fun k e => ((h.dis k).1 e).1), by rw [kvf_succ]; exact how, own_tch h.of_ hT (fun k e e2 => (h.dis k).2 e2 e), fun y hy => (hT.cell (p := ⟨st, y, none⟩) (by show st < _; omega) (hlow st (by omega))).trans (h.sc y hy), fun y hy => (hT.cell (p := ⟨nw, y, none⟩) (by show nw < _; omega) (hlow nw (by omega))).trans (h.nc y hy), fun y => (World.frozen?_of_block (hT.block st (by omega) (hlow st (by omega)))).trans (h.sfz y), fun y => (World.frozen?_of_block (hT.block nw (by omega) (hlow nw (by omega)))).trans (h.nfz y), ⟨o1, o2, o3, by omega⟩, h.anw, fun i hi => ⟨(h.ne i hi).1, hkey _ (hal i hi) (h.ne i hi).2.1, (h.ne i hi).2.2⟩, h.inj, fun k => ?_, by have := h.le; omega, hT.below h.bel (fun y hy => by have := (hvb y hy).1; have := h.lo0; omega) h.bel.size, h.lo0⟩
  refine ⟨fun e => ⟨fun e2 => ?_, ((h.dis k).1 e).2⟩, fun e e2 => ?_⟩
  · exact hkey k (h.oa.lt k e).2 (fun e3 => ((h.dis k).1 e).1 e3) e2
  · exact hkey k (h.of_.lt k e2).2 (fun e3 => (h.dis k).2 e3 e2) e
/-- A row grows: vf. -/
theorem TurnS.app_f (h : TurnS W wr lo b rb st nw N na np nf ab ac pt fr va vp vf g stf nwf) (hn : nf + 1 ≤ N) (x : Int) {o : Obj} {w' : World} {v' : Value} (how : w'.ownsRow (nw + 1) 3 1 v' (nf + 1) (kvf fr nf ++ [.int .i64 x])) (hg : (wr.alloc o).grownBy w' vf.ownBlock) (hl : v'.ownBlock = vf.ownBlock ∨ v'.ownBlock = some (wr.alloc o).heap.size) :
    TurnS W w' lo b rb st nw N na np (nf + 1) ab ac pt (upd fr nf x) va vp v' g stf nwf := by
  obtain ⟨o1, o2, o3, o4⟩ := h.ord
  have hvb : ∀ j, vf.ownBlock = some j → nw + 1 ≤ j ∧ j < wr.heap.size := h.of_.lt
  have hT : Tch (fun y => vf.ownBlock = some y) wr w' := (Tch.of_below ((Below.refl _ _).alloc (Nat.le_refl _) o)).trans ((Tch.grown hg fun j hj => hj).mono fun y _ hy => hy)
  have hs := hT.size
  have hlow : ∀ y, y ≤ nw → ¬ vf.ownBlock = some y := fun y hy e => by have := (hvb y e).1; omega
  have hkey : ∀ y, y < wr.heap.size → vf.ownBlock ≠ some y → v'.ownBlock ≠ some y := fun y h1 h2 e => by
    rcases hl with hl | hl
    · exact h2 (hl ▸ e)
    · rw [hl] at e
      simp at e
      omega
  have hal : ∀ i, i < N → ab i < wr.heap.size := fun i hi => (h.act i hi).lt
  refine ⟨h.ring.tch hT (fun y h1 h2 => hlow y (by omega)) (hlow rb (by omega)), fun i hi => (h.act i hi).tch hT (h.ne i hi).2.2, own_tch h.oa hT (fun k e => ((h.dis k).1 e).2), own_tch h.op hT (fun k e => (h.dis k).2 e), by rw [kvf_succ]; exact how, fun y hy => (hT.cell (p := ⟨st, y, none⟩) (by show st < _; omega) (hlow st (by omega))).trans (h.sc y hy), fun y hy => (hT.cell (p := ⟨nw, y, none⟩) (by show nw < _; omega) (hlow nw (by omega))).trans (h.nc y hy), fun y => (World.frozen?_of_block (hT.block st (by omega) (hlow st (by omega)))).trans (h.sfz y), fun y => (World.frozen?_of_block (hT.block nw (by omega) (hlow nw (by omega)))).trans (h.nfz y), ⟨o1, o2, o3, by omega⟩, h.anw, fun i hi => ⟨(h.ne i hi).1, (h.ne i hi).2.1, hkey _ (hal i hi) (h.ne i hi).2.2⟩, h.inj, fun k => ?_, by have := h.le; omega, hT.below h.bel (fun y hy => by have := (hvb y hy).1; have := h.lo0; omega) h.bel.size, h.lo0⟩
  refine ⟨fun e => ⟨((h.dis k).1 e).1, fun e2 => ?_⟩, fun e e2 => ?_⟩
  · exact hkey k (h.oa.lt k e).2 (fun e3 => ((h.dis k).1 e).2 e3) e2
  · exact hkey k (h.op.lt k e).2 (fun e3 => (h.dis k).2 e e3) e2
end
end Go.Proofs.Ytjbdmifcdgllcaa
