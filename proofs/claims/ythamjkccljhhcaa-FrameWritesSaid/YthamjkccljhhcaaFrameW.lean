/-
  Frames as the program has them and as the document has them: one is a copy of the other. No statement is proved here.
-/
import Derived.Test.YthamjkccljhhcaaFrameT
import Derived.Test.YthamjkccljhhcaaBase3
import Derived.Deep.RegionHeld3
import Derived.Test.YthamjkccljhhcaaStore
namespace Go.Proofs.Ythamjkccljhhcaa
open Go.RowKit

/-- Two blocks laid, one behind the other, as one world with what is known of it. -/
theorem two_blocks (w : World) (cs1 cs2 : Array Value) (t1 t2 : TypeId) :
    ∃ W, W = (w.alloc (.cells cs1 t1)).alloc (.cells cs2 t2) ∧ W.heap.size = w.heap.size + 2 ∧ Below w.heap.size w W ∧ (∀ o v, cs1[o]? = some v → W.cell? ⟨w.heap.size, o, none⟩ = some v) ∧ W.heap[w.heap.size + 1]? = some (.cells cs2 t2) := by
  refine ⟨_, rfl, by simp, ((Below.refl _ _).alloc (Nat.le_refl _) _).alloc (by simp) _, ?_, ?_⟩
  · intro o v h
    rw [World.cell?_alloc_lt _ _ _ (by simp), World.cell?_alloc_new]
    exact h
  · have := heap_alloc_new (w.alloc (.cells cs1 t1)) (.cells cs2 t2)
    simpa using this
theorem cell_on {w W : World} {o : Obj} {b i base : Nat} {v : Value} (h : Below base (w.alloc o).drew W) (hb : b < base ∧ b < w.heap.size) (hc : w.cell? ⟨b, i, none⟩ = some v) : W.cell? ⟨b, i, none⟩ = some v :=
  (h.cell (p := ⟨b, i, none⟩) hb.1).trans ((World.cell?_alloc_lt w _ _ hb.2).trans hc)
theorem tgt_on {W : World} {g : Nat} {cs : Array Value} {t : TypeId} (h : W.heap[g]? = some (.cells cs t)) (i : Nat) (v : Value) (hv : cs[i]? = some v) : W.cell? ⟨g, i, none⟩ = some v := by
  simp [World.cell?, h, hv]
theorem tgt_free {W : World} {g : Nat} {cs : Array Value} {t : TypeId} (h : W.heap[g]? = some (.cells cs t)) (i : Nat) : W.frozen? ⟨g, i, none⟩ = false := by
  simp [World.frozen?, h]
/-- The same frame, with a load of its own. -/
def Copies (f : Fr) (k : Nat) (w : World) (e : Ending) (w' : World) : Prop :=
  ∃ A c, e = .returned (frV f (.slice A k c)) ∧ w'.ownsRow w.heap.size 5 1 (.slice A k c) k (bv f.load) ∧ Below w.heap.size w w'

theorem keep6 {w w' : World} {b : Nat} {v0 v1 v2 v3 v4 v5 : Value} (h : w.cell? ⟨b, 0, none⟩ = some v0 ∧ w.cell? ⟨b, 1, none⟩ = some v1 ∧ w.cell? ⟨b, 2, none⟩ = some v2 ∧ w.cell? ⟨b, 3, none⟩ = some v3 ∧ w.cell? ⟨b, 4, none⟩ = some v4 ∧ w.cell? ⟨b, 5, none⟩ = some v5) (hk : ∀ p : Addr, p.block = b → w'.cell? p = w.cell? p) :
    w'.cell? ⟨b, 0, none⟩ = some v0 ∧ w'.cell? ⟨b, 1, none⟩ = some v1 ∧ w'.cell? ⟨b, 2, none⟩ = some v2 ∧ w'.cell? ⟨b, 3, none⟩ = some v3 ∧ w'.cell? ⟨b, 4, none⟩ = some v4 ∧ w'.cell? ⟨b, 5, none⟩ = some v5 :=
  ⟨(hk _ rfl).trans h.1, (hk _ rfl).trans h.2.1, (hk _ rfl).trans h.2.2.1, (hk _ rfl).trans h.2.2.2.1, (hk _ rfl).trans h.2.2.2.2.1, (hk _ rfl).trans h.2.2.2.2.2⟩
theorem far6 {w : World} {b g : Nat} {u0 u1 u2 u3 u4 u5 : Value} {p : Addr} (hp : p.block = b) (hg : b ≠ g) :
    ((((((w.setCell ⟨g, 0, none⟩ u0).setCell ⟨g, 1, none⟩ u1).setCell ⟨g, 2, none⟩ u2).setCell ⟨g, 3, none⟩ u3).setCell ⟨g, 4, none⟩ u4).setCell ⟨g, 5, none⟩ u5).cell? p = w.cell? p := by
  have h : ∀ (W : World) (i : Nat) (u : Value), (W.setCell ⟨g, i, none⟩ u).cell? p = W.cell? p := fun W i u => World.cell?_setCell_other W _ _ _ (by intro e; rw [← e] at hp; exact hg hp.symm)
  rw [h, h, h, h, h, h]
theorem blank6 {W : World} {g : Nat} {t : TypeId} (h : W.heap[g]? = some (.cells #[.int .u64 0, .int .u64 0, .bool false, .int .u16 0, .int .u16 0, .slice none 0 0] t)) :
    W.cell? ⟨g, 0, none⟩ = some (.int .u64 0) ∧ W.cell? ⟨g, 1, none⟩ = some (.int .u64 0) ∧ W.cell? ⟨g, 2, none⟩ = some (.bool false) ∧ W.cell? ⟨g, 3, none⟩ = some (.int .u16 0) ∧ W.cell? ⟨g, 4, none⟩ = some (.int .u16 0) ∧ W.cell? ⟨g, 5, none⟩ = some (.slice none 0 0) ∧
    W.frozen? ⟨g, 0, none⟩ = false ∧ W.frozen? ⟨g, 1, none⟩ = false ∧ W.frozen? ⟨g, 2, none⟩ = false ∧ W.frozen? ⟨g, 3, none⟩ = false ∧ W.frozen? ⟨g, 4, none⟩ = false ∧ W.frozen? ⟨g, 5, none⟩ = false :=
  ⟨tgt_on h 0 _ rfl, tgt_on h 1 _ rfl, tgt_on h 2 _ rfl, tgt_on h 3 _ rfl, tgt_on h 4 _ rfl, tgt_on h 5 _ rfl, tgt_free h 0, tgt_free h 1, tgt_free h 2, tgt_free h 3, tgt_free h 4, tgt_free h 5⟩
theorem there_of {W : World} {g : Nat} {cs : Array Value} {t : TypeId} (h : W.heap[g]? = some (.cells cs t)) : W.there g 0 cs.size := by
  intro j hj
  rw [Nat.zero_add]
  refine ⟨?_, tgt_free h j⟩
  rw [tgt_on h j _ (Array.getElem?_eq_getElem hj)]
  rfl

set_option maxHeartbeats 1600000 in
theorem law_From {f : Fr} {k : Nat} (hk : f.load.length = k) (hk2 : k ≤ 140737488351232) {lv : Value} {w : World} {B : Nat} (hv : Sl w B 1 lv k (bv f.load)) (hB : B ≤ w.heap.size) :
    Calls Try.prog 19 #[frV f lv] w (Copies f k w) := by
  obtain ⟨d, s, t, c, y, l⟩ := f
  obtain ⟨A0, p0, hlv, _, _⟩ := hv.form
  subst hlv
  simp only at *
  unfold frV
  go_enter Try.func19, Try.ntmps19
  go_wp2_with fail
  obtain ⟨w0, hw0, hz0, hb0, hc0, ht0⟩ := two_blocks w #[.int .u64 (d : Nat), .int .u64 (s : Nat), .bool t, .int .u16 (c : Nat), .int .u16 (y : Nat), .slice A0 k p0] #[.int .u64 0, .int .u64 0, .bool false, .int .u16 0, .int .u16 0, .slice none 0 0] 27 32
  rw [← hw0]
  have r0 : w0.cell? ⟨w.heap.size, 0, none⟩ = some (.int .u64 (d : Nat)) := hc0 0 _ rfl
  have r1 : w0.cell? ⟨w.heap.size, 1, none⟩ = some (.int .u64 (s : Nat)) := hc0 1 _ rfl
  have r2 : w0.cell? ⟨w.heap.size, 2, none⟩ = some (.bool t) := hc0 2 _ rfl
  have r3 : w0.cell? ⟨w.heap.size, 3, none⟩ = some (.int .u16 (c : Nat)) := hc0 3 _ rfl
  have r4 : w0.cell? ⟨w.heap.size, 4, none⟩ = some (.int .u16 (y : Nat)) := hc0 4 _ rfl
  have r5 : w0.cell? ⟨w.heap.size, 5, none⟩ = some (.slice A0 k p0) := hc0 5 _ rfl
  have SV := Lib.hid (hv.below (hb0.mono hB))
  have HB0 := Lib.hid hb0
  clear hw0 hc0 hv hb0
  go_region_held3 (fun w' => w'.cell? ⟨w.heap.size, 0, none⟩ = some (.int .u64 (d : Nat)) ∧ w'.cell? ⟨w.heap.size, 1, none⟩ = some (.int .u64 (s : Nat)) ∧ w'.cell? ⟨w.heap.size, 2, none⟩ = some (.bool t) ∧ w'.cell? ⟨w.heap.size, 3, none⟩ = some (.int .u16 (c : Nat)) ∧ w'.cell? ⟨w.heap.size, 4, none⟩ = some (.int .u16 (y : Nat)) ∧ w'.cell? ⟨w.heap.size, 5, none⟩ = some (.slice A0 k p0))
    (first | (with_reducible exact ⟨r0, r1, r2, r3, r4, r5⟩) | (with_reducible exact keep6 (by assumption) (fun p hp => hb3.cell (by rw [hp]; omega))) | (with_reducible exact keep6 (by assumption) (fun p hp => World.cell?_alloc_lt _ _ _ (by rw [hp]; omega))) | (with_reducible exact keep6 (by assumption) (fun p hp => far6 hp (by omega))) | go_keep)
    ((refine step_app _ (by rfl) stBytes _ _ (by rfl) (w.heap.size + 2) _ 0 [] (by rfl) (by refine own_empty_at ?_ ?_ <;> first | omega | (simp; done) | (simp; omega)) B _ k (bv l) (by rfl) ((SV.out.alloc (by omega) _).drew) (bv_one _) (by omega) (by simp; omega) ?_; intro v3 w3 ho3 hg3 hat3 hb3; clear hg3 hat3; obtain ⟨A3, p3, hv3, _, _⟩ := (Sl.of_own ho3).form; subst hv3; have qb := (hb3.block (w.heap.size + 1) (by omega)).trans ((Below.heap_alloc w0 _ (w.heap.size + 1) (by omega)).trans ht0); obtain ⟨k0, k1, k2, k3, k4, k5, g0, g1, g2, g3, g4, g5⟩ := blank6 qb; have HQ := Lib.hid qb; have HO3 := Lib.hid ho3; clear qb ho3))
  all_goals
    have hB3 : Below w.heap.size w w3 := ((HB0.out.alloc (by omega) _).drew).trans (hb3.mono (by omega))
    have hown : w3.ownsRow (w.heap.size + 2) 5 1 (.slice A3 k p3) k (bv l) := by simpa using HO3.out
    have HB3 := Lib.hid hB3
    have HOWN := Lib.hid hown
    clear hB3 hown hb3 HO3 HQ SV HB0 r0 r1 r2 r3 r4 r5 ht0
    go_wp2
    refine bodyPost_ret (v := .agg #[.int .u64 (d : Nat), .int .u64 (s : Nat), .bool t, .int .u16 (c : Nat), .int .u16 (y : Nat), .slice A3 k p3]) (by simp [results, Try.results19, go_sem, k0, k1, k2, k3, k4, k5]) rfl ⟨A3, p3, rfl, ?_, ?_⟩
    · refine own_base (own_heap HOWN.out fun i hi => ?_) (by omega)
      have h : ∀ (W : World) (j : Nat) (u : Value), (W.setCell ⟨w.heap.size + 1, j, none⟩ u).heap[i]? = W.heap[i]? := fun W j u => heap_setCell_far W _ u (by show i ≠ w.heap.size + 1; omega)
      rw [h, h, h, h, h, h]
    · exact (((((HB3.out.setCell (by simp) _).setCell (by simp) _).setCell (by simp) _).setCell (by simp) _).setCell (by simp) _).setCell (by simp) _

set_option maxHeartbeats 1600000 in
theorem law_To {f : Fr} {k : Nat} (hk : f.load.length = k) (hk2 : k ≤ 140737488351232) {lv : Value} {w : World} {B : Nat} (hv : Sl w B 1 lv k (bv f.load)) (hB : B ≤ w.heap.size) :
    Calls Try.prog 22 #[frV f lv] w (Copies f k w) := by
  obtain ⟨d, s, t, c, y, l⟩ := f
  obtain ⟨A0, p0, hlv, _, _⟩ := hv.form
  subst hlv
  simp only at *
  unfold frV
  go_enter Try.func22, Try.ntmps22
  go_wp2_with fail
  obtain ⟨w0, hw0, hz0, hb0, hc0, ht0⟩ := two_blocks w #[.int .u64 (d : Nat), .int .u64 (s : Nat), .bool t, .int .u16 (c : Nat), .int .u16 (y : Nat), .slice A0 k p0] #[.int .u64 0, .int .u64 0, .bool false, .int .u16 0, .int .u16 0, .slice none 0 0] 32 27
  rw [← hw0]
  have r0 : w0.cell? ⟨w.heap.size, 0, none⟩ = some (.int .u64 (d : Nat)) := hc0 0 _ rfl
  have r1 : w0.cell? ⟨w.heap.size, 1, none⟩ = some (.int .u64 (s : Nat)) := hc0 1 _ rfl
  have r2 : w0.cell? ⟨w.heap.size, 2, none⟩ = some (.bool t) := hc0 2 _ rfl
  have r3 : w0.cell? ⟨w.heap.size, 3, none⟩ = some (.int .u16 (c : Nat)) := hc0 3 _ rfl
  have r4 : w0.cell? ⟨w.heap.size, 4, none⟩ = some (.int .u16 (y : Nat)) := hc0 4 _ rfl
  have r5 : w0.cell? ⟨w.heap.size, 5, none⟩ = some (.slice A0 k p0) := hc0 5 _ rfl
  have SV := Lib.hid (hv.below (hb0.mono hB))
  have HB0 := Lib.hid hb0
  clear hw0 hc0 hv hb0
  go_region_held3 (fun w' => w'.cell? ⟨w.heap.size, 0, none⟩ = some (.int .u64 (d : Nat)) ∧ w'.cell? ⟨w.heap.size, 1, none⟩ = some (.int .u64 (s : Nat)) ∧ w'.cell? ⟨w.heap.size, 2, none⟩ = some (.bool t) ∧ w'.cell? ⟨w.heap.size, 3, none⟩ = some (.int .u16 (c : Nat)) ∧ w'.cell? ⟨w.heap.size, 4, none⟩ = some (.int .u16 (y : Nat)) ∧ w'.cell? ⟨w.heap.size, 5, none⟩ = some (.slice A0 k p0))
    (first | (with_reducible exact ⟨r0, r1, r2, r3, r4, r5⟩) | (with_reducible exact keep6 (by assumption) (fun p hp => hb3.cell (by rw [hp]; omega))) | (with_reducible exact keep6 (by assumption) (fun p hp => World.cell?_alloc_lt _ _ _ (by rw [hp]; omega))) | (with_reducible exact keep6 (by assumption) (fun p hp => far6 hp (by omega))) | go_keep)
    ((refine step_app _ (by rfl) stBytes _ _ (by rfl) (w.heap.size + 2) _ 0 [] (by rfl) (by refine own_empty_at ?_ ?_ <;> first | omega | (simp; done) | (simp; omega)) B _ k (bv l) (by rfl) ((SV.out.alloc (by omega) _).drew) (bv_one _) (by omega) (by simp; omega) ?_; intro v3 w3 ho3 hg3 hat3 hb3; clear hg3 hat3; obtain ⟨A3, p3, hv3, _, _⟩ := (Sl.of_own ho3).form; subst hv3; have qb := (hb3.block (w.heap.size + 1) (by omega)).trans ((Below.heap_alloc w0 _ (w.heap.size + 1) (by omega)).trans ht0); obtain ⟨k0, k1, k2, k3, k4, k5, g0, g1, g2, g3, g4, g5⟩ := blank6 qb; have HQ := Lib.hid qb; have HO3 := Lib.hid ho3; clear qb ho3))
  all_goals
    have hB3 : Below w.heap.size w w3 := ((HB0.out.alloc (by omega) _).drew).trans (hb3.mono (by omega))
    have hown : w3.ownsRow (w.heap.size + 2) 5 1 (.slice A3 k p3) k (bv l) := by simpa using HO3.out
    have HB3 := Lib.hid hB3
    have HOWN := Lib.hid hown
    clear hB3 hown hb3 HO3 HQ SV HB0 r0 r1 r2 r3 r4 r5 ht0
    go_wp2
    refine bodyPost_ret (v := .agg #[.int .u64 (d : Nat), .int .u64 (s : Nat), .bool t, .int .u16 (c : Nat), .int .u16 (y : Nat), .slice A3 k p3]) (by simp [results, Try.results22, go_sem, k0, k1, k2, k3, k4, k5]) rfl ⟨A3, p3, rfl, ?_, ?_⟩
    · refine own_base (own_heap HOWN.out fun i hi => ?_) (by omega)
      have h : ∀ (W : World) (j : Nat) (u : Value), (W.setCell ⟨w.heap.size + 1, j, none⟩ u).heap[i]? = W.heap[i]? := fun W j u => heap_setCell_far W _ u (by show i ≠ w.heap.size + 1; omega)
      rw [h, h, h, h, h, h]
    · exact (((((HB3.out.setCell (by simp) _).setCell (by simp) _).setCell (by simp) _).setCell (by simp) _).setCell (by simp) _).setCell (by simp) _
end Go.Proofs.Ythamjkccljhhcaa
