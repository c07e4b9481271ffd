/-
  Entries handed over, and fixed; what layers 8 and 9 tell first of all. No statement is proved here.
-/
import Derived.Test.YtnhooknpknkjkaaSlotB
import Derived.Test.YtnhooknpknkjkaaKeyC
import Derived.Test.YtnhooknpknkjkaaKeyD
import Derived.Deep.RegionHeld3
set_option linter.unusedVariables false
namespace Go.Proofs.Ytnhooknpknkjkaa
open Go.RowKit

theorem two_blocks' (w : World) (cs1 cs2 : Array Value) (t1 t2 : TypeId) :
    ∃ W, W = (w.alloc (.cells cs1 t1)).alloc (.cells cs2 t2) ∧ W.heap.size = w.heap.size + 2 ∧ Below w.heap.size w W ∧ (∀ o v, cs1[o]? = some v → W.cell? ⟨w.heap.size, o, none⟩ = some v) ∧ W.heap[w.heap.size + 1]? = some (.cells cs2 t2) := by
  refine ⟨_, rfl, by simp, ((Below.refl _ _).alloc (Nat.le_refl _) _).alloc (by simp) _, ?_, ?_⟩
  · intro o v h
    rw [World.cell?_alloc_lt _ _ _ (by simp), World.cell?_alloc_new]
    exact h
  · have := heap_alloc_new (w.alloc (.cells cs1 t1)) (.cells cs2 t2)
    simpa using this
theorem tgt_on' {W : World} {g : Nat} {cs : Array Value} {t : TypeId} (h : W.heap[g]? = some (.cells cs t)) (i : Nat) (v : Value) (hv : cs[i]? = some v) : W.cell? ⟨g, i, none⟩ = some v := by
  simp [World.cell?, h, hv]
theorem tgt_free' {W : World} {g : Nat} {cs : Array Value} {t : TypeId} (h : W.heap[g]? = some (.cells cs t)) (i : Nat) : W.frozen? ⟨g, i, none⟩ = false := by
  simp [World.frozen?, h]
theorem blank5 {W : World} {g : Nat} {t : TypeId} (h : W.heap[g]? = some (.cells #[.int .i64 0, .int .u64 0, .int .i64 0, .bool false, .int .u32 0] t)) :
    W.cell? ⟨g, 0, none⟩ = some (.int .i64 0) ∧ W.cell? ⟨g, 1, none⟩ = some (.int .u64 0) ∧ W.cell? ⟨g, 2, none⟩ = some (.int .i64 0) ∧ W.cell? ⟨g, 3, none⟩ = some (.bool false) ∧ W.cell? ⟨g, 4, none⟩ = some (.int .u32 0) ∧
    W.frozen? ⟨g, 0, none⟩ = false ∧ W.frozen? ⟨g, 1, none⟩ = false ∧ W.frozen? ⟨g, 2, none⟩ = false ∧ W.frozen? ⟨g, 3, none⟩ = false ∧ W.frozen? ⟨g, 4, none⟩ = false :=
  ⟨tgt_on' h 0 _ rfl, tgt_on' h 1 _ rfl, tgt_on' h 2 _ rfl, tgt_on' h 3 _ rfl, tgt_on' h 4 _ rfl, tgt_free' h 0, tgt_free' h 1, tgt_free' h 2, tgt_free' h 3, tgt_free' h 4⟩
theorem far5 {w : World} {b g : Nat} {u0 u1 u2 u3 u4 : Value} {p : Addr} (hp : p.block = b) (hg : b ≠ g) :
    (((((w.setCell ⟨g, 0, none⟩ u0).setCell ⟨g, 1, none⟩ u1).setCell ⟨g, 2, none⟩ u2).setCell ⟨g, 3, none⟩ u3).setCell ⟨g, 4, none⟩ u4).cell? p = w.cell? p := by
  have h : ∀ (W : World) (i : Nat) (u : Value), (W.setCell ⟨g, i, none⟩ u).cell? p = W.cell? p := fun W i u => World.cell?_setCell_other W _ _ _ (by intro e; rw [← e] at hp; exact hg hp.symm)
  rw [h, h, h, h, h]

set_option maxHeartbeats 1600000 in
theorem law9_To (v m p : Int) (st : Bool) (s : Int) (w : World) :
    Calls Try.prog 31 #[.agg #[.int .i64 v, .int .u64 m, .int .i64 p, .bool st, .int .u32 s]] w (Says (.agg #[.int .i64 v, .int .u64 m, .int .i64 p, .bool st, .int .u32 s]) w) := by
  have HT := Lib.hid fun W => law8_To v m W
  go_enter Try.func31, Try.ntmps31
  go_wp2_with fail
  obtain ⟨w0, hw0, hz0, hb0, hc0, ht0⟩ := two_blocks' w #[.int .i64 v, .int .u64 m, .int .i64 p, .bool st, .int .u32 s] #[.int .i64 0, .int .u64 0, .int .i64 0, .bool false, .int .u32 0] 72 65
  rw [← hw0]
  have r0 : w0.cell? ⟨w.heap.size, 0, none⟩ = some (.int .i64 v) := hc0 0 _ rfl
  have r1 : w0.cell? ⟨w.heap.size, 1, none⟩ = some (.int .u64 m) := hc0 1 _ rfl
  have r2 : w0.cell? ⟨w.heap.size, 2, none⟩ = some (.int .i64 p) := hc0 2 _ rfl
  have r3 : w0.cell? ⟨w.heap.size, 3, none⟩ = some (.bool st) := hc0 3 _ rfl
  have r4 : w0.cell? ⟨w.heap.size, 4, none⟩ = some (.int .u32 s) := hc0 4 _ rfl
  have HB0 := Lib.hid hb0
  clear hw0 hc0 hb0
  go_region_held3 (fun w' => w'.cell? ⟨w.heap.size, 0, none⟩ = some (.int .i64 v) ∧ w'.cell? ⟨w.heap.size, 1, none⟩ = some (.int .u64 m) ∧ w'.cell? ⟨w.heap.size, 2, none⟩ = some (.int .i64 p) ∧ w'.cell? ⟨w.heap.size, 3, none⟩ = some (.bool st) ∧ w'.cell? ⟨w.heap.size, 4, none⟩ = some (.int .u32 s))
    (first | (with_reducible exact ⟨r0, r1, r2, r3, r4⟩) | (with_reducible exact kp5 (by assumption) (fun p hp => hb.cell (by rw [hp]; go_size))) | (with_reducible exact kp5 (by assumption) (fun p hp => far5 hp (by omega))) | go_keep)
    ((go_at_call 12; (with_reducible refine Calls.mono (HT.out _) ?_); rintro e w2 ⟨rfl, hb⟩; have qb := (hb.block (w.heap.size + 1) (by go_size)).trans ht0; obtain ⟨k0, k1, k2, k3, k4, g0, g1, g2, g3, g4⟩ := blank5 qb; have hB2 : Below w.heap.size w w2 := Below.trans HB0.out.drew (hb.mono (by go_size)); have hz2 : w.heap.size + 2 ≤ w2.heap.size := (by have := hb.size; (try simp at this); omega); clear qb))
  all_goals
    go_wp2
    exact bodyPost_ret (v := .agg #[.int .i64 v, .int .u64 m, .int .i64 p, .bool st, .int .u32 s]) (by simp [results, Try.results31, go_sem, k0, k1, k2, k3, k4]) rfl ⟨rfl, (by (repeat' (first | (with_reducible exact Below.refl _ _) | (with_reducible assumption) | (with_reducible refine Below.setCell ?_ ?_ _) | (with_reducible refine Below.alloc ?_ ?_ _) | (with_reducible refine below_drewN ?_ _) | (with_reducible refine Below.drew ?_) | go_size)))⟩

set_option maxHeartbeats 1600000 in
theorem law9_From (v m p : Int) (st : Bool) (s : Int) (w : World) :
    Calls Try.prog 36 #[.agg #[.int .i64 v, .int .u64 m, .int .i64 p, .bool st, .int .u32 s]] w (Says (.agg #[.int .i64 v, .int .u64 m, .int .i64 p, .bool st, .int .u32 s]) w) := by
  have HT := Lib.hid fun W => law8_From v m W
  go_enter Try.func36, Try.ntmps36
  go_wp2_with fail
  obtain ⟨w0, hw0, hz0, hb0, hc0, ht0⟩ := two_blocks' w #[.int .i64 v, .int .u64 m, .int .i64 p, .bool st, .int .u32 s] #[.int .i64 0, .int .u64 0, .int .i64 0, .bool false, .int .u32 0] 65 72
  rw [← hw0]
  have r0 : w0.cell? ⟨w.heap.size, 0, none⟩ = some (.int .i64 v) := hc0 0 _ rfl
  have r1 : w0.cell? ⟨w.heap.size, 1, none⟩ = some (.int .u64 m) := hc0 1 _ rfl
  have r2 : w0.cell? ⟨w.heap.size, 2, none⟩ = some (.int .i64 p) := hc0 2 _ rfl
  have r3 : w0.cell? ⟨w.heap.size, 3, none⟩ = some (.bool st) := hc0 3 _ rfl
  have r4 : w0.cell? ⟨w.heap.size, 4, none⟩ = some (.int .u32 s) := hc0 4 _ rfl
  have HB0 := Lib.hid hb0
  clear hw0 hc0 hb0
  go_region_held3 (fun w' => w'.cell? ⟨w.heap.size, 0, none⟩ = some (.int .i64 v) ∧ w'.cell? ⟨w.heap.size, 1, none⟩ = some (.int .u64 m) ∧ w'.cell? ⟨w.heap.size, 2, none⟩ = some (.int .i64 p) ∧ w'.cell? ⟨w.heap.size, 3, none⟩ = some (.bool st) ∧ w'.cell? ⟨w.heap.size, 4, none⟩ = some (.int .u32 s))
    (first | (with_reducible exact ⟨r0, r1, r2, r3, r4⟩) | (with_reducible exact kp5 (by assumption) (fun p hp => hb.cell (by rw [hp]; go_size))) | (with_reducible exact kp5 (by assumption) (fun p hp => far5 hp (by omega))) | go_keep)
    ((go_at_call 28; (with_reducible refine Calls.mono (HT.out _) ?_); rintro e w2 ⟨rfl, hb⟩; have qb := (hb.block (w.heap.size + 1) (by go_size)).trans ht0; obtain ⟨k0, k1, k2, k3, k4, g0, g1, g2, g3, g4⟩ := blank5 qb; have hB2 : Below w.heap.size w w2 := Below.trans HB0.out.drew (hb.mono (by go_size)); have hz2 : w.heap.size + 2 ≤ w2.heap.size := (by have := hb.size; (try simp at this); omega); clear qb))
  all_goals
    go_wp2
    exact bodyPost_ret (v := .agg #[.int .i64 v, .int .u64 m, .int .i64 p, .bool st, .int .u32 s]) (by simp [results, Try.results36, go_sem, k0, k1, k2, k3, k4]) rfl ⟨rfl, (by (repeat' (first | (with_reducible exact Below.refl _ _) | (with_reducible assumption) | (with_reducible refine Below.setCell ?_ ?_ _) | (with_reducible refine Below.alloc ?_ ?_ _) | (with_reducible refine below_drewN ?_ _) | (with_reducible refine Below.drew ?_) | go_size)))⟩

theorem port_fix (p : Int) : wrap64 ((IntKind.u64.wrap p).tmod 64) = p % 18446744073709551616 % 64 := by
  rw [Int.tmod_eq_emod_of_nonneg (by rw [IntKind.wrap_u64]; omega), IntKind.wrap_u64]; unfold wrap64; omega
theorem port_fix' (p : Int) : wrap64 (IntKind.u64.wrap p % 64) = p % 18446744073709551616 % 64 := by
  rw [IntKind.wrap_u64]; unfold wrap64; omega
set_option maxHeartbeats 3200000 in
theorem ref9_Fix (v : Int) (m : Nat) (hm : m < 18446744073709551616) (p : Int) (st : Bool) (s : Nat) (hs : s < 4294967296) (w : World) :
    Calls Try.prog 30 #[.agg #[.int .i64 v, .int .u64 (m : Int), .int .i64 p, .bool st, .int .u32 (s : Int)]] w (Says (.agg #[.int .i64 (fixV v), .int .u64 (fixM m : Nat), .int .i64 (p % 18446744073709551616 % 64), .bool st, .int .u32 ((if st = true then 0 else s : Nat) : Int)]) w) := by
  have hF := fun W => ref8_Fix v m hm W
  have hp := port_fix p
  have hp' := port_fix' p
  have hq : 0 ≤ p % 18446744073709551616 % 64 ∧ p % 18446744073709551616 % 64 < 64 := by omega
  generalize p % 18446744073709551616 % 64 = q at *
  generalize fixV v = x at *
  generalize fixM m = y at *
  have HF := Lib.hid hF
  clear hF hm hs
  cases st
  · rw [if_neg (by simp)]
    go_enter Try.func30, Try.ntmps30
    go_wp2_with fail
    refine (HF.out _).mono ?_
    rintro e w1 ⟨rfl, hb⟩
    obtain ⟨hc, hf⟩ := bcell hb
    have c0 : w1.cell? ⟨w.heap.size, 0, none⟩ = some (.int .i64 v) := by rw [hc _ _ (by simp; omega)]; simp [go_sem]
    have c1 : w1.cell? ⟨w.heap.size, 1, none⟩ = some (.int .u64 (m : Int)) := by rw [hc _ _ (by simp; omega)]; simp [go_sem]
    have c2 : w1.cell? ⟨w.heap.size, 2, none⟩ = some (.int .i64 p) := by rw [hc _ _ (by simp; omega)]; simp [go_sem]
    have c3 : w1.cell? ⟨w.heap.size, 3, none⟩ = some (.bool false) := by rw [hc _ _ (by simp; omega)]; simp [go_sem]
    have c4 : w1.cell? ⟨w.heap.size, 4, none⟩ = some (.int .u32 (s : Int)) := by rw [hc _ _ (by simp; omega)]; simp [go_sem]
    have f0 : ∀ o, w1.frozen? ⟨w.heap.size, o, none⟩ = false := fun o => by rw [hf _ _ (by simp; omega)]; simp [go_sem]
    have d0 : w1.cell? ⟨w.heap.size + 1, 0, none⟩ = some (.int .i64 0) := by rw [hc _ _ (by simp)]; simp [go_sem]
    have d1 : w1.cell? ⟨w.heap.size + 1, 1, none⟩ = some (.int .u64 0) := by rw [hc _ _ (by simp)]; simp [go_sem]
    have d2 : w1.cell? ⟨w.heap.size + 1, 2, none⟩ = some (.int .i64 0) := by rw [hc _ _ (by simp)]; simp [go_sem]
    have d3 : w1.cell? ⟨w.heap.size + 1, 3, none⟩ = some (.bool false) := by rw [hc _ _ (by simp)]; simp [go_sem]
    have d4 : w1.cell? ⟨w.heap.size + 1, 4, none⟩ = some (.int .u32 0) := by rw [hc _ _ (by simp)]; simp [go_sem]
    have f1 : ∀ o, w1.frozen? ⟨w.heap.size + 1, o, none⟩ = false := fun o => by rw [hf _ _ (by simp)]; simp [go_sem]
    have hB1 : Below w.heap.size w w1 := Below.trans (by (repeat' (first | (with_reducible exact Below.refl _ _) | (with_reducible assumption) | (with_reducible refine Below.setCell ?_ ?_ _) | (with_reducible refine Below.alloc ?_ ?_ _) | (with_reducible refine below_drewN ?_ _) | (with_reducible refine Below.drew ?_) | go_size))) (hb.mono (by go_size))
    have hz1 : w.heap.size + 2 ≤ w1.heap.size := by have := hb.size; simp at this; omega
    clear hc hf hb
    go_wp2
    exact bodyPost_ret (v := .agg #[.int .i64 x, .int .u64 (y : Int), .int .i64 q, .bool false, .int .u32 (s : Int)]) (by simp [results, Try.results30, go_sem, d0, d1, d2, d3, d4]) rfl ⟨rfl, (by (repeat' (first | (with_reducible exact Below.refl _ _) | (with_reducible assumption) | (with_reducible refine Below.setCell ?_ ?_ _) | (with_reducible refine Below.alloc ?_ ?_ _) | (with_reducible refine below_drewN ?_ _) | (with_reducible refine Below.drew ?_) | go_size)))⟩
  · rw [if_pos rfl]
    go_enter Try.func30, Try.ntmps30
    go_wp2_with fail
    refine (HF.out _).mono ?_
    rintro e w1 ⟨rfl, hb⟩
    obtain ⟨hc, hf⟩ := bcell hb
    have c0 : w1.cell? ⟨w.heap.size, 0, none⟩ = some (.int .i64 v) := by rw [hc _ _ (by simp; omega)]; simp [go_sem]
    have c1 : w1.cell? ⟨w.heap.size, 1, none⟩ = some (.int .u64 (m : Int)) := by rw [hc _ _ (by simp; omega)]; simp [go_sem]
    have c2 : w1.cell? ⟨w.heap.size, 2, none⟩ = some (.int .i64 p) := by rw [hc _ _ (by simp; omega)]; simp [go_sem]
    have c3 : w1.cell? ⟨w.heap.size, 3, none⟩ = some (.bool true) := by rw [hc _ _ (by simp; omega)]; simp [go_sem]
    have c4 : w1.cell? ⟨w.heap.size, 4, none⟩ = some (.int .u32 (s : Int)) := by rw [hc _ _ (by simp; omega)]; simp [go_sem]
    have f0 : ∀ o, w1.frozen? ⟨w.heap.size, o, none⟩ = false := fun o => by rw [hf _ _ (by simp; omega)]; simp [go_sem]
    have d0 : w1.cell? ⟨w.heap.size + 1, 0, none⟩ = some (.int .i64 0) := by rw [hc _ _ (by simp)]; simp [go_sem]
    have d1 : w1.cell? ⟨w.heap.size + 1, 1, none⟩ = some (.int .u64 0) := by rw [hc _ _ (by simp)]; simp [go_sem]
    have d2 : w1.cell? ⟨w.heap.size + 1, 2, none⟩ = some (.int .i64 0) := by rw [hc _ _ (by simp)]; simp [go_sem]
    have d3 : w1.cell? ⟨w.heap.size + 1, 3, none⟩ = some (.bool false) := by rw [hc _ _ (by simp)]; simp [go_sem]
    have d4 : w1.cell? ⟨w.heap.size + 1, 4, none⟩ = some (.int .u32 0) := by rw [hc _ _ (by simp)]; simp [go_sem]
    have f1 : ∀ o, w1.frozen? ⟨w.heap.size + 1, o, none⟩ = false := fun o => by rw [hf _ _ (by simp)]; simp [go_sem]
    have hB1 : Below w.heap.size w w1 := Below.trans (by (repeat' (first | (with_reducible exact Below.refl _ _) | (with_reducible assumption) | (with_reducible refine Below.setCell ?_ ?_ _) | (with_reducible refine Below.alloc ?_ ?_ _) | (with_reducible refine below_drewN ?_ _) | (with_reducible refine Below.drew ?_) | go_size))) (hb.mono (by go_size))
    have hz1 : w.heap.size + 2 ≤ w1.heap.size := by have := hb.size; simp at this; omega
    clear hc hf hb
    go_wp2
    exact bodyPost_ret (v := .agg #[.int .i64 x, .int .u64 (y : Int), .int .i64 q, .bool true, .int .u32 ((0 : Nat) : Int)]) (by simp [results, Try.results30, go_sem, d0, d1, d2, d3, d4]) rfl ⟨rfl, (by (repeat' (first | (with_reducible exact Below.refl _ _) | (with_reducible assumption) | (with_reducible refine Below.setCell ?_ ?_ _) | (with_reducible refine Below.alloc ?_ ?_ _) | (with_reducible refine below_drewN ?_ _) | (with_reducible refine Below.drew ?_) | go_size)))⟩

theorem t8a : keyT 1153205178606813189 = .tuple #[.agg #[.int .i64 1, .int .u64 2199023255557], .bool true] := by kernel_rfl
theorem t8b : wordN 1 2199023255557 = 1153205178606813189 := by decide +kernel
theorem t8c : rightK 1 2199023255557 = true := by decide +kernel
theorem t9a : slotT 1153205178606813189 8589934595 = .tuple #[.agg #[.int .i64 1, .int .u64 2199023255557, .int .i64 3, .bool false, .int .u32 2], .bool true] := by kernel_rfl
theorem t9b : wordB ⟨1, 2199023255557, 3, false, 2⟩ = 8589934595 := by decide +kernel
theorem t9c : rightE ⟨1, 2199023255557, 3, false, 2⟩ = true := by decide +kernel
end Go.Proofs.Ytnhooknpknkjkaa
