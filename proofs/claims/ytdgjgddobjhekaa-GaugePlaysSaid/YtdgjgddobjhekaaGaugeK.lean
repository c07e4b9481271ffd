/-
  Gauges, the document's own: Take, Equal. No statement is proved here.
-/
import Derived.Test.YtdgjgddobjhekaaGaugeI
set_option linter.unusedVariables false
namespace Go.Proofs.Ytdgjgddobjhekaa
open Go.RowKit

set_option maxRecDepth 100000 in
set_option maxHeartbeats 3200000 in
theorem ref5_Take_open (lv mo ro last now : Nat) (hl : lv < 18446744073709551616) (h1 : last < 4294967296) (h2 : now < 4294967296) (ho : openW lv = true) (w : World) :
    Calls Try.prog 28 #[gV lv mo ro last, .int .u32 (now : Int)] w (Says (.tuple #[gV lv mo ro now, .bool true]) w) := by
    have hf := fun W => ref5_Fill lv mo ro last now hl h1 h2 W
    have ho2 := fun W => ref5_Open lv mo ro now hl W
    unfold fillW at hf
    rw [ho, if_pos rfl] at hf
    rw [ho] at ho2
    have HF := Lib.hid hf
    have HO := Lib.hid ho2
    clear hf ho2 ho hl h1 h2
    unfold gV at HF ⊢
    have hst := st_float
    go_enter Try.func28, Try.ntmps28
    go_wp2_with fail
    refine (HF.out _).mono ?_
    rintro e w1 ⟨rfl, hb1⟩
    obtain ⟨hc1, hf1⟩ := bcell hb1
    have hz1 : w.heap.size + 2 ≤ w1.heap.size := by have := hb1.size; simp at this; omega
    have hB1 : Below w.heap.size w w1 := Below.trans (((Below.refl _ _).alloc (Nat.le_refl _) _).alloc (by simp) _) (hb1.mono (by simp; omega))
    have e0 : w1.cell? ⟨w.heap.size, 0, none⟩ = some (.float .f64 lv) := by rw [hc1 _ _ (by simp; omega)]; simp [go_sem]
    have e1 : w1.cell? ⟨w.heap.size, 1, none⟩ = some (.float .f64 mo) := by rw [hc1 _ _ (by simp; omega)]; simp [go_sem]
    have e2 : w1.cell? ⟨w.heap.size, 2, none⟩ = some (.float .f64 ro) := by rw [hc1 _ _ (by simp; omega)]; simp [go_sem]
    have e3 : w1.cell? ⟨w.heap.size, 3, none⟩ = some (.int .u32 (last : Int)) := by rw [hc1 _ _ (by simp; omega)]; simp [go_sem]
    have d0 : w1.cell? ⟨w.heap.size + 1, 0, none⟩ = some (.float .f64 0) := by rw [hc1 _ _ (by simp)]; simp [go_sem]
    have d1 : w1.cell? ⟨w.heap.size + 1, 1, none⟩ = some (.float .f64 0) := by rw [hc1 _ _ (by simp)]; simp [go_sem]
    have d2 : w1.cell? ⟨w.heap.size + 1, 2, none⟩ = some (.float .f64 0) := by rw [hc1 _ _ (by simp)]; simp [go_sem]
    have d3 : w1.cell? ⟨w.heap.size + 1, 3, none⟩ = some (.int .u32 0) := by rw [hc1 _ _ (by simp)]; simp [go_sem]
    have f0 : ∀ o, w1.frozen? ⟨w.heap.size, o, none⟩ = false := fun o => by rw [hf1 _ _ (by simp; omega)]; simp [go_sem]
    have f1 : ∀ o, w1.frozen? ⟨w.heap.size + 1, o, none⟩ = false := fun o => by rw [hf1 _ _ (by simp)]; simp [go_sem]
    clear hc1 hf1 hb1
    go_wp2_with fail
    obtain ⟨w5, hw5⟩ : ∃ w5, w5 = (((w1.setCell ⟨w.heap.size, 0, none⟩ (.float .f64 lv)).setCell ⟨w.heap.size, 1, none⟩ (.float .f64 mo)).setCell ⟨w.heap.size, 2, none⟩ (.float .f64 ro)).setCell ⟨w.heap.size, 3, none⟩ (.int .u32 (now : Int)) := ⟨_, rfl⟩
    have hB5 : Below w.heap.size w w5 := by rw [hw5]; exact (((hB1.setCell (Nat.le_refl _) _).setCell (Nat.le_refl _) _).setCell (Nat.le_refl _) _).setCell (Nat.le_refl _) _
    have hz5 : w.heap.size + 2 ≤ w5.heap.size := by rw [hw5]; simpa using hz1
    have x0 : w5.cell? ⟨w.heap.size, 0, none⟩ = some (.float .f64 lv) := by rw [hw5]; simp [go_sem, e0]
    have x1 : w5.cell? ⟨w.heap.size, 1, none⟩ = some (.float .f64 mo) := by rw [hw5]; simp [go_sem, e1]
    have x2 : w5.cell? ⟨w.heap.size, 2, none⟩ = some (.float .f64 ro) := by rw [hw5]; simp [go_sem, e2]
    have x3 : w5.cell? ⟨w.heap.size, 3, none⟩ = some (.int .u32 (now : Int)) := by rw [hw5]; simp [go_sem, e3]
    have y0 : w5.cell? ⟨w.heap.size + 1, 0, none⟩ = some (.float .f64 0) := by rw [hw5]; simp [go_sem, d0]
    have y1 : w5.cell? ⟨w.heap.size + 1, 1, none⟩ = some (.float .f64 0) := by rw [hw5]; simp [go_sem, d1]
    have y2 : w5.cell? ⟨w.heap.size + 1, 2, none⟩ = some (.float .f64 0) := by rw [hw5]; simp [go_sem, d2]
    have y3 : w5.cell? ⟨w.heap.size + 1, 3, none⟩ = some (.int .u32 0) := by rw [hw5]; simp [go_sem, d3]
    have g0 : ∀ o, w5.frozen? ⟨w.heap.size, o, none⟩ = false := fun o => by rw [hw5]; simp [go_sem, f0]
    have g1 : ∀ o, w5.frozen? ⟨w.heap.size + 1, o, none⟩ = false := fun o => by rw [hw5]; simp [go_sem, f1]
    rw [← hw5]
    clear hw5 e0 e1 e2 e3 d0 d1 d2 d3 f0 f1 hB1 hz1
    refine (HO.out _).mono ?_
    rintro e w2 ⟨rfl, hb2⟩
    obtain ⟨hc2, hf2⟩ := bcell hb2
    have hB2 : Below w.heap.size w w2 := hB5.trans (hb2.mono (by omega))
    have k0 := (hc2 w.heap.size 0 (by omega)).trans x0
    have k1 := (hc2 w.heap.size 1 (by omega)).trans x1
    have k2 := (hc2 w.heap.size 2 (by omega)).trans x2
    have k3 := (hc2 w.heap.size 3 (by omega)).trans x3
    have j0 := (hc2 (w.heap.size + 1) 0 (by omega)).trans y0
    have j1 := (hc2 (w.heap.size + 1) 1 (by omega)).trans y1
    have j2 := (hc2 (w.heap.size + 1) 2 (by omega)).trans y2
    have j3 := (hc2 (w.heap.size + 1) 3 (by omega)).trans y3
    have m0 : ∀ o, w2.frozen? ⟨w.heap.size, o, none⟩ = false := fun o => (hf2 w.heap.size o (by omega)).trans (g0 o)
    have m1 : ∀ o, w2.frozen? ⟨w.heap.size + 1, o, none⟩ = false := fun o => (hf2 (w.heap.size + 1) o (by omega)).trans (g1 o)
    have hz2 : w.heap.size + 2 ≤ w2.heap.size := Nat.le_trans hz5 hb2.size
    clear hc2 hf2 hb2 x0 x1 x2 x3 y0 y1 y2 y3 g0 g1 hB5 hz5
    go_wp2
    exact bodyPost_ret (v := .tuple #[.agg #[.float .f64 lv, .float .f64 mo, .float .f64 ro, .int .u32 (now : Int)], .bool true]) (by simp [results, Try.results28, go_sem, j0, j1, j2, j3]) rfl ⟨rfl, (by (repeat' (first | (with_reducible exact Below.refl _ _) | (with_reducible assumption) | (with_reducible refine Below.setCell ?_ ?_ _) | (with_reducible refine Below.alloc ?_ ?_ _) | (with_reducible refine below_drewN ?_ _) | (with_reducible refine Below.drew ?_) | (show w.heap.size ≤ w.heap.size + 1; omega) | go_size)))⟩
set_option maxRecDepth 100000 in
set_option maxHeartbeats 3200000 in
theorem ref5_Take_yes (lv mo ro last now : Nat) (hl : lv < 18446744073709551616) (h1 : last < 4294967296) (h2 : now < 4294967296) {r q : Nat} (ho : openW lv = false) (hr : roomW lv mo ro (ageN now last) = r) (hg : geB r = true) (hq : floatBits .sub .f64 r 4607182418800017408 = some q) (w : World) :
    Calls Try.prog 28 #[gV lv mo ro last, .int .u32 (now : Int)] w (Says (.tuple #[gV lv mo q now, .bool true]) w) := by
    have hf := fun W => ref5_Fill lv mo ro last now hl h1 h2 W
    have ho2 := fun W => ref5_Open lv mo r now hl W
    unfold fillW at hf
    rw [ho, if_neg (by simp), hr] at hf
    rw [ho] at ho2
    unfold geB at hg
    have hrun := fun W => run_float_arith (P := Try.prog) W .sub 22 .f64 _ _ _ hq
    clear hr hq
    have HF := Lib.hid hf
    have HO := Lib.hid ho2
    clear hf ho2 ho hl h1 h2
    unfold gV at HF ⊢
    have hst := st_float
    go_enter Try.func28, Try.ntmps28
    go_wp2_with fail
    refine (HF.out _).mono ?_
    rintro e w1 ⟨rfl, hb1⟩
    obtain ⟨hc1, hf1⟩ := bcell hb1
    have hz1 : w.heap.size + 2 ≤ w1.heap.size := by have := hb1.size; simp at this; omega
    have hB1 : Below w.heap.size w w1 := Below.trans (((Below.refl _ _).alloc (Nat.le_refl _) _).alloc (by simp) _) (hb1.mono (by simp; omega))
    have e0 : w1.cell? ⟨w.heap.size, 0, none⟩ = some (.float .f64 lv) := by rw [hc1 _ _ (by simp; omega)]; simp [go_sem]
    have e1 : w1.cell? ⟨w.heap.size, 1, none⟩ = some (.float .f64 mo) := by rw [hc1 _ _ (by simp; omega)]; simp [go_sem]
    have e2 : w1.cell? ⟨w.heap.size, 2, none⟩ = some (.float .f64 ro) := by rw [hc1 _ _ (by simp; omega)]; simp [go_sem]
    have e3 : w1.cell? ⟨w.heap.size, 3, none⟩ = some (.int .u32 (last : Int)) := by rw [hc1 _ _ (by simp; omega)]; simp [go_sem]
    have d0 : w1.cell? ⟨w.heap.size + 1, 0, none⟩ = some (.float .f64 0) := by rw [hc1 _ _ (by simp)]; simp [go_sem]
    have d1 : w1.cell? ⟨w.heap.size + 1, 1, none⟩ = some (.float .f64 0) := by rw [hc1 _ _ (by simp)]; simp [go_sem]
    have d2 : w1.cell? ⟨w.heap.size + 1, 2, none⟩ = some (.float .f64 0) := by rw [hc1 _ _ (by simp)]; simp [go_sem]
    have d3 : w1.cell? ⟨w.heap.size + 1, 3, none⟩ = some (.int .u32 0) := by rw [hc1 _ _ (by simp)]; simp [go_sem]
    have f0 : ∀ o, w1.frozen? ⟨w.heap.size, o, none⟩ = false := fun o => by rw [hf1 _ _ (by simp; omega)]; simp [go_sem]
    have f1 : ∀ o, w1.frozen? ⟨w.heap.size + 1, o, none⟩ = false := fun o => by rw [hf1 _ _ (by simp)]; simp [go_sem]
    clear hc1 hf1 hb1
    go_wp2_with fail
    obtain ⟨w5, hw5⟩ : ∃ w5, w5 = (((w1.setCell ⟨w.heap.size, 0, none⟩ (.float .f64 lv)).setCell ⟨w.heap.size, 1, none⟩ (.float .f64 mo)).setCell ⟨w.heap.size, 2, none⟩ (.float .f64 r)).setCell ⟨w.heap.size, 3, none⟩ (.int .u32 (now : Int)) := ⟨_, rfl⟩
    have hB5 : Below w.heap.size w w5 := by rw [hw5]; exact (((hB1.setCell (Nat.le_refl _) _).setCell (Nat.le_refl _) _).setCell (Nat.le_refl _) _).setCell (Nat.le_refl _) _
    have hz5 : w.heap.size + 2 ≤ w5.heap.size := by rw [hw5]; simpa using hz1
    have x0 : w5.cell? ⟨w.heap.size, 0, none⟩ = some (.float .f64 lv) := by rw [hw5]; simp [go_sem, e0]
    have x1 : w5.cell? ⟨w.heap.size, 1, none⟩ = some (.float .f64 mo) := by rw [hw5]; simp [go_sem, e1]
    have x2 : w5.cell? ⟨w.heap.size, 2, none⟩ = some (.float .f64 r) := by rw [hw5]; simp [go_sem, e2]
    have x3 : w5.cell? ⟨w.heap.size, 3, none⟩ = some (.int .u32 (now : Int)) := by rw [hw5]; simp [go_sem, e3]
    have y0 : w5.cell? ⟨w.heap.size + 1, 0, none⟩ = some (.float .f64 0) := by rw [hw5]; simp [go_sem, d0]
    have y1 : w5.cell? ⟨w.heap.size + 1, 1, none⟩ = some (.float .f64 0) := by rw [hw5]; simp [go_sem, d1]
    have y2 : w5.cell? ⟨w.heap.size + 1, 2, none⟩ = some (.float .f64 0) := by rw [hw5]; simp [go_sem, d2]
    have y3 : w5.cell? ⟨w.heap.size + 1, 3, none⟩ = some (.int .u32 0) := by rw [hw5]; simp [go_sem, d3]
    have g0 : ∀ o, w5.frozen? ⟨w.heap.size, o, none⟩ = false := fun o => by rw [hw5]; simp [go_sem, f0]
    have g1 : ∀ o, w5.frozen? ⟨w.heap.size + 1, o, none⟩ = false := fun o => by rw [hw5]; simp [go_sem, f1]
    rw [← hw5]
    clear hw5 e0 e1 e2 e3 d0 d1 d2 d3 f0 f1 hB1 hz1
    refine (HO.out _).mono ?_
    rintro e w2 ⟨rfl, hb2⟩
    obtain ⟨hc2, hf2⟩ := bcell hb2
    have hB2 : Below w.heap.size w w2 := hB5.trans (hb2.mono (by omega))
    have k0 := (hc2 w.heap.size 0 (by omega)).trans x0
    have k1 := (hc2 w.heap.size 1 (by omega)).trans x1
    have k2 := (hc2 w.heap.size 2 (by omega)).trans x2
    have k3 := (hc2 w.heap.size 3 (by omega)).trans x3
    have j0 := (hc2 (w.heap.size + 1) 0 (by omega)).trans y0
    have j1 := (hc2 (w.heap.size + 1) 1 (by omega)).trans y1
    have j2 := (hc2 (w.heap.size + 1) 2 (by omega)).trans y2
    have j3 := (hc2 (w.heap.size + 1) 3 (by omega)).trans y3
    have m0 : ∀ o, w2.frozen? ⟨w.heap.size, o, none⟩ = false := fun o => (hf2 w.heap.size o (by omega)).trans (g0 o)
    have m1 : ∀ o, w2.frozen? ⟨w.heap.size + 1, o, none⟩ = false := fun o => (hf2 (w.heap.size + 1) o (by omega)).trans (g1 o)
    have hz2 : w.heap.size + 2 ≤ w2.heap.size := Nat.le_trans hz5 hb2.size
    clear hc2 hf2 hb2 x0 x1 x2 x3 y0 y1 y2 y3 g0 g1 hB5 hz5
    go_wp2
    exact bodyPost_ret (v := .tuple #[.agg #[.float .f64 lv, .float .f64 mo, .float .f64 q, .int .u32 (now : Int)], .bool true]) (by simp [results, Try.results28, go_sem, j0, j1, j2, j3]) rfl ⟨rfl, (by (repeat' (first | (with_reducible exact Below.refl _ _) | (with_reducible assumption) | (with_reducible refine Below.setCell ?_ ?_ _) | (with_reducible refine Below.alloc ?_ ?_ _) | (with_reducible refine below_drewN ?_ _) | (with_reducible refine Below.drew ?_) | (show w.heap.size ≤ w.heap.size + 1; omega) | go_size)))⟩
set_option maxRecDepth 100000 in
set_option maxHeartbeats 3200000 in
theorem ref5_Take_no (lv mo ro last now : Nat) (hl : lv < 18446744073709551616) (h1 : last < 4294967296) (h2 : now < 4294967296) {r : Nat} (ho : openW lv = false) (hr : roomW lv mo ro (ageN now last) = r) (hg : geB r = false) (w : World) :
    Calls Try.prog 28 #[gV lv mo ro last, .int .u32 (now : Int)] w (Says (.tuple #[gV lv mo r now, .bool false]) w) := by
    have hf := fun W => ref5_Fill lv mo ro last now hl h1 h2 W
    have ho2 := fun W => ref5_Open lv mo r now hl W
    unfold fillW at hf
    rw [ho, if_neg (by simp), hr] at hf
    rw [ho] at ho2
    unfold geB at hg
    clear hr
    have HF := Lib.hid hf
    have HO := Lib.hid ho2
    clear hf ho2 ho hl h1 h2
    unfold gV at HF ⊢
    have hst := st_float
    go_enter Try.func28, Try.ntmps28
    go_wp2_with fail
    refine (HF.out _).mono ?_
    rintro e w1 ⟨rfl, hb1⟩
    obtain ⟨hc1, hf1⟩ := bcell hb1
    have hz1 : w.heap.size + 2 ≤ w1.heap.size := by have := hb1.size; simp at this; omega
    have hB1 : Below w.heap.size w w1 := Below.trans (((Below.refl _ _).alloc (Nat.le_refl _) _).alloc (by simp) _) (hb1.mono (by simp; omega))
    have e0 : w1.cell? ⟨w.heap.size, 0, none⟩ = some (.float .f64 lv) := by rw [hc1 _ _ (by simp; omega)]; simp [go_sem]
    have e1 : w1.cell? ⟨w.heap.size, 1, none⟩ = some (.float .f64 mo) := by rw [hc1 _ _ (by simp; omega)]; simp [go_sem]
    have e2 : w1.cell? ⟨w.heap.size, 2, none⟩ = some (.float .f64 ro) := by rw [hc1 _ _ (by simp; omega)]; simp [go_sem]
    have e3 : w1.cell? ⟨w.heap.size, 3, none⟩ = some (.int .u32 (last : Int)) := by rw [hc1 _ _ (by simp; omega)]; simp [go_sem]
    have d0 : w1.cell? ⟨w.heap.size + 1, 0, none⟩ = some (.float .f64 0) := by rw [hc1 _ _ (by simp)]; simp [go_sem]
    have d1 : w1.cell? ⟨w.heap.size + 1, 1, none⟩ = some (.float .f64 0) := by rw [hc1 _ _ (by simp)]; simp [go_sem]
    have d2 : w1.cell? ⟨w.heap.size + 1, 2, none⟩ = some (.float .f64 0) := by rw [hc1 _ _ (by simp)]; simp [go_sem]
    have d3 : w1.cell? ⟨w.heap.size + 1, 3, none⟩ = some (.int .u32 0) := by rw [hc1 _ _ (by simp)]; simp [go_sem]
    have f0 : ∀ o, w1.frozen? ⟨w.heap.size, o, none⟩ = false := fun o => by rw [hf1 _ _ (by simp; omega)]; simp [go_sem]
    have f1 : ∀ o, w1.frozen? ⟨w.heap.size + 1, o, none⟩ = false := fun o => by rw [hf1 _ _ (by simp)]; simp [go_sem]
    clear hc1 hf1 hb1
    go_wp2_with fail
    obtain ⟨w5, hw5⟩ : ∃ w5, w5 = (((w1.setCell ⟨w.heap.size, 0, none⟩ (.float .f64 lv)).setCell ⟨w.heap.size, 1, none⟩ (.float .f64 mo)).setCell ⟨w.heap.size, 2, none⟩ (.float .f64 r)).setCell ⟨w.heap.size, 3, none⟩ (.int .u32 (now : Int)) := ⟨_, rfl⟩
    have hB5 : Below w.heap.size w w5 := by rw [hw5]; exact (((hB1.setCell (Nat.le_refl _) _).setCell (Nat.le_refl _) _).setCell (Nat.le_refl _) _).setCell (Nat.le_refl _) _
    have hz5 : w.heap.size + 2 ≤ w5.heap.size := by rw [hw5]; simpa using hz1
    have x0 : w5.cell? ⟨w.heap.size, 0, none⟩ = some (.float .f64 lv) := by rw [hw5]; simp [go_sem, e0]
    have x1 : w5.cell? ⟨w.heap.size, 1, none⟩ = some (.float .f64 mo) := by rw [hw5]; simp [go_sem, e1]
    have x2 : w5.cell? ⟨w.heap.size, 2, none⟩ = some (.float .f64 r) := by rw [hw5]; simp [go_sem, e2]
    have x3 : w5.cell? ⟨w.heap.size, 3, none⟩ = some (.int .u32 (now : Int)) := by rw [hw5]; simp [go_sem, e3]
    have y0 : w5.cell? ⟨w.heap.size + 1, 0, none⟩ = some (.float .f64 0) := by rw [hw5]; simp [go_sem, d0]
    have y1 : w5.cell? ⟨w.heap.size + 1, 1, none⟩ = some (.float .f64 0) := by rw [hw5]; simp [go_sem, d1]
    have y2 : w5.cell? ⟨w.heap.size + 1, 2, none⟩ = some (.float .f64 0) := by rw [hw5]; simp [go_sem, d2]
    have y3 : w5.cell? ⟨w.heap.size + 1, 3, none⟩ = some (.int .u32 0) := by rw [hw5]; simp [go_sem, d3]
    have g0 : ∀ o, w5.frozen? ⟨w.heap.size, o, none⟩ = false := fun o => by rw [hw5]; simp [go_sem, f0]
    have g1 : ∀ o, w5.frozen? ⟨w.heap.size + 1, o, none⟩ = false := fun o => by rw [hw5]; simp [go_sem, f1]
    rw [← hw5]
    clear hw5 e0 e1 e2 e3 d0 d1 d2 d3 f0 f1 hB1 hz1
    refine (HO.out _).mono ?_
    rintro e w2 ⟨rfl, hb2⟩
    obtain ⟨hc2, hf2⟩ := bcell hb2
    have hB2 : Below w.heap.size w w2 := hB5.trans (hb2.mono (by omega))
    have k0 := (hc2 w.heap.size 0 (by omega)).trans x0
    have k1 := (hc2 w.heap.size 1 (by omega)).trans x1
    have k2 := (hc2 w.heap.size 2 (by omega)).trans x2
    have k3 := (hc2 w.heap.size 3 (by omega)).trans x3
    have j0 := (hc2 (w.heap.size + 1) 0 (by omega)).trans y0
    have j1 := (hc2 (w.heap.size + 1) 1 (by omega)).trans y1
    have j2 := (hc2 (w.heap.size + 1) 2 (by omega)).trans y2
    have j3 := (hc2 (w.heap.size + 1) 3 (by omega)).trans y3
    have m0 : ∀ o, w2.frozen? ⟨w.heap.size, o, none⟩ = false := fun o => (hf2 w.heap.size o (by omega)).trans (g0 o)
    have m1 : ∀ o, w2.frozen? ⟨w.heap.size + 1, o, none⟩ = false := fun o => (hf2 (w.heap.size + 1) o (by omega)).trans (g1 o)
    have hz2 : w.heap.size + 2 ≤ w2.heap.size := Nat.le_trans hz5 hb2.size
    clear hc2 hf2 hb2 x0 x1 x2 x3 y0 y1 y2 y3 g0 g1 hB5 hz5
    go_wp2
    exact bodyPost_ret (v := .tuple #[.agg #[.float .f64 lv, .float .f64 mo, .float .f64 r, .int .u32 (now : Int)], .bool false]) (by simp [results, Try.results28, go_sem, j0, j1, j2, j3]) rfl ⟨rfl, (by (repeat' (first | (with_reducible exact Below.refl _ _) | (with_reducible assumption) | (with_reducible refine Below.setCell ?_ ?_ _) | (with_reducible refine Below.alloc ?_ ?_ _) | (with_reducible refine below_drewN ?_ _) | (with_reducible refine Below.drew ?_) | (show w.heap.size ≤ w.heap.size + 1; omega) | go_size)))⟩

set_option maxHeartbeats 3200000 in
theorem ref5_Equal (lv mo ro la : Nat) (hl : lv < 18446744073709551616) (hm : mo < 18446744073709551616) (hr : ro < 18446744073709551616) (w : World) :
    Calls Try.prog 20 #[.agg #[.float .f64 lv, .float .f64 mo, .float .f64 ro, .int .u32 (la : Int)], .agg #[.float .f64 lv, .float .f64 mo, .float .f64 ro, .int .u32 (la : Int)]] w (Says (.bool true) w) := by
  have hs0 := fun W => ref5_Same lv lv hl hl W
  have hs1 := fun W => ref5_Same mo mo hm hm W
  have hs2 := fun W => ref5_Same ro ro hr hr W
  rw [cmpW_self, show ((0 : Int) == 0) = true from rfl] at hs0 hs1 hs2
  have H0 := Lib.hid hs0
  have H1 := Lib.hid hs1
  have H2 := Lib.hid hs2
  have hla : ((la : Int) == (la : Int)) = true := by simp
  clear hs0 hs1 hs2 hl hm hr
  go_enter Try.func20, Try.ntmps20
  go_wp2_with fail
  refine (H0.out _).mono ?_
  rintro e w1 ⟨rfl, hb⟩
  have e0 : w1.cell? ⟨w.heap.size, 0, none⟩ = some (.float .f64 lv) := by rw [(bcell hb).1 _ _ (by first | (simp; done) | (simp; omega))]; simp [go_sem]
  have e1 : w1.cell? ⟨w.heap.size, 1, none⟩ = some (.float .f64 mo) := by rw [(bcell hb).1 _ _ (by first | (simp; done) | (simp; omega))]; simp [go_sem]
  have e2 : w1.cell? ⟨w.heap.size, 2, none⟩ = some (.float .f64 ro) := by rw [(bcell hb).1 _ _ (by first | (simp; done) | (simp; omega))]; simp [go_sem]
  have e3 : w1.cell? ⟨w.heap.size, 3, none⟩ = some (.int .u32 (la : Int)) := by rw [(bcell hb).1 _ _ (by first | (simp; done) | (simp; omega))]; simp [go_sem]
  have f0 : w1.cell? ⟨w.heap.size + 1, 0, none⟩ = some (.float .f64 lv) := by rw [(bcell hb).1 _ _ (by first | (simp; done) | (simp; omega))]; simp [go_sem]
  have f1 : w1.cell? ⟨w.heap.size + 1, 1, none⟩ = some (.float .f64 mo) := by rw [(bcell hb).1 _ _ (by first | (simp; done) | (simp; omega))]; simp [go_sem]
  have f2 : w1.cell? ⟨w.heap.size + 1, 2, none⟩ = some (.float .f64 ro) := by rw [(bcell hb).1 _ _ (by first | (simp; done) | (simp; omega))]; simp [go_sem]
  have f3 : w1.cell? ⟨w.heap.size + 1, 3, none⟩ = some (.int .u32 (la : Int)) := by rw [(bcell hb).1 _ _ (by first | (simp; done) | (simp; omega))]; simp [go_sem]
  have HB1 : Hid (Below w.heap.size w w1) := Below.trans (by (repeat' (first | (with_reducible exact Below.refl _ _) | (with_reducible assumption) | (with_reducible refine Below.setCell ?_ ?_ _) | (with_reducible refine Below.alloc ?_ ?_ _) | (with_reducible refine below_drewN ?_ _) | (with_reducible refine Below.drew ?_) | go_size))) (hb.mono (by go_size))
  have hz : w.heap.size + 2 ≤ w1.heap.size := by have := hb.size; simpa using this
  clear hb
  go_wp2_with fail
  refine (H1.out _).mono ?_
  rintro e w2 ⟨rfl, hb⟩
  have e0 := ((bcell hb).1 (w.heap.size) 0 (by omega)).trans e0
  have e1 := ((bcell hb).1 (w.heap.size) 1 (by omega)).trans e1
  have e2 := ((bcell hb).1 (w.heap.size) 2 (by omega)).trans e2
  have e3 := ((bcell hb).1 (w.heap.size) 3 (by omega)).trans e3
  have f0 := ((bcell hb).1 (w.heap.size + 1) 0 (by omega)).trans f0
  have f1 := ((bcell hb).1 (w.heap.size + 1) 1 (by omega)).trans f1
  have f2 := ((bcell hb).1 (w.heap.size + 1) 2 (by omega)).trans f2
  have f3 := ((bcell hb).1 (w.heap.size + 1) 3 (by omega)).trans f3
  have HB2 : Hid (Below w.heap.size w w2) := HB1.out.trans (hb.mono HB1.out.size)
  have hz := Nat.le_trans hz hb.size
  clear hb
  go_wp2_with fail
  refine (H2.out _).mono ?_
  rintro e w3 ⟨rfl, hb⟩
  have e0 := ((bcell hb).1 (w.heap.size) 0 (by omega)).trans e0
  have e1 := ((bcell hb).1 (w.heap.size) 1 (by omega)).trans e1
  have e2 := ((bcell hb).1 (w.heap.size) 2 (by omega)).trans e2
  have e3 := ((bcell hb).1 (w.heap.size) 3 (by omega)).trans e3
  have f0 := ((bcell hb).1 (w.heap.size + 1) 0 (by omega)).trans f0
  have f1 := ((bcell hb).1 (w.heap.size + 1) 1 (by omega)).trans f1
  have f2 := ((bcell hb).1 (w.heap.size + 1) 2 (by omega)).trans f2
  have f3 := ((bcell hb).1 (w.heap.size + 1) 3 (by omega)).trans f3
  have HB3 : Hid (Below w.heap.size w w3) := HB2.out.trans (hb.mono HB2.out.size)
  clear hb
  go_wp2
  go_ret
  exact ⟨by simp, HB3.out⟩
end Go.Proofs.Ytdgjgddobjhekaa
