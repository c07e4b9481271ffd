/-
  Gauges, the program's own: Fill and Take. No statement is proved here.
-/
import Derived.Test.YtdgjgddobjhekaaGaugeE
import Derived.Deep.RegionWith
set_option linter.unusedVariables false
namespace Go.Proofs.Ytdgjgddobjhekaa
open Go.RowKit

def gV (lv mo ro last : Nat) : Value := .agg #[.float .f64 lv, .float .f64 mo, .float .f64 ro, .int .u32 (last : Int)]
def fillW (lv mo ro last now : Nat) : Nat := if openW lv = true then ro else roomW lv mo ro (ageN now last)
set_option maxRecDepth 100000 in
set_option maxHeartbeats 6400000 in
theorem gauge_Fill (lv mo ro last now : Nat) (hl : lv < 18446744073709551616) (h1 : last < 4294967296) (h2 : now < 4294967296) (w : World) :
    Calls Try.prog 25 #[gV lv mo ro last, .int .u32 (now : Int)] w (Says (gV lv mo (fillW lv mo ro last now) now) w) := by
  have HO := Lib.hid fun W => gauge_Open lv mo ro last hl W
  have HA := Lib.hid fun W => ticks_Age now last h2 h1 W
  have HR := Lib.hid fun W => gauge_room lv mo ro last (ageN now last) W
  unfold gV fillW
  clear hl h1 h2
  cases ho : openW lv
  · rw [ho] at HO
    rw [if_neg (by simp)]
    generalize roomW lv mo ro (ageN now last) = r at *
    generalize ageN now last = a at *
    clear ho
    have hst := st_float
    go_enter Try.func25, Try.ntmps25
    go_wp2_with fail
    refine (HO.out _).mono ?_
    rintro e w1 ⟨rfl, hb1⟩
    obtain ⟨hc1, hf1⟩ := bcell hb1
    have hz1 : w.heap.size + 2 ≤ w1.heap.size := by have := hb1.size; simp at this; omega
    have HB1 : Hid (Below w.heap.size w w1) := Below.trans (((Below.refl _ _).alloc (Nat.le_refl _) _).alloc (by simp) _) (hb1.mono (by simp; omega))
    have e0 : w1.cell? ⟨w.heap.size, 0, none⟩ = some (.float .f64 lv) := by rw [hc1 _ _ (by simp; omega)]; simp [go_sem]
    have e1 : w1.cell? ⟨w.heap.size, 1, none⟩ = some (.float .f64 mo) := by rw [hc1 _ _ (by simp; omega)]; simp [go_sem]
    have e2 : w1.cell? ⟨w.heap.size, 2, none⟩ = some (.float .f64 ro) := by rw [hc1 _ _ (by simp; omega)]; simp [go_sem]
    have e3 : w1.cell? ⟨w.heap.size, 3, none⟩ = some (.int .u32 (last : Int)) := by rw [hc1 _ _ (by simp; omega)]; simp [go_sem]
    have d0 : w1.cell? ⟨w.heap.size + 1, 0, none⟩ = some (.float .f64 0) := by rw [hc1 _ _ (by simp)]; simp [go_sem]
    have d1 : w1.cell? ⟨w.heap.size + 1, 1, none⟩ = some (.float .f64 0) := by rw [hc1 _ _ (by simp)]; simp [go_sem]
    have d2 : w1.cell? ⟨w.heap.size + 1, 2, none⟩ = some (.float .f64 0) := by rw [hc1 _ _ (by simp)]; simp [go_sem]
    have d3 : w1.cell? ⟨w.heap.size + 1, 3, none⟩ = some (.int .u32 0) := by rw [hc1 _ _ (by simp)]; simp [go_sem]
    have f0 : ∀ o, w1.frozen? ⟨w.heap.size, o, none⟩ = false := fun o => by rw [hf1 _ _ (by simp; omega)]; simp [go_sem]
    have f1 : ∀ o, w1.frozen? ⟨w.heap.size + 1, o, none⟩ = false := fun o => by rw [hf1 _ _ (by simp)]; simp [go_sem]
    clear hc1 hf1 hb1
    go_wp2_with fail
    go_region_with (first
      | (go_at_call 36; (with_reducible refine Calls.mono (HA.out _) ?_); rintro e w2 ⟨rfl, rfl⟩)
      | (go_at_call 35; (with_reducible refine Calls.mono (HR.out _) ?_); rintro e w2 ⟨rfl, hb2⟩; obtain ⟨hc2, hf2⟩ := bcell hb2; have hz2 : w1.heap.size ≤ w2.heap.size := hb2.size; have k0 := (hc2 w.heap.size 0 (by show _ < w1.heap.size; omega)).trans e0; have k1 := (hc2 w.heap.size 1 (by show _ < w1.heap.size; omega)).trans e1; have k2 := (hc2 w.heap.size 2 (by show _ < w1.heap.size; omega)).trans e2; have k3 := (hc2 w.heap.size 3 (by show _ < w1.heap.size; omega)).trans e3; have j0 := (hc2 (w.heap.size + 1) 0 (by show _ < w1.heap.size; omega)).trans d0; have j1 := (hc2 (w.heap.size + 1) 1 (by show _ < w1.heap.size; omega)).trans d1; have j2 := (hc2 (w.heap.size + 1) 2 (by show _ < w1.heap.size; omega)).trans d2; have j3 := (hc2 (w.heap.size + 1) 3 (by show _ < w1.heap.size; omega)).trans d3; have m0 : ∀ o, w2.frozen? ⟨w.heap.size, o, none⟩ = false := (fun o => (hf2 w.heap.size o (by show _ < w1.heap.size; omega)).trans (f0 o)); have m1 : ∀ o, w2.frozen? ⟨w.heap.size + 1, o, none⟩ = false := (fun o => (hf2 (w.heap.size + 1) o (by show _ < w1.heap.size; omega)).trans (f1 o)); clear hc2 hf2))
    all_goals
      have hB2 : Below w.heap.size w w2 := Below.trans (HB1.out.drew) (hb2.mono (by show w.heap.size ≤ w1.heap.size; omega))
      clear hb2 e0 e1 e2 e3 d0 d1 d2 d3 f0 f1
      go_wp2
      exact bodyPost_ret (v := .agg #[.float .f64 lv, .float .f64 mo, .float .f64 r, .int .u32 (now : Int)]) (by simp [results, Try.results25, go_sem, j0, j1, j2, j3]) rfl ⟨rfl, (by (repeat' (first | (with_reducible exact Below.refl _ _) | (with_reducible assumption) | (with_reducible refine Below.setCell ?_ ?_ _) | (with_reducible refine Below.alloc ?_ ?_ _) | (with_reducible refine below_drewN ?_ _) | (with_reducible refine Below.drew ?_) | (show w.heap.size ≤ w.heap.size + 1; omega) | go_size)))⟩
  · rw [ho] at HO
    rw [if_pos rfl]
    clear ho HA HR
    have hst := st_float
    go_enter Try.func25, Try.ntmps25
    go_wp2_with fail
    refine (HO.out _).mono ?_
    rintro e w1 ⟨rfl, hb1⟩
    obtain ⟨hc1, hf1⟩ := bcell hb1
    have hz1 : w.heap.size + 2 ≤ w1.heap.size := by have := hb1.size; simp at this; omega
    have HB1 : Hid (Below w.heap.size w w1) := Below.trans (((Below.refl _ _).alloc (Nat.le_refl _) _).alloc (by simp) _) (hb1.mono (by simp; omega))
    have e0 : w1.cell? ⟨w.heap.size, 0, none⟩ = some (.float .f64 lv) := by rw [hc1 _ _ (by simp; omega)]; simp [go_sem]
    have e1 : w1.cell? ⟨w.heap.size, 1, none⟩ = some (.float .f64 mo) := by rw [hc1 _ _ (by simp; omega)]; simp [go_sem]
    have e2 : w1.cell? ⟨w.heap.size, 2, none⟩ = some (.float .f64 ro) := by rw [hc1 _ _ (by simp; omega)]; simp [go_sem]
    have e3 : w1.cell? ⟨w.heap.size, 3, none⟩ = some (.int .u32 (last : Int)) := by rw [hc1 _ _ (by simp; omega)]; simp [go_sem]
    have d0 : w1.cell? ⟨w.heap.size + 1, 0, none⟩ = some (.float .f64 0) := by rw [hc1 _ _ (by simp)]; simp [go_sem]
    have d1 : w1.cell? ⟨w.heap.size + 1, 1, none⟩ = some (.float .f64 0) := by rw [hc1 _ _ (by simp)]; simp [go_sem]
    have d2 : w1.cell? ⟨w.heap.size + 1, 2, none⟩ = some (.float .f64 0) := by rw [hc1 _ _ (by simp)]; simp [go_sem]
    have d3 : w1.cell? ⟨w.heap.size + 1, 3, none⟩ = some (.int .u32 0) := by rw [hc1 _ _ (by simp)]; simp [go_sem]
    have f0 : ∀ o, w1.frozen? ⟨w.heap.size, o, none⟩ = false := fun o => by rw [hf1 _ _ (by simp; omega)]; simp [go_sem]
    have f1 : ∀ o, w1.frozen? ⟨w.heap.size + 1, o, none⟩ = false := fun o => by rw [hf1 _ _ (by simp)]; simp [go_sem]
    clear hc1 hf1 hb1
    have hB1 := HB1.out
    go_wp2
    exact bodyPost_ret (v := .agg #[.float .f64 lv, .float .f64 mo, .float .f64 ro, .int .u32 (now : Int)]) (by simp [results, Try.results25, go_sem, d0, d1, d2, d3]) rfl ⟨rfl, (by (repeat' (first | (with_reducible exact Below.refl _ _) | (with_reducible assumption) | (with_reducible refine Below.setCell ?_ ?_ _) | (with_reducible refine Below.alloc ?_ ?_ _) | (with_reducible refine below_drewN ?_ _) | (with_reducible refine Below.drew ?_) | (show w.heap.size ≤ w.heap.size + 1; omega) | go_size)))⟩
end Go.Proofs.Ytdgjgddobjhekaa
