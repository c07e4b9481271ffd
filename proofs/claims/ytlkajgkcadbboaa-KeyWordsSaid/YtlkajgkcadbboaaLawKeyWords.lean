/-
  Of all keys the program tells whether they may be, and their word, as the document tells; by that word each one that may be comes back, and two that may be have the same one just if they are equal. No condition.
-/
import Derived.Test.YtlkajgkcadbboaaRows
import Derived.Test.YtlkajgkcadbboaaSlotC
import Derived.Test.YtlkajgkcadbboaaOpenFl
import Derived.Deep.RegionHeld3
import Derived.WalkKit
import Derived.ProofKit
import Derived.OpenShut
namespace Go.Proofs.Ytlkajgkcadbboaa.keyWords
open Go.ChangeShapes Go.WideShapes Go.ChangeAt Go.RowKit
open Go.ChangeMaps (open_string)
set_option linter.unusedVariables false

theorem own : ownKnob Try.prog.godebug = none := by kernel_rfl
theorem keep2 {w w' : World} {G b0 : Nat} {v00 v01 : Value} (hb0 : b0 < G) (h : w.cell? ⟨b0, 0, none⟩ = some v00 ∧ w.cell? ⟨b0, 1, none⟩ = some v01) (hk : ∀ p : Addr, p.block < G → w'.cell? p = w.cell? p) :
    w'.cell? ⟨b0, 0, none⟩ = some v00 ∧ w'.cell? ⟨b0, 1, none⟩ = some v01 :=
  ⟨(hk ⟨b0, 0, none⟩ hb0).trans h.1, (hk ⟨b0, 1, none⟩ hb0).trans h.2⟩
theorem keep222 {w w' : World} {G b0 b1 b2 : Nat} {v00 v01 v10 v11 v20 v21 : Value} (hb0 : b0 < G) (hb1 : b1 < G) (hb2 : b2 < G) (h : w.cell? ⟨b0, 0, none⟩ = some v00 ∧ w.cell? ⟨b0, 1, none⟩ = some v01 ∧ w.cell? ⟨b1, 0, none⟩ = some v10 ∧ w.cell? ⟨b1, 1, none⟩ = some v11 ∧ w.cell? ⟨b2, 0, none⟩ = some v20 ∧ w.cell? ⟨b2, 1, none⟩ = some v21) (hk : ∀ p : Addr, p.block < G → w'.cell? p = w.cell? p) :
    w'.cell? ⟨b0, 0, none⟩ = some v00 ∧ w'.cell? ⟨b0, 1, none⟩ = some v01 ∧ w'.cell? ⟨b1, 0, none⟩ = some v10 ∧ w'.cell? ⟨b1, 1, none⟩ = some v11 ∧ w'.cell? ⟨b2, 0, none⟩ = some v20 ∧ w'.cell? ⟨b2, 1, none⟩ = some v21 :=
  ⟨(hk ⟨b0, 0, none⟩ hb0).trans h.1, (hk ⟨b0, 1, none⟩ hb0).trans h.2.1, (hk ⟨b1, 0, none⟩ hb1).trans h.2.2.1, (hk ⟨b1, 1, none⟩ hb1).trans h.2.2.2.1, (hk ⟨b2, 0, none⟩ hb2).trans h.2.2.2.2.1, (hk ⟨b2, 1, none⟩ hb2).trans h.2.2.2.2.2⟩

set_option maxHeartbeats 1600000 in
theorem walk (W : World) (a0 : Int) (e0 : Nat) (b0 : -9223372036854775808 ≤ a0 ∧ a0 ≤ 9223372036854775807) (c0 : e0 < 18446744073709551616) (a1 : Int) (e1 : Nat) (b1 : -9223372036854775808 ≤ a1 ∧ a1 ≤ 9223372036854775807) (c1 : e1 < 18446744073709551616) :
    Calls Try.prog 9 #[.agg #[.int .i64 a0, .int .u64 (e0 : Int)], .agg #[.int .i64 a1, .int .u64 (e1 : Int)]] W (Says (.bool true) W) := by
  have hT := Lib.hid fun W => law8_To a0 (e0 : Int) W
  have hR := fun W => key_Right a0 e0 c0 W
  have hR' := fun W => ref8_Right a0 e0 c0 W
  have hW := fun W => key_Word a0 e0 c0 W
  have hW' := fun W => ref8_Word a0 e0 c0 W
  have hF0 := fun W => ref8_Fix a0 e0 c0 W
  have hF1 := fun W => ref8_Fix a1 e1 c1 W
  have r0 := fix_right a0 e0
  have r1 := fix_right a1 e1
  have l0 := fixM_lt e0
  have l1 := fixM_lt e1
  generalize fixV a0 = v0 at *
  generalize fixM e0 = n0 at *
  generalize fixV a1 = v1 at *
  generalize fixM e1 = n1 at *
  generalize rightK a0 e0 = x at *
  generalize wordN a0 e0 = y at *
  have hT0 := Lib.hid fun W => law8_To v0 (n0 : Int) W
  have hT1 := Lib.hid fun W => law8_To v1 (n1 : Int) W
  have hW0 := fun W => key_Word v0 n0 (by omega) W
  have hW1 := fun W => key_Word v1 n1 (by omega) W
  have hO := fun W => key_Of (wordN v0 n0) (wordN_lt v0 n0) W
  obtain ⟨o1, o2, o3⟩ := of_word r0
  rw [keyT_yes o1, o2, o3] at hO
  have hFr := Lib.hid fun W => law8_From v0 (n0 : Int) W
  have hij := word_inj r0 r1
  have HIJ : Hid (wordN v0 n0 = wordN v1 n1 ↔ v0 = v1 ∧ (n0 : Int) = (n1 : Int)) := by
    show _ ↔ _
    rw [hij]
    omega
  clear o1 o2 o3 r0 r1 l0 l1 hij b0 c0 b1 c1
  generalize wordN v0 n0 = q0 at *
  generalize wordN v1 n1 = q1 at *
  have HR := Lib.hid hR
  have HR' := Lib.hid hR'
  have HW := Lib.hid hW
  have HW' := Lib.hid hW'
  have HF0 := Lib.hid hF0
  have HF1 := Lib.hid hF1
  have HW0 := Lib.hid hW0
  have HW1 := Lib.hid hW1
  have HO := Lib.hid hO
  clear hR hR' hW hW' hF0 hF1 hW0 hW1 hO
  generalize (n0 : Int) = m0 at *
  generalize (n1 : Int) = m1 at *
  go_enter Try.func9, Try.ntmps9
  go_wp2_with fail
  obtain ⟨w0, hw0⟩ : ∃ w0, w0 = (W.alloc (.cells #[.int .i64 a0, .int .u64 (e0 : Int)] 55)).alloc (.cells #[.int .i64 a1, .int .u64 (e1 : Int)] 55) := ⟨_, rfl⟩
  rw [← hw0]
  have hz0 : W.heap.size + 2 ≤ w0.heap.size := by rw [hw0]; simp
  have hB0 : Below W.heap.size W w0 := by rw [hw0]; exact (by (repeat' (first | (with_reducible exact Below.refl _ _) | (with_reducible assumption) | (with_reducible refine Below.setCell ?_ ?_ _) | (with_reducible refine Below.alloc ?_ ?_ _) | (with_reducible refine below_drewN ?_ _) | (with_reducible refine Below.drew ?_) | go_size)))
  have k0 : w0.cell? ⟨W.heap.size, 0, none⟩ = some (.int .i64 a0) := by rw [hw0]; simp [go_sem]
  have k1 : w0.cell? ⟨W.heap.size, 1, none⟩ = some (.int .u64 (e0 : Int)) := by rw [hw0]; simp [go_sem]
  have l0 : w0.cell? ⟨W.heap.size + 1, 0, none⟩ = some (.int .i64 a1) := by rw [hw0]; simp [go_sem]
  have l1 : w0.cell? ⟨W.heap.size + 1, 1, none⟩ = some (.int .u64 (e1 : Int)) := by rw [hw0]; simp [go_sem]
  have g0 : ∀ o, w0.frozen? ⟨W.heap.size, o, none⟩ = false := fun o => by rw [hw0]; simp [go_sem]
  have g1 : ∀ o, w0.frozen? ⟨W.heap.size + 1, o, none⟩ = false := fun o => by rw [hw0]; simp [go_sem]
  clear hw0
  go_wp2_with fail
  go_region_held3 (fun w' => w'.cell? ⟨W.heap.size, 0, none⟩ = some (.int .i64 a0) ∧ w'.cell? ⟨W.heap.size, 1, none⟩ = some (.int .u64 (e0 : Int)))
    (first | (with_reducible exact keep2 (G := W.heap.size + 2) (by omega) (by assumption) (fun p hp => hb.cell (Nat.lt_of_lt_of_le hp (by go_size)))) | go_keep)
    (first
      | (go_at_call 35; (with_reducible refine Calls.mono (told08 _) ?_); rintro e w1 ⟨rfl, hb⟩; have hB1 : Below (W.heap.size + 2) w0 w1 := Below.trans (by (repeat' (first | (with_reducible exact Below.refl _ _) | (with_reducible assumption) | (with_reducible refine Below.setCell ?_ ?_ _) | (with_reducible refine Below.alloc ?_ ?_ _) | (with_reducible refine below_drewN ?_ _) | (with_reducible refine Below.drew ?_) | go_size))) (hb.mono (by go_size)); have hz1 : W.heap.size + 2 ≤ w1.heap.size := (by have := hb.size; (try simp at this); omega))
      | (go_at_call 37; (with_reducible refine Calls.mono (hT.out _) ?_); rintro e w2 ⟨rfl, hb⟩; have hB2 : Below (W.heap.size + 2) w0 w2 := Below.trans (by (repeat' (first | (with_reducible exact Below.refl _ _) | (with_reducible assumption) | (with_reducible refine Below.setCell ?_ ?_ _) | (with_reducible refine Below.alloc ?_ ?_ _) | (with_reducible refine below_drewN ?_ _) | (with_reducible refine Below.drew ?_) | go_size))) (hb.mono (by go_size)); have hz2 : W.heap.size + 2 ≤ w2.heap.size := (by have := hb.size; (try simp at this); omega))
      | (go_at_call 36; (with_reducible refine Calls.mono (HR.out _) ?_); rintro e w3 ⟨rfl, hb⟩; have hB3 : Below (W.heap.size + 2) w0 w3 := Below.trans (by (repeat' (first | (with_reducible exact Below.refl _ _) | (with_reducible assumption) | (with_reducible refine Below.setCell ?_ ?_ _) | (with_reducible refine Below.alloc ?_ ?_ _) | (with_reducible refine below_drewN ?_ _) | (with_reducible refine Below.drew ?_) | go_size))) (hb.mono (by go_size)); have hz3 : W.heap.size + 2 ≤ w3.heap.size := (by have := hb.size; (try simp at this); omega))
      | (go_at_call 38; (with_reducible refine Calls.mono (HR'.out _) ?_); rintro e w4 ⟨rfl, hb⟩; have hB4 : Below (W.heap.size + 2) w0 w4 := Below.trans (by (repeat' (first | (with_reducible exact Below.refl _ _) | (with_reducible assumption) | (with_reducible refine Below.setCell ?_ ?_ _) | (with_reducible refine Below.alloc ?_ ?_ _) | (with_reducible refine below_drewN ?_ _) | (with_reducible refine Below.drew ?_) | go_size))) (hb.mono (by go_size)); have hz4 : W.heap.size + 2 ≤ w4.heap.size := (by have := hb.size; (try simp at this); omega))
      | (go_at_call 37; (with_reducible refine Calls.mono (hT.out _) ?_); rintro e w5 ⟨rfl, hb⟩; have hB5 : Below (W.heap.size + 2) w0 w5 := Below.trans (by (repeat' (first | (with_reducible exact Below.refl _ _) | (with_reducible assumption) | (with_reducible refine Below.setCell ?_ ?_ _) | (with_reducible refine Below.alloc ?_ ?_ _) | (with_reducible refine below_drewN ?_ _) | (with_reducible refine Below.drew ?_) | go_size))) (hb.mono (by go_size)); have hz5 : W.heap.size + 2 ≤ w5.heap.size := (by have := hb.size; (try simp at this); omega))
      | (go_at_call 39; (with_reducible refine Calls.mono (HW.out _) ?_); rintro e w6 ⟨rfl, hb⟩; have hB6 : Below (W.heap.size + 2) w0 w6 := Below.trans (by (repeat' (first | (with_reducible exact Below.refl _ _) | (with_reducible assumption) | (with_reducible refine Below.setCell ?_ ?_ _) | (with_reducible refine Below.alloc ?_ ?_ _) | (with_reducible refine below_drewN ?_ _) | (with_reducible refine Below.drew ?_) | go_size))) (hb.mono (by go_size)); have hz6 : W.heap.size + 2 ≤ w6.heap.size := (by have := hb.size; (try simp at this); omega))
      | (go_at_call 40; (with_reducible refine Calls.mono (HW'.out _) ?_); rintro e w7 ⟨rfl, hb⟩; have hB7 : Below (W.heap.size + 2) w0 w7 := Below.trans (by (repeat' (first | (with_reducible exact Below.refl _ _) | (with_reducible assumption) | (with_reducible refine Below.setCell ?_ ?_ _) | (with_reducible refine Below.alloc ?_ ?_ _) | (with_reducible refine below_drewN ?_ _) | (with_reducible refine Below.drew ?_) | go_size))) (hb.mono (by go_size)); have hz7 : W.heap.size + 2 ≤ w7.heap.size := (by have := hb.size; (try simp at this); omega)))
  all_goals
    obtain ⟨hc, hf⟩ := bcell hB7
    have k0 := (hc W.heap.size 0 (by omega)).trans k0
    have k1 := (hc W.heap.size 1 (by omega)).trans k1
    have l0 := (hc (W.heap.size + 1) 0 (by omega)).trans l0
    have l1 := (hc (W.heap.size + 1) 1 (by omega)).trans l1
    have g0 := fun o => (hf W.heap.size o (by omega)).trans (g0 o)
    have g1 := fun o => (hf (W.heap.size + 1) o (by omega)).trans (g1 o)
    clear hc hf HR HR' HW HW'
    go_wp2_with fail
    first
      | (go_region_with (first
          | (go_at_call 41; (with_reducible refine Calls.mono (HF0.out _) ?_); rintro e w8 ⟨rfl, hb⟩; have hB8 : Below (W.heap.size + 2) w0 w8 := Below.trans (by (repeat' (first | (with_reducible exact Below.refl _ _) | (with_reducible assumption) | (with_reducible refine Below.setCell ?_ ?_ _) | (with_reducible refine Below.alloc ?_ ?_ _) | (with_reducible refine below_drewN ?_ _) | (with_reducible refine Below.drew ?_) | go_size))) (hb.mono (by go_size)); have hz8 : W.heap.size + 2 ≤ w8.heap.size := (by have := hb.size; (try simp at this); omega); have k0 := ((bcell hb).1 W.heap.size 0 (by go_size)).trans k0; have k1 := ((bcell hb).1 W.heap.size 1 (by go_size)).trans k1; have l0 := ((bcell hb).1 (W.heap.size + 1) 0 (by go_size)).trans l0; have l1 := ((bcell hb).1 (W.heap.size + 1) 1 (by go_size)).trans l1; have g0 := fun o => ((bcell hb).2 W.heap.size o (by go_size)).trans (g0 o); have g1 := fun o => ((bcell hb).2 (W.heap.size + 1) o (by go_size)).trans (g1 o); clear hb)
          | (go_at_call 41; (with_reducible refine Calls.mono (HF1.out _) ?_); rintro e w9 ⟨rfl, hb⟩; have hB9 : Below (W.heap.size + 2) w0 w9 := Below.trans (by (repeat' (first | (with_reducible exact Below.refl _ _) | (with_reducible assumption) | (with_reducible refine Below.setCell ?_ ?_ _) | (with_reducible refine Below.alloc ?_ ?_ _) | (with_reducible refine below_drewN ?_ _) | (with_reducible refine Below.drew ?_) | go_size))) (hb.mono (by go_size)); have hz9 : W.heap.size + 2 ≤ w9.heap.size := (by have := hb.size; (try simp at this); omega); have k0 := ((bcell hb).1 W.heap.size 0 (by go_size)).trans k0; have k1 := ((bcell hb).1 W.heap.size 1 (by go_size)).trans k1; have l0 := ((bcell hb).1 (W.heap.size + 1) 0 (by go_size)).trans l0; have l1 := ((bcell hb).1 (W.heap.size + 1) 1 (by go_size)).trans l1; have g0 := fun o => ((bcell hb).2 W.heap.size o (by go_size)).trans (g0 o); have g1 := fun o => ((bcell hb).2 (W.heap.size + 1) o (by go_size)).trans (g1 o); clear hb)))
      | fail
  all_goals
    clear HF0 HF1
    go_wp2_with fail
    refine (hT0.out _).mono ?_
    rintro e w10 ⟨rfl, hb⟩
    obtain ⟨hc, hf⟩ := bcell hb
    have a0' : w10.cell? ⟨W.heap.size, 0, none⟩ = some (.int .i64 v0) := by rw [hc _ _ (by first | (simp; done) | (simp; omega))]; simp [go_sem, k0]
    have a1' : w10.cell? ⟨W.heap.size, 1, none⟩ = some (.int .u64 m0) := by rw [hc _ _ (by first | (simp; done) | (simp; omega))]; simp [go_sem, k1]
    have b0' : w10.cell? ⟨W.heap.size + 1, 0, none⟩ = some (.int .i64 v1) := by rw [hc _ _ (by first | (simp; done) | (simp; omega))]; simp [go_sem, l0]
    have b1' : w10.cell? ⟨W.heap.size + 1, 1, none⟩ = some (.int .u64 m1) := by rw [hc _ _ (by first | (simp; done) | (simp; omega))]; simp [go_sem, l1]
    have hBb : Below W.heap.size W w9 := hB0.trans (hB9.mono (by omega))
    have hB10 : Below W.heap.size W w10 := Below.trans (by (repeat' (first | (with_reducible exact Below.refl _ _) | (with_reducible assumption) | (with_reducible refine Below.setCell ?_ ?_ _) | (with_reducible refine Below.alloc ?_ ?_ _) | (with_reducible refine below_drewN ?_ _) | (with_reducible refine Below.drew ?_) | go_size))) (hb.mono (by go_size))
    have hz10 : W.heap.size + 2 ≤ w10.heap.size := by have := hb.size; (try simp at this); omega
    clear hc hf hb hBb k0 k1 l0 l1 g0 g1 hB9 hB8 hB7 hB6 hB4 hB3 hB2 hB1 hB0
    go_wp2_with fail
    refine (HW0.out _).mono ?_
    rintro e w11 ⟨rfl, hb⟩
    obtain ⟨hc, hf⟩ := bcell hb
    have a0' := (hc W.heap.size 0 (by omega)).trans a0'
    have a1' := (hc W.heap.size 1 (by omega)).trans a1'
    have b0' := (hc (W.heap.size + 1) 0 (by omega)).trans b0'
    have b1' := (hc (W.heap.size + 1) 1 (by omega)).trans b1'
    have hB11 := hB10.trans (hb.mono (by omega))
    have hz11 := Nat.le_trans hz10 hb.size
    clear hc hf hb hB10
    go_wp2_with fail
    refine (HO.out _).mono ?_
    rintro e w12 ⟨rfl, hb⟩
    obtain ⟨hc, hf⟩ := bcell hb
    have a0' := (hc W.heap.size 0 (by omega)).trans a0'
    have a1' := (hc W.heap.size 1 (by omega)).trans a1'
    have b0' := (hc (W.heap.size + 1) 0 (by omega)).trans b0'
    have b1' := (hc (W.heap.size + 1) 1 (by omega)).trans b1'
    have hB12 := hB11.trans (hb.mono (by omega))
    have hz12 := Nat.le_trans hz11 hb.size
    clear hc hf hb hB11
    go_wp2_with fail
    obtain ⟨w13, hw13⟩ : ∃ w13, w13 = w12.alloc (.cells #[.int .i64 v0, .int .u64 m0] 59) := ⟨_, rfl⟩
    rw [← hw13]
    have a0' : w13.cell? ⟨W.heap.size, 0, none⟩ = some (.int .i64 v0) := by rw [hw13, World.cell?_alloc_lt _ _ _ (by show W.heap.size < _; omega)]; exact a0'
    have a1' : w13.cell? ⟨W.heap.size, 1, none⟩ = some (.int .u64 m0) := by rw [hw13, World.cell?_alloc_lt _ _ _ (by show W.heap.size < _; omega)]; exact a1'
    have b0' : w13.cell? ⟨W.heap.size + 1, 0, none⟩ = some (.int .i64 v1) := by rw [hw13, World.cell?_alloc_lt _ _ _ (by show W.heap.size + 1 < _; omega)]; exact b0'
    have b1' : w13.cell? ⟨W.heap.size + 1, 1, none⟩ = some (.int .u64 m1) := by rw [hw13, World.cell?_alloc_lt _ _ _ (by show W.heap.size + 1 < _; omega)]; exact b1'
    have c0' : w13.cell? ⟨w12.heap.size, 0, none⟩ = some (.int .i64 v0) := by rw [hw13]; simp [go_sem]
    have c1' : w13.cell? ⟨w12.heap.size, 1, none⟩ = some (.int .u64 m0) := by rw [hw13]; simp [go_sem]
    have hB13 : Below W.heap.size W w13 := by rw [hw13]; exact hB12.alloc (by omega) _
    have hz13 : w12.heap.size + 1 ≤ w13.heap.size := by rw [hw13]; simp
    clear hw13 hB12
    rcases (show (v0 = v1 ∧ m0 = m1 ∧ q0 = q1) ∨ (¬ v0 = v1 ∧ ¬ (q0 : Int) = (q1 : Int)) ∨ (v0 = v1 ∧ ¬ m0 = m1 ∧ ¬ (q0 : Int) = (q1 : Int)) by have := HIJ.out; omega) with ⟨rfl, rfl, rfl⟩ | ⟨hv, hq⟩ | ⟨rfl, hm, hq⟩
    all_goals
      clear HIJ
    · go_region_held3 (fun w' => w'.cell? ⟨w12.heap.size, 0, none⟩ = some (.int .i64 v0) ∧ w'.cell? ⟨w12.heap.size, 1, none⟩ = some (.int .u64 m0) ∧ w'.cell? ⟨W.heap.size, 0, none⟩ = some (.int .i64 v0) ∧ w'.cell? ⟨W.heap.size, 1, none⟩ = some (.int .u64 m0) ∧ w'.cell? ⟨W.heap.size + 1, 0, none⟩ = some (.int .i64 v0) ∧ w'.cell? ⟨W.heap.size + 1, 1, none⟩ = some (.int .u64 m0))
        (first | (with_reducible exact keep222 (G := w12.heap.size + 1) (by omega) (by omega) (by omega) (by assumption) (fun p hp => hb.cell (Nat.lt_of_lt_of_le hp (by go_size)))) | go_keep)
        (first
          | (go_at_call 43; (with_reducible refine Calls.mono (hFr.out _) ?_); rintro e w14 ⟨rfl, hb⟩; have hB14 : Below W.heap.size W w14 := Below.trans (by (repeat' (first | (with_reducible exact Below.refl _ _) | (with_reducible assumption) | (with_reducible refine Below.setCell ?_ ?_ _) | (with_reducible refine Below.alloc ?_ ?_ _) | (with_reducible refine below_drewN ?_ _) | (with_reducible refine Below.drew ?_) | go_size))) (hb.mono (by go_size)); have hz14 : w12.heap.size + 1 ≤ w14.heap.size := (by have := hb.size; (try simp at this); omega))
          | (go_at_call 37; (with_reducible refine Calls.mono (hT0.out _) ?_); rintro e w15 ⟨rfl, hb⟩; have hB15 : Below W.heap.size W w15 := Below.trans (by (repeat' (first | (with_reducible exact Below.refl _ _) | (with_reducible assumption) | (with_reducible refine Below.setCell ?_ ?_ _) | (with_reducible refine Below.alloc ?_ ?_ _) | (with_reducible refine below_drewN ?_ _) | (with_reducible refine Below.drew ?_) | go_size))) (hb.mono (by go_size)); have hz15 : w12.heap.size + 1 ≤ w15.heap.size := (by have := hb.size; (try simp at this); omega))
          | (go_at_call 39; (with_reducible refine Calls.mono (HW0.out _) ?_); rintro e w16 ⟨rfl, hb⟩; have hB16 : Below W.heap.size W w16 := Below.trans (by (repeat' (first | (with_reducible exact Below.refl _ _) | (with_reducible assumption) | (with_reducible refine Below.setCell ?_ ?_ _) | (with_reducible refine Below.alloc ?_ ?_ _) | (with_reducible refine below_drewN ?_ _) | (with_reducible refine Below.drew ?_) | go_size))) (hb.mono (by go_size)); have hz16 : w12.heap.size + 1 ≤ w16.heap.size := (by have := hb.size; (try simp at this); omega))
          | (go_at_call 37; (with_reducible refine Calls.mono (hT1.out _) ?_); rintro e w17 ⟨rfl, hb⟩; have hB17 : Below W.heap.size W w17 := Below.trans (by (repeat' (first | (with_reducible exact Below.refl _ _) | (with_reducible assumption) | (with_reducible refine Below.setCell ?_ ?_ _) | (with_reducible refine Below.alloc ?_ ?_ _) | (with_reducible refine below_drewN ?_ _) | (with_reducible refine Below.drew ?_) | go_size))) (hb.mono (by go_size)); have hz17 : w12.heap.size + 1 ≤ w17.heap.size := (by have := hb.size; (try simp at this); omega))
          | (go_at_call 39; (with_reducible refine Calls.mono (HW1.out _) ?_); rintro e w18 ⟨rfl, hb⟩; have hB18 : Below W.heap.size W w18 := Below.trans (by (repeat' (first | (with_reducible exact Below.refl _ _) | (with_reducible assumption) | (with_reducible refine Below.setCell ?_ ?_ _) | (with_reducible refine Below.alloc ?_ ?_ _) | (with_reducible refine below_drewN ?_ _) | (with_reducible refine Below.drew ?_) | go_size))) (hb.mono (by go_size)); have hz18 : w12.heap.size + 1 ≤ w18.heap.size := (by have := hb.size; (try simp at this); omega)))
      all_goals
        go_wp2
        go_ret
        exact ⟨by first | (simp; done) | (simp [hq]; done), by assumption⟩
    · go_region_held3 (fun w' => w'.cell? ⟨w12.heap.size, 0, none⟩ = some (.int .i64 v0) ∧ w'.cell? ⟨w12.heap.size, 1, none⟩ = some (.int .u64 m0) ∧ w'.cell? ⟨W.heap.size, 0, none⟩ = some (.int .i64 v0) ∧ w'.cell? ⟨W.heap.size, 1, none⟩ = some (.int .u64 m0) ∧ w'.cell? ⟨W.heap.size + 1, 0, none⟩ = some (.int .i64 v1) ∧ w'.cell? ⟨W.heap.size + 1, 1, none⟩ = some (.int .u64 m1))
        (first | (with_reducible exact keep222 (G := w12.heap.size + 1) (by omega) (by omega) (by omega) (by assumption) (fun p hp => hb.cell (Nat.lt_of_lt_of_le hp (by go_size)))) | go_keep)
        (first
          | (go_at_call 43; (with_reducible refine Calls.mono (hFr.out _) ?_); rintro e w14 ⟨rfl, hb⟩; have hB14 : Below W.heap.size W w14 := Below.trans (by (repeat' (first | (with_reducible exact Below.refl _ _) | (with_reducible assumption) | (with_reducible refine Below.setCell ?_ ?_ _) | (with_reducible refine Below.alloc ?_ ?_ _) | (with_reducible refine below_drewN ?_ _) | (with_reducible refine Below.drew ?_) | go_size))) (hb.mono (by go_size)); have hz14 : w12.heap.size + 1 ≤ w14.heap.size := (by have := hb.size; (try simp at this); omega))
          | (go_at_call 37; (with_reducible refine Calls.mono (hT0.out _) ?_); rintro e w15 ⟨rfl, hb⟩; have hB15 : Below W.heap.size W w15 := Below.trans (by (repeat' (first | (with_reducible exact Below.refl _ _) | (with_reducible assumption) | (with_reducible refine Below.setCell ?_ ?_ _) | (with_reducible refine Below.alloc ?_ ?_ _) | (with_reducible refine below_drewN ?_ _) | (with_reducible refine Below.drew ?_) | go_size))) (hb.mono (by go_size)); have hz15 : w12.heap.size + 1 ≤ w15.heap.size := (by have := hb.size; (try simp at this); omega))
          | (go_at_call 39; (with_reducible refine Calls.mono (HW0.out _) ?_); rintro e w16 ⟨rfl, hb⟩; have hB16 : Below W.heap.size W w16 := Below.trans (by (repeat' (first | (with_reducible exact Below.refl _ _) | (with_reducible assumption) | (with_reducible refine Below.setCell ?_ ?_ _) | (with_reducible refine Below.alloc ?_ ?_ _) | (with_reducible refine below_drewN ?_ _) | (with_reducible refine Below.drew ?_) | go_size))) (hb.mono (by go_size)); have hz16 : w12.heap.size + 1 ≤ w16.heap.size := (by have := hb.size; (try simp at this); omega))
          | (go_at_call 37; (with_reducible refine Calls.mono (hT1.out _) ?_); rintro e w17 ⟨rfl, hb⟩; have hB17 : Below W.heap.size W w17 := Below.trans (by (repeat' (first | (with_reducible exact Below.refl _ _) | (with_reducible assumption) | (with_reducible refine Below.setCell ?_ ?_ _) | (with_reducible refine Below.alloc ?_ ?_ _) | (with_reducible refine below_drewN ?_ _) | (with_reducible refine Below.drew ?_) | go_size))) (hb.mono (by go_size)); have hz17 : w12.heap.size + 1 ≤ w17.heap.size := (by have := hb.size; (try simp at this); omega))
          | (go_at_call 39; (with_reducible refine Calls.mono (HW1.out _) ?_); rintro e w18 ⟨rfl, hb⟩; have hB18 : Below W.heap.size W w18 := Below.trans (by (repeat' (first | (with_reducible exact Below.refl _ _) | (with_reducible assumption) | (with_reducible refine Below.setCell ?_ ?_ _) | (with_reducible refine Below.alloc ?_ ?_ _) | (with_reducible refine below_drewN ?_ _) | (with_reducible refine Below.drew ?_) | go_size))) (hb.mono (by go_size)); have hz18 : w12.heap.size + 1 ≤ w18.heap.size := (by have := hb.size; (try simp at this); omega)))
      all_goals
        go_wp2
        go_ret
        exact ⟨by first | (simp; done) | (simp [hq]; done), by assumption⟩
    · go_region_held3 (fun w' => w'.cell? ⟨w12.heap.size, 0, none⟩ = some (.int .i64 v0) ∧ w'.cell? ⟨w12.heap.size, 1, none⟩ = some (.int .u64 m0) ∧ w'.cell? ⟨W.heap.size, 0, none⟩ = some (.int .i64 v0) ∧ w'.cell? ⟨W.heap.size, 1, none⟩ = some (.int .u64 m0) ∧ w'.cell? ⟨W.heap.size + 1, 0, none⟩ = some (.int .i64 v0) ∧ w'.cell? ⟨W.heap.size + 1, 1, none⟩ = some (.int .u64 m1))
        (first | (with_reducible exact keep222 (G := w12.heap.size + 1) (by omega) (by omega) (by omega) (by assumption) (fun p hp => hb.cell (Nat.lt_of_lt_of_le hp (by go_size)))) | go_keep)
        (first
          | (go_at_call 43; (with_reducible refine Calls.mono (hFr.out _) ?_); rintro e w14 ⟨rfl, hb⟩; have hB14 : Below W.heap.size W w14 := Below.trans (by (repeat' (first | (with_reducible exact Below.refl _ _) | (with_reducible assumption) | (with_reducible refine Below.setCell ?_ ?_ _) | (with_reducible refine Below.alloc ?_ ?_ _) | (with_reducible refine below_drewN ?_ _) | (with_reducible refine Below.drew ?_) | go_size))) (hb.mono (by go_size)); have hz14 : w12.heap.size + 1 ≤ w14.heap.size := (by have := hb.size; (try simp at this); omega))
          | (go_at_call 37; (with_reducible refine Calls.mono (hT0.out _) ?_); rintro e w15 ⟨rfl, hb⟩; have hB15 : Below W.heap.size W w15 := Below.trans (by (repeat' (first | (with_reducible exact Below.refl _ _) | (with_reducible assumption) | (with_reducible refine Below.setCell ?_ ?_ _) | (with_reducible refine Below.alloc ?_ ?_ _) | (with_reducible refine below_drewN ?_ _) | (with_reducible refine Below.drew ?_) | go_size))) (hb.mono (by go_size)); have hz15 : w12.heap.size + 1 ≤ w15.heap.size := (by have := hb.size; (try simp at this); omega))
          | (go_at_call 39; (with_reducible refine Calls.mono (HW0.out _) ?_); rintro e w16 ⟨rfl, hb⟩; have hB16 : Below W.heap.size W w16 := Below.trans (by (repeat' (first | (with_reducible exact Below.refl _ _) | (with_reducible assumption) | (with_reducible refine Below.setCell ?_ ?_ _) | (with_reducible refine Below.alloc ?_ ?_ _) | (with_reducible refine below_drewN ?_ _) | (with_reducible refine Below.drew ?_) | go_size))) (hb.mono (by go_size)); have hz16 : w12.heap.size + 1 ≤ w16.heap.size := (by have := hb.size; (try simp at this); omega))
          | (go_at_call 37; (with_reducible refine Calls.mono (hT1.out _) ?_); rintro e w17 ⟨rfl, hb⟩; have hB17 : Below W.heap.size W w17 := Below.trans (by (repeat' (first | (with_reducible exact Below.refl _ _) | (with_reducible assumption) | (with_reducible refine Below.setCell ?_ ?_ _) | (with_reducible refine Below.alloc ?_ ?_ _) | (with_reducible refine below_drewN ?_ _) | (with_reducible refine Below.drew ?_) | go_size))) (hb.mono (by go_size)); have hz17 : w12.heap.size + 1 ≤ w17.heap.size := (by have := hb.size; (try simp at this); omega))
          | (go_at_call 39; (with_reducible refine Calls.mono (HW1.out _) ?_); rintro e w18 ⟨rfl, hb⟩; have hB18 : Below W.heap.size W w18 := Below.trans (by (repeat' (first | (with_reducible exact Below.refl _ _) | (with_reducible assumption) | (with_reducible refine Below.setCell ?_ ?_ _) | (with_reducible refine Below.alloc ?_ ?_ _) | (with_reducible refine below_drewN ?_ _) | (with_reducible refine Below.drew ?_) | go_size))) (hb.mono (by go_size)); have hz18 : w12.heap.size + 1 ≤ w18.heap.size := (by have := hb.size; (try simp at this); omega)))
      all_goals
        go_wp2
        go_ret
        exact ⟨by first | (simp; done) | (simp [hq]; done), by assumption⟩

set_option maxRecDepth 100000 in
/-- What the walk gives, for every argument: the row's own words. -/
theorem contract (H : Type) (enc : TypeId × Value → H) (W : World) (base : Nat) (args : Array Value) (ds gs : List (DataW H)) (before : List MemPlace)
    (hval : ∀ (j : Nat) t v, Try.f9.params[j]? = some t → args[j]? = some v → Value.okWide Try.prog W .any base t v)
    (hW : DataW.Whole enc Try.prog Try.f9.params.toList Rows.keyWordsSpec.vars false W args.toList ds gs before) :
    Calls Try.prog 9 args W fun e W' => ∃ v, e = .returned v ∧ Rows.keyWordsSpec.post enc Try.prog Try.f9 false true false false W args v W' := by
  have hW' := hW
  obtain ⟨p, q, hA0, hV, rfl, hfz, hnd⟩ := hW
  have hA : DataW.TrodAll enc Try.prog W 0 (fun _ => true) true Try.f9.params.toList args.toList ds p := hA0
  rw [Try.params9] at hA hval
  obtain ⟨v0, vs0, d0, ds0, p0, q0, hargs, rfl, rfl, h0, r0⟩ := trodAll_cons hA
  obtain ⟨v1, vs1, d1, ds1, p1, q1, rfl, rfl, rfl, h1, r1⟩ := trodAll_cons r0
  obtain ⟨rfl, rfl, rfl⟩ := trodAll_nil r1
  obtain rfl : args = #[v0, v1] := by cases args; simp_all
  obtain ⟨a0, e0, rfl, b0, c0⟩ := open_key Try.underlying55 (t0 := 3) (t1 := 22) (by kernel_rfl) (by kernel_rfl) (by kernel_rfl) (by kernel_rfl) (hval 0 55 v0 rfl rfl) h0
  obtain ⟨a1, e1, rfl, b1, c1⟩ := open_key Try.underlying55 (t0 := 3) (t1 := 22) (by kernel_rfl) (by kernel_rfl) (by kernel_rfl) (by kernel_rfl) (hval 1 55 v1 rfl rfl) h1
  refine (walk W a0 e0 b0 c0 a1 e1 b1 c1).mono fun e W' ⟨he, hb⟩ => ?_
  subst he
  exact close_true (by kernel_rfl) Try.underlying4 (by kernel_rfl) (by kernel_rfl) rfl rfl hW' hb

set_option maxRecDepth 100000 in
theorem lifted (os : Os) (started : os.Started) (H : Type) (enc : TypeId × Value → H) :
    ReturnsInHanded {} Try.checked os 9 .any (Rows.keyWordsSpec.pre6 enc Try.prog Try.f9 Rows.keyWordsRow.domain false) (Rows.keyWordsSpec.post enc Try.prog Try.f9 false true false false) := by
  refine returnsInHanded_of_change (C := Try.checked) own started (by kernel_rfl) Try.func9
    (ChangeSpec.witness6 (enc := enc) (C := Try.checked) false ⟨#[], #[.agg #[.int .i64 0, .int .u64 0], .agg #[.int .i64 0, .int .u64 0]], []⟩ 8 (by kernel_rfl) (by kernel_rfl) (by kernel_rfl) (by kernel_rfl)) ?_
  intro W base args ds gs before hval hW _ _
  exact contract H enc W base args ds gs before hval hW

theorem proved : Rows.KeyWordsSaid :=
  OpenClaim.holds_of_wide 9 Try.f9 rfl rfl rfl rfl rfl rfl rfl ⟨rfl, rfl, rfl, rfl, rfl⟩ rfl rfl rfl rfl rfl (by kernel_rfl) Try.func9 (by kernel_rfl)
    (of_decide_eq_true (by kernel_rfl)) (by unfold Func.isWrapper; first | (rw [if_pos (by decide +kernel)]; kernel_rfl) | (rw [if_neg (by decide +kernel)]; exact ⟨rfl, rfl⟩))
    (fun os started H enc _ => lifted os started H enc)
#print axioms proved
end Go.Proofs.Ytlkajgkcadbboaa.keyWords
