/-
  Of all entries the program tells whether they may be, and their words, as the document tells; by them each one that may be comes back, and two that may be have the same ones just if they are equal. No condition.
-/
import Derived.Test.YtlkajgkcadbboaaRows
import Derived.Test.YtlkajgkcadbboaaSlotC
import Derived.Test.YtlkajgkcadbboaaOpenFl
import Derived.Deep.RegionHeld3
import Derived.WalkKit
import Derived.ProofKit
import Derived.OpenShut
namespace Go.Proofs.Ytlkajgkcadbboaa.slotWords
open Go.ChangeShapes Go.WideShapes Go.ChangeAt Go.RowKit
open Go.ChangeMaps (open_string)
set_option linter.unusedVariables false

theorem own : ownKnob Try.prog.godebug = none := by kernel_rfl
theorem keep55f {w w' : World} {G b0 b1 : Nat} {u0 u1 u2 u3 u4 v0 v1 v2 v3 v4 : Value} (hb0 : b0 < G) (hb1 : b1 < G) (h : w.cell? ⟨b0, 0, none⟩ = some u0 ∧ w.cell? ⟨b0, 1, none⟩ = some u1 ∧ w.cell? ⟨b0, 2, none⟩ = some u2 ∧ w.cell? ⟨b0, 3, none⟩ = some u3 ∧ w.cell? ⟨b0, 4, none⟩ = some u4 ∧ w.cell? ⟨b1, 0, none⟩ = some v0 ∧ w.cell? ⟨b1, 1, none⟩ = some v1 ∧ w.cell? ⟨b1, 2, none⟩ = some v2 ∧ w.cell? ⟨b1, 3, none⟩ = some v3 ∧ w.cell? ⟨b1, 4, none⟩ = some v4 ∧ (∀ o, w.frozen? ⟨b0, o, none⟩ = false) ∧ (∀ o, w.frozen? ⟨b1, o, none⟩ = false))
    (hk : ∀ p : Addr, p.block < G → w'.cell? p = w.cell? p) (hf : ∀ p : Addr, p.block < G → w'.frozen? p = w.frozen? p) :
    w'.cell? ⟨b0, 0, none⟩ = some u0 ∧ w'.cell? ⟨b0, 1, none⟩ = some u1 ∧ w'.cell? ⟨b0, 2, none⟩ = some u2 ∧ w'.cell? ⟨b0, 3, none⟩ = some u3 ∧ w'.cell? ⟨b0, 4, none⟩ = some u4 ∧ w'.cell? ⟨b1, 0, none⟩ = some v0 ∧ w'.cell? ⟨b1, 1, none⟩ = some v1 ∧ w'.cell? ⟨b1, 2, none⟩ = some v2 ∧ w'.cell? ⟨b1, 3, none⟩ = some v3 ∧ w'.cell? ⟨b1, 4, none⟩ = some v4 ∧ (∀ o, w'.frozen? ⟨b0, o, none⟩ = false) ∧ (∀ o, w'.frozen? ⟨b1, o, none⟩ = false) := by
  obtain ⟨h0, h1, h2, h3, h4, h5, h6, h7, h8, h9, h10, h11⟩ := h
  exact ⟨(hk _ hb0).trans h0, (hk _ hb0).trans h1, (hk _ hb0).trans h2, (hk _ hb0).trans h3, (hk _ hb0).trans h4, (hk _ hb1).trans h5, (hk _ hb1).trans h6, (hk _ hb1).trans h7, (hk _ hb1).trans h8, (hk _ hb1).trans h9, fun o => (hf _ hb0).trans (h10 o), fun o => (hf _ hb1).trans (h11 o)⟩
theorem keep555 {w w' : World} {G b0 b1 b2 : Nat} {v00 v01 v02 v03 v04 v10 v11 v12 v13 v14 v20 v21 v22 v23 v24 : Value} (hb0 : b0 < G) (hb1 : b1 < G) (hb2 : b2 < G) (h : w.cell? ⟨b0, 0, none⟩ = some v00 ∧ w.cell? ⟨b0, 1, none⟩ = some v01 ∧ w.cell? ⟨b0, 2, none⟩ = some v02 ∧ w.cell? ⟨b0, 3, none⟩ = some v03 ∧ w.cell? ⟨b0, 4, none⟩ = some v04 ∧ w.cell? ⟨b1, 0, none⟩ = some v10 ∧ w.cell? ⟨b1, 1, none⟩ = some v11 ∧ w.cell? ⟨b1, 2, none⟩ = some v12 ∧ w.cell? ⟨b1, 3, none⟩ = some v13 ∧ w.cell? ⟨b1, 4, none⟩ = some v14 ∧ w.cell? ⟨b2, 0, none⟩ = some v20 ∧ w.cell? ⟨b2, 1, none⟩ = some v21 ∧ w.cell? ⟨b2, 2, none⟩ = some v22 ∧ w.cell? ⟨b2, 3, none⟩ = some v23 ∧ w.cell? ⟨b2, 4, none⟩ = some v24) (hk : ∀ p : Addr, p.block < G → w'.cell? p = w.cell? p) :
    w'.cell? ⟨b0, 0, none⟩ = some v00 ∧ w'.cell? ⟨b0, 1, none⟩ = some v01 ∧ w'.cell? ⟨b0, 2, none⟩ = some v02 ∧ w'.cell? ⟨b0, 3, none⟩ = some v03 ∧ w'.cell? ⟨b0, 4, none⟩ = some v04 ∧ w'.cell? ⟨b1, 0, none⟩ = some v10 ∧ w'.cell? ⟨b1, 1, none⟩ = some v11 ∧ w'.cell? ⟨b1, 2, none⟩ = some v12 ∧ w'.cell? ⟨b1, 3, none⟩ = some v13 ∧ w'.cell? ⟨b1, 4, none⟩ = some v14 ∧ w'.cell? ⟨b2, 0, none⟩ = some v20 ∧ w'.cell? ⟨b2, 1, none⟩ = some v21 ∧ w'.cell? ⟨b2, 2, none⟩ = some v22 ∧ w'.cell? ⟨b2, 3, none⟩ = some v23 ∧ w'.cell? ⟨b2, 4, none⟩ = some v24 :=
  ⟨(hk ⟨b0, 0, none⟩ hb0).trans h.1, (hk ⟨b0, 1, none⟩ hb0).trans h.2.1, (hk ⟨b0, 2, none⟩ hb0).trans h.2.2.1, (hk ⟨b0, 3, none⟩ hb0).trans h.2.2.2.1, (hk ⟨b0, 4, none⟩ hb0).trans h.2.2.2.2.1, (hk ⟨b1, 0, none⟩ hb1).trans h.2.2.2.2.2.1, (hk ⟨b1, 1, none⟩ hb1).trans h.2.2.2.2.2.2.1, (hk ⟨b1, 2, none⟩ hb1).trans h.2.2.2.2.2.2.2.1, (hk ⟨b1, 3, none⟩ hb1).trans h.2.2.2.2.2.2.2.2.1, (hk ⟨b1, 4, none⟩ hb1).trans h.2.2.2.2.2.2.2.2.2.1, (hk ⟨b2, 0, none⟩ hb2).trans h.2.2.2.2.2.2.2.2.2.2.1, (hk ⟨b2, 1, none⟩ hb2).trans h.2.2.2.2.2.2.2.2.2.2.2.1, (hk ⟨b2, 2, none⟩ hb2).trans h.2.2.2.2.2.2.2.2.2.2.2.2.1, (hk ⟨b2, 3, none⟩ hb2).trans h.2.2.2.2.2.2.2.2.2.2.2.2.2.1, (hk ⟨b2, 4, none⟩ hb2).trans h.2.2.2.2.2.2.2.2.2.2.2.2.2.2⟩

set_option maxHeartbeats 6400000 in
theorem walk (W : World) (a0 : Int) (e0 : Nat) (p0 : Int) (s0 : Bool) (k0 : Nat) (b0 : -9223372036854775808 ≤ a0 ∧ a0 ≤ 9223372036854775807) (c0 : e0 < 18446744073709551616) (bp0 : -9223372036854775808 ≤ p0 ∧ p0 ≤ 9223372036854775807) (bk0 : k0 < 4294967296) (a1 : Int) (e1 : Nat) (p1 : Int) (s1 : Bool) (k1 : Nat) (b1 : -9223372036854775808 ≤ a1 ∧ a1 ≤ 9223372036854775807) (c1 : e1 < 18446744073709551616) (bp1 : -9223372036854775808 ≤ p1 ∧ p1 ≤ 9223372036854775807) (bk1 : k1 < 4294967296) :
    Calls Try.prog 12 #[.agg #[.int .i64 a0, .int .u64 (e0 : Int), .int .i64 p0, .bool s0, .int .u32 (k0 : Int)], .agg #[.int .i64 a1, .int .u64 (e1 : Int), .int .i64 p1, .bool s1, .int .u32 (k1 : Int)]] W (Says (.bool true) W) := by
  have hT := Lib.hid fun W => law9_To a0 (e0 : Int) p0 s0 (k0 : Int) W
  have hRp := fun W => slot_Right a0 e0 c0 p0 s0 k0 bk0 W
  have hRr := fun W => ref9_Right a0 e0 c0 p0 s0 k0 bk0 W
  have hWp := fun W => slot_Words a0 e0 c0 p0 s0 k0 bk0 W
  have hWr := fun W => ref9_Words a0 e0 c0 p0 s0 k0 bk0 W
  have hF0 := fun W => ref9_Fix a0 e0 c0 p0 s0 k0 bk0 W
  have hF1 := fun W => ref9_Fix a1 e1 c1 p1 s1 k1 bk1 W
  have r0 := fixE_right ⟨a0, e0, p0, s0, k0⟩
  have r1 := fixE_right ⟨a1, e1, p1, s1, k1⟩
  have t0 := fixE_stamp (e := ⟨a0, e0, p0, s0, k0⟩) bk0
  have t1 := fixE_stamp (e := ⟨a1, e1, p1, s1, k1⟩) bk1
  change rightE ⟨fixV a0, fixM e0, p0 % 18446744073709551616 % 64, s0, if s0 = true then 0 else k0⟩ = true at r0
  change rightE ⟨fixV a1, fixM e1, p1 % 18446744073709551616 % 64, s1, if s1 = true then 0 else k1⟩ = true at r1
  change (if s0 = true then 0 else k0) < 4294967296 at t0
  change (if s1 = true then 0 else k1) < 4294967296 at t1
  have l0 := fixM_lt e0
  have l1 := fixM_lt e1
  generalize rightE ⟨a0, e0, p0, s0, k0⟩ = rr at *
  generalize wordA ⟨a0, e0, p0, s0, k0⟩ = wa at *
  generalize wordB ⟨a0, e0, p0, s0, k0⟩ = wb at *
  generalize fixV a0 = v0 at *
  generalize fixM e0 = n0 at *
  generalize p0 % 18446744073709551616 % 64 = q0 at *
  generalize (if s0 = true then 0 else k0) = d0 at *
  generalize fixV a1 = v1 at *
  generalize fixM e1 = n1 at *
  generalize p1 % 18446744073709551616 % 64 = q1 at *
  generalize (if s1 = true then 0 else k1) = d1 at *
  have HT0 := Lib.hid fun W => law9_To v0 (n0 : Int) q0 s0 (d0 : Int) W
  have HT1 := Lib.hid fun W => law9_To v1 (n1 : Int) q1 s1 (d1 : Int) W
  have hW0 := fun W => slot_Words v0 n0 (by omega) q0 s0 d0 t0 W
  have hW1 := fun W => slot_Words v1 n1 (by omega) q1 s1 d1 t1 W
  obtain ⟨ho, hen⟩ := of_words r0 t0
  have hla := lowN_lt r0 t0
  have hO := fun W => slot_Of (wordA ⟨v0, n0, q0, s0, d0⟩) (wordB ⟨v0, n0, q0, s0, d0⟩) (by unfold wordA; rw [if_pos r0]; exact wordN_lt _ _) (by unfold wordB; rw [if_pos r0]; exact hla) W
  rw [slotT_yes ho] at hO
  unfold entW at hen
  injection hen with i1 i2 i3 i4 i5
  rw [i1, i2, i3, i4, i5] at hO
  have HFr := Lib.hid fun W => law9_From v0 (n0 : Int) q0 s0 (d0 : Int) W
  have hij := words_inj r0 r1 t0 t1
  have hwA : wordA ⟨v0, n0, q0, s0, d0⟩ = wordA ⟨v1, n1, q1, s1, d1⟩ ↔ (v0 = v1 ∧ n0 = n1) := by
    unfold wordA; rw [if_pos r0, if_pos r1]; exact word_inj (rightE_iff.1 r0).1 (rightE_iff.1 r1).1
  clear ho hla i1 i2 i3 i4 i5 r0 r1 t0 t1 l0 l1 b0 c0 bp0 bk0 b1 c1 bp1 bk1
  have HD : Hid ((v0 = v1 ∧ (n0 : Int) = (n1 : Int) ∧ q0 = q1 ∧ s0 = s1 ∧ (d0 : Int) = (d1 : Int) ∧ (wordA ⟨v0, n0, q0, s0, d0⟩ : Int) = (wordA ⟨v1, n1, q1, s1, d1⟩ : Int) ∧ (wordB ⟨v0, n0, q0, s0, d0⟩ : Int) = (wordB ⟨v1, n1, q1, s1, d1⟩ : Int)) ∨ (¬ v0 = v1 ∧ ¬ (wordA ⟨v0, n0, q0, s0, d0⟩ : Int) = (wordA ⟨v1, n1, q1, s1, d1⟩ : Int)) ∨ (v0 = v1 ∧ ¬ (n0 : Int) = (n1 : Int) ∧ ¬ (wordA ⟨v0, n0, q0, s0, d0⟩ : Int) = (wordA ⟨v1, n1, q1, s1, d1⟩ : Int)) ∨ (v0 = v1 ∧ (n0 : Int) = (n1 : Int) ∧ (wordA ⟨v0, n0, q0, s0, d0⟩ : Int) = (wordA ⟨v1, n1, q1, s1, d1⟩ : Int) ∧ ¬ q0 = q1 ∧ ¬ (wordB ⟨v0, n0, q0, s0, d0⟩ : Int) = (wordB ⟨v1, n1, q1, s1, d1⟩ : Int)) ∨ (v0 = v1 ∧ (n0 : Int) = (n1 : Int) ∧ (wordA ⟨v0, n0, q0, s0, d0⟩ : Int) = (wordA ⟨v1, n1, q1, s1, d1⟩ : Int) ∧ q0 = q1 ∧ ¬ s0 = s1 ∧ ¬ (wordB ⟨v0, n0, q0, s0, d0⟩ : Int) = (wordB ⟨v1, n1, q1, s1, d1⟩ : Int)) ∨ (v0 = v1 ∧ (n0 : Int) = (n1 : Int) ∧ (wordA ⟨v0, n0, q0, s0, d0⟩ : Int) = (wordA ⟨v1, n1, q1, s1, d1⟩ : Int) ∧ q0 = q1 ∧ s0 = s1 ∧ ¬ (d0 : Int) = (d1 : Int) ∧ ¬ (wordB ⟨v0, n0, q0, s0, d0⟩ : Int) = (wordB ⟨v1, n1, q1, s1, d1⟩ : Int))) := by
    show _ ∨ _
    rw [En.mk.injEq] at hij
    generalize wordA ⟨v0, n0, q0, s0, d0⟩ = A0 at *
    generalize wordB ⟨v0, n0, q0, s0, d0⟩ = B0 at *
    generalize wordA ⟨v1, n1, q1, s1, d1⟩ = A1 at *
    generalize wordB ⟨v1, n1, q1, s1, d1⟩ = B1 at *
    simp only [Int.ofNat_inj]
    by_cases z1 : v0 = v1 <;> by_cases z2 : n0 = n1 <;> by_cases z3 : q0 = q1 <;> by_cases z4 : s0 = s1 <;> by_cases z5 : d0 = d1 <;> simp_all
  generalize wordA ⟨v0, n0, q0, s0, d0⟩ = A0 at *
  generalize wordB ⟨v0, n0, q0, s0, d0⟩ = B0 at *
  generalize wordA ⟨v1, n1, q1, s1, d1⟩ = A1 at *
  generalize wordB ⟨v1, n1, q1, s1, d1⟩ = B1 at *
  clear hij hwA
  have HT := hT
  have HRp := Lib.hid hRp
  have HRr := Lib.hid hRr
  have HWp := Lib.hid hWp
  have HWr := Lib.hid hWr
  have HF0 := Lib.hid hF0
  have HF1 := Lib.hid hF1
  have HW0 := Lib.hid hW0
  have HW1 := Lib.hid hW1
  have HO := Lib.hid hO
  clear hT hRp hRr hWp hWr hF0 hF1 hW0 hW1 hO
  generalize (n0 : Int) = m0 at *
  generalize (n1 : Int) = m1 at *
  generalize (d0 : Int) = t0 at *
  generalize (d1 : Int) = t1 at *
  generalize (A0 : Int) = A0 at *
  generalize (A1 : Int) = A1 at *
  generalize (B0 : Int) = B0 at *
  generalize (B1 : Int) = B1 at *
  go_enter Try.func12, Try.ntmps12
  go_wp2_with fail
  obtain ⟨w0, hw0⟩ : ∃ w0, w0 = (W.alloc (.cells #[.int .i64 a0, .int .u64 (e0 : Int), .int .i64 p0, .bool s0, .int .u32 (k0 : Int)] 77)).alloc (.cells #[.int .i64 a1, .int .u64 (e1 : Int), .int .i64 p1, .bool s1, .int .u32 (k1 : Int)] 77) := ⟨_, rfl⟩
  rw [← hw0]
  have hz0 : W.heap.size + 2 ≤ w0.heap.size := by rw [hw0]; simp
  have hB0 : Below W.heap.size W w0 := by rw [hw0]; exact (by (repeat' (first | (with_reducible exact Below.refl _ _) | (with_reducible assumption) | (with_reducible refine Below.setCell ?_ ?_ _) | (with_reducible refine Below.alloc ?_ ?_ _) | (with_reducible refine below_drewN ?_ _) | (with_reducible refine Below.drew ?_) | go_size)))
  have x0 : w0.cell? ⟨W.heap.size, 0, none⟩ = some (.int .i64 a0) := by rw [hw0]; simp [go_sem]
  have x1 : w0.cell? ⟨W.heap.size, 1, none⟩ = some (.int .u64 (e0 : Int)) := by rw [hw0]; simp [go_sem]
  have x2 : w0.cell? ⟨W.heap.size, 2, none⟩ = some (.int .i64 p0) := by rw [hw0]; simp [go_sem]
  have x3 : w0.cell? ⟨W.heap.size, 3, none⟩ = some (.bool s0) := by rw [hw0]; simp [go_sem]
  have x4 : w0.cell? ⟨W.heap.size, 4, none⟩ = some (.int .u32 (k0 : Int)) := by rw [hw0]; simp [go_sem]
  have y0 : w0.cell? ⟨W.heap.size + 1, 0, none⟩ = some (.int .i64 a1) := by rw [hw0]; simp [go_sem]
  have y1 : w0.cell? ⟨W.heap.size + 1, 1, none⟩ = some (.int .u64 (e1 : Int)) := by rw [hw0]; simp [go_sem]
  have y2 : w0.cell? ⟨W.heap.size + 1, 2, none⟩ = some (.int .i64 p1) := by rw [hw0]; simp [go_sem]
  have y3 : w0.cell? ⟨W.heap.size + 1, 3, none⟩ = some (.bool s1) := by rw [hw0]; simp [go_sem]
  have y4 : w0.cell? ⟨W.heap.size + 1, 4, none⟩ = some (.int .u32 (k1 : Int)) := by rw [hw0]; simp [go_sem]
  have g0 : ∀ o, w0.frozen? ⟨W.heap.size, o, none⟩ = false := fun o => by rw [hw0]; simp [go_sem]
  have g1 : ∀ o, w0.frozen? ⟨W.heap.size + 1, o, none⟩ = false := fun o => by rw [hw0]; simp [go_sem]
  clear hw0
  go_wp2_with fail
  refine (HT.out _).mono ?_
  rintro e w1 ⟨rfl, hb⟩
  have x0 := ((bcell hb).1 W.heap.size 0 (by go_size)).trans x0
  have x1 := ((bcell hb).1 W.heap.size 1 (by go_size)).trans x1
  have x2 := ((bcell hb).1 W.heap.size 2 (by go_size)).trans x2
  have x3 := ((bcell hb).1 W.heap.size 3 (by go_size)).trans x3
  have x4 := ((bcell hb).1 W.heap.size 4 (by go_size)).trans x4
  have y0 := ((bcell hb).1 (W.heap.size + 1) 0 (by go_size)).trans y0
  have y1 := ((bcell hb).1 (W.heap.size + 1) 1 (by go_size)).trans y1
  have y2 := ((bcell hb).1 (W.heap.size + 1) 2 (by go_size)).trans y2
  have y3 := ((bcell hb).1 (W.heap.size + 1) 3 (by go_size)).trans y3
  have y4 := ((bcell hb).1 (W.heap.size + 1) 4 (by go_size)).trans y4
  have g0 := fun o => ((bcell hb).2 W.heap.size o (by go_size)).trans (g0 o)
  have g1 := fun o => ((bcell hb).2 (W.heap.size + 1) o (by go_size)).trans (g1 o)
  have hB1 : Below W.heap.size W w1 := Below.trans (by (repeat' (first | (with_reducible exact Below.refl _ _) | (with_reducible assumption) | (with_reducible refine Below.setCell ?_ ?_ _) | (with_reducible refine Below.alloc ?_ ?_ _) | (with_reducible refine below_drewN ?_ _) | (with_reducible refine Below.drew ?_) | go_size))) (hb.mono (by go_size))
  have hz1 : W.heap.size + 2 ≤ w1.heap.size := by have := hb.size; (try simp at this); omega
  clear hb
  go_wp2_with fail
  refine (HWp.out _).mono ?_
  rintro e w2 ⟨rfl, hb⟩
  have x0 := ((bcell hb).1 W.heap.size 0 (by go_size)).trans x0
  have x1 := ((bcell hb).1 W.heap.size 1 (by go_size)).trans x1
  have x2 := ((bcell hb).1 W.heap.size 2 (by go_size)).trans x2
  have x3 := ((bcell hb).1 W.heap.size 3 (by go_size)).trans x3
  have x4 := ((bcell hb).1 W.heap.size 4 (by go_size)).trans x4
  have y0 := ((bcell hb).1 (W.heap.size + 1) 0 (by go_size)).trans y0
  have y1 := ((bcell hb).1 (W.heap.size + 1) 1 (by go_size)).trans y1
  have y2 := ((bcell hb).1 (W.heap.size + 1) 2 (by go_size)).trans y2
  have y3 := ((bcell hb).1 (W.heap.size + 1) 3 (by go_size)).trans y3
  have y4 := ((bcell hb).1 (W.heap.size + 1) 4 (by go_size)).trans y4
  have g0 := fun o => ((bcell hb).2 W.heap.size o (by go_size)).trans (g0 o)
  have g1 := fun o => ((bcell hb).2 (W.heap.size + 1) o (by go_size)).trans (g1 o)
  have hB2 : Below W.heap.size W w2 := Below.trans (by (repeat' (first | (with_reducible exact Below.refl _ _) | (with_reducible assumption) | (with_reducible refine Below.setCell ?_ ?_ _) | (with_reducible refine Below.alloc ?_ ?_ _) | (with_reducible refine below_drewN ?_ _) | (with_reducible refine Below.drew ?_) | go_size))) (hb.mono (by go_size))
  have hz2 : W.heap.size + 2 ≤ w2.heap.size := by have := hb.size; (try simp at this); omega
  clear hb
  go_wp2_with fail
  refine (HWr.out _).mono ?_
  rintro e w3 ⟨rfl, hb⟩
  have x0 := ((bcell hb).1 W.heap.size 0 (by go_size)).trans x0
  have x1 := ((bcell hb).1 W.heap.size 1 (by go_size)).trans x1
  have x2 := ((bcell hb).1 W.heap.size 2 (by go_size)).trans x2
  have x3 := ((bcell hb).1 W.heap.size 3 (by go_size)).trans x3
  have x4 := ((bcell hb).1 W.heap.size 4 (by go_size)).trans x4
  have y0 := ((bcell hb).1 (W.heap.size + 1) 0 (by go_size)).trans y0
  have y1 := ((bcell hb).1 (W.heap.size + 1) 1 (by go_size)).trans y1
  have y2 := ((bcell hb).1 (W.heap.size + 1) 2 (by go_size)).trans y2
  have y3 := ((bcell hb).1 (W.heap.size + 1) 3 (by go_size)).trans y3
  have y4 := ((bcell hb).1 (W.heap.size + 1) 4 (by go_size)).trans y4
  have g0 := fun o => ((bcell hb).2 W.heap.size o (by go_size)).trans (g0 o)
  have g1 := fun o => ((bcell hb).2 (W.heap.size + 1) o (by go_size)).trans (g1 o)
  have hB3 : Below W.heap.size W w3 := Below.trans (by (repeat' (first | (with_reducible exact Below.refl _ _) | (with_reducible assumption) | (with_reducible refine Below.setCell ?_ ?_ _) | (with_reducible refine Below.alloc ?_ ?_ _) | (with_reducible refine below_drewN ?_ _) | (with_reducible refine Below.drew ?_) | go_size))) (hb.mono (by go_size))
  have hz3 : W.heap.size + 2 ≤ w3.heap.size := by have := hb.size; (try simp at this); omega
  clear hb
  go_wp2_with fail
  refine wp_region_held_drew (S := fun w' => w'.cell? ⟨W.heap.size, 0, none⟩ = some (.int .i64 a0) ∧ w'.cell? ⟨W.heap.size, 1, none⟩ = some (.int .u64 (e0 : Int)) ∧ w'.cell? ⟨W.heap.size, 2, none⟩ = some (.int .i64 p0) ∧ w'.cell? ⟨W.heap.size, 3, none⟩ = some (.bool s0) ∧ w'.cell? ⟨W.heap.size, 4, none⟩ = some (.int .u32 (k0 : Int)) ∧ w'.cell? ⟨W.heap.size + 1, 0, none⟩ = some (.int .i64 a1) ∧ w'.cell? ⟨W.heap.size + 1, 1, none⟩ = some (.int .u64 (e1 : Int)) ∧ w'.cell? ⟨W.heap.size + 1, 2, none⟩ = some (.int .i64 p1) ∧ w'.cell? ⟨W.heap.size + 1, 3, none⟩ = some (.bool s1) ∧ w'.cell? ⟨W.heap.size + 1, 4, none⟩ = some (.int .u32 (k1 : Int)) ∧ (∀ o, w'.frozen? ⟨W.heap.size, o, none⟩ = false) ∧ (∀ o, w'.frozen? ⟨W.heap.size + 1, o, none⟩ = false)) (by kernel_rfl) ?_ (fun hHeld => ?_)
  · exact ⟨x0, x1, x2, x3, x4, y0, y1, y2, y3, y4, g0, g1⟩
  refine wpAnyH_ready (rs := [0]) (by kernel_rfl) (by simp) ?_
  refine AllReadyH.cons (o := { dst := some 22, op := Go.Op.call { callee := Go.Callee.value (Go.Operand.func 50), args := #[], argTypes := #[] }, type := 4, pos := "law.go:30", after := #[], guard := none }) rfl (fun K hK => ?_) AllReadyH.nil
  go_simp
  refine Calls.mono (told09 _) ?_
  rintro e w4 ⟨rfl, hb⟩
  have hB4 : Below W.heap.size W w4 := Below.trans (by (repeat' (first | (with_reducible exact Below.refl _ _) | (with_reducible assumption) | (with_reducible refine Below.setCell ?_ ?_ _) | (with_reducible refine Below.alloc ?_ ?_ _) | (with_reducible refine below_drewN ?_ _) | (with_reducible refine Below.drew ?_) | go_size))) (hb.mono (by go_size))
  have hz4 : W.heap.size + 2 ≤ w4.heap.size := (by have := hb.size; (try simp at this); omega)
  refine hK.out _ _ ?_ (fun hHeld => ?_)
  · (try dsimp only)
    exact keep55f (G := W.heap.size + 2) (by omega) (by omega) (by assumption) (fun p hp => hb.cell (Nat.lt_of_lt_of_le hp (by go_size))) (fun p hp => hb.frozen (Nat.lt_of_lt_of_le hp (by go_size)))
  clear hK K
  (try simp only [Act.put, List.setIfInBounds_toArray, List.set_cons_zero, List.set_cons_succ])
  refine wpAnyH_take (i := 1) (oi := { dst := some 23, op := Go.Op.unOp Go.UnOp.not 4 (Go.Operand.tmp 22), type := 4, pos := "law.go:30", after := #[{ on := 0, ground := Go.Ground.data }], guard := none }) (v := ?_) rfl (by kernel_rfl) (by kernel_rfl) (by kernel_rfl) (fun _ _ _ h => h) (Or.inl ⟨by rfl, ?_⟩) (by assumption) ?_
  rotate_left
  · intro w hSw
    (try dsimp only at hSw)
    go_simp
    try with_reducible rfl
  (try simp only [Act.put, List.setIfInBounds_toArray, List.set_cons_zero, List.set_cons_succ])
  refine wpAnyH_take (i := 2) (oi := { dst := some 24, op := Go.Op.move (Go.Operand.tmp 23), type := 4, pos := "law.go:30", after := #[{ on := 1, ground := Go.Ground.data }, { on := 0, ground := Go.Ground.chain }], guard := none }) (v := ?_) rfl (by kernel_rfl) (by kernel_rfl) (by kernel_rfl) (fun _ _ _ h => h) (Or.inl ⟨by rfl, ?_⟩) (by assumption) ?_
  rotate_left
  · intro w hSw
    (try dsimp only at hSw)
    go_simp
    try with_reducible rfl
  (try simp only [Act.put, List.setIfInBounds_toArray, List.set_cons_zero, List.set_cons_succ])
  refine wpAnyH_take (i := 3) (oi := { dst := some 25, op := Go.Op.load 77 (Go.Operand.tmp 2), type := 77, pos := "law.go:30", after := #[{ on := 2, ground := Go.Ground.guard }], guard := some (2, false) }) (v := ?_) rfl (by kernel_rfl) (by kernel_rfl) (by kernel_rfl) (fun _ _ _ h => h) (Or.inl ⟨by rfl, ?_⟩) (by assumption) ?_
  rotate_left
  · intro w hSw
    (try dsimp only at hSw)
    go_simp
    try with_reducible rfl
  (try simp only [Act.put, List.setIfInBounds_toArray, List.set_cons_zero, List.set_cons_succ])
  refine wpAnyH_take (i := 6) (oi := { dst := some 28, op := Go.Op.load 77 (Go.Operand.tmp 2), type := 77, pos := "law.go:30", after := #[{ on := 2, ground := Go.Ground.guard }], guard := some (2, false) }) (v := ?_) rfl (by kernel_rfl) (by kernel_rfl) (by kernel_rfl) (fun _ _ _ h => h) (Or.inl ⟨by rfl, ?_⟩) (by assumption) ?_
  rotate_left
  · intro w hSw
    (try dsimp only at hSw)
    go_simp
    try with_reducible rfl
  (try simp only [Act.put, List.setIfInBounds_toArray, List.set_cons_zero, List.set_cons_succ])
  refine wpAnyH_ready (rs := [4]) (by kernel_rfl) (by simp) ?_
  refine AllReadyH.cons (o := { dst := some 26, op := Go.Op.call { callee := Go.Callee.value (Go.Operand.func 48), args := #[Go.Operand.tmp 25], argTypes := #[77] }, type := 81, pos := "law.go:30", after := #[{ on := 3, ground := Go.Ground.data }, { on := 2, ground := Go.Ground.chain }, { on := 2, ground := Go.Ground.guard }], guard := some (2, false) }) rfl (fun K hK => ?_) AllReadyH.nil
  go_simp
  refine Calls.mono (HT.out _) ?_
  rintro e w5 ⟨rfl, hb⟩
  have hB5 : Below W.heap.size W w5 := Below.trans (by (repeat' (first | (with_reducible exact Below.refl _ _) | (with_reducible assumption) | (with_reducible refine Below.setCell ?_ ?_ _) | (with_reducible refine Below.alloc ?_ ?_ _) | (with_reducible refine below_drewN ?_ _) | (with_reducible refine Below.drew ?_) | go_size))) (hb.mono (by go_size))
  have hz5 : W.heap.size + 2 ≤ w5.heap.size := (by have := hb.size; (try simp at this); omega)
  refine hK.out _ _ ?_ (fun hHeld => ?_)
  · (try dsimp only)
    exact keep55f (G := W.heap.size + 2) (by omega) (by omega) (by assumption) (fun p hp => hb.cell (Nat.lt_of_lt_of_le hp (by go_size))) (fun p hp => hb.frozen (Nat.lt_of_lt_of_le hp (by go_size)))
  clear hK K
  (try simp only [Act.put, List.setIfInBounds_toArray, List.set_cons_zero, List.set_cons_succ])
  refine wpAnyH_ready (rs := [5]) (by kernel_rfl) (by simp) ?_
  refine AllReadyH.cons (o := { dst := some 27, op := Go.Op.call { callee := Go.Callee.value (Go.Operand.func 51), args := #[Go.Operand.tmp 26], argTypes := #[81] }, type := 4, pos := "law.go:30", after := #[{ on := 4, ground := Go.Ground.data }, { on := 4, ground := Go.Ground.chain }, { on := 2, ground := Go.Ground.guard }], guard := some (2, false) }) rfl (fun K hK => ?_) AllReadyH.nil
  go_simp
  refine Calls.mono (HRp.out _) ?_
  rintro e w6 ⟨rfl, hb⟩
  have hB6 : Below W.heap.size W w6 := Below.trans (by (repeat' (first | (with_reducible exact Below.refl _ _) | (with_reducible assumption) | (with_reducible refine Below.setCell ?_ ?_ _) | (with_reducible refine Below.alloc ?_ ?_ _) | (with_reducible refine below_drewN ?_ _) | (with_reducible refine Below.drew ?_) | go_size))) (hb.mono (by go_size))
  have hz6 : W.heap.size + 2 ≤ w6.heap.size := (by have := hb.size; (try simp at this); omega)
  refine hK.out _ _ ?_ (fun hHeld => ?_)
  · (try dsimp only)
    exact keep55f (G := W.heap.size + 2) (by omega) (by omega) (by assumption) (fun p hp => hb.cell (Nat.lt_of_lt_of_le hp (by go_size))) (fun p hp => hb.frozen (Nat.lt_of_lt_of_le hp (by go_size)))
  clear hK K
  (try simp only [Act.put, List.setIfInBounds_toArray, List.set_cons_zero, List.set_cons_succ])
  refine wpAnyH_ready (rs := [7]) (by kernel_rfl) (by simp) ?_
  refine AllReadyH.cons (o := { dst := some 29, op := Go.Op.call { callee := Go.Callee.value (Go.Operand.func 52), args := #[Go.Operand.tmp 28], argTypes := #[77] }, type := 4, pos := "law.go:30", after := #[{ on := 6, ground := Go.Ground.data }, { on := 5, ground := Go.Ground.chain }, { on := 2, ground := Go.Ground.guard }], guard := some (2, false) }) rfl (fun K hK => ?_) AllReadyH.nil
  go_simp
  refine Calls.mono (HRr.out _) ?_
  rintro e w7 ⟨rfl, hb⟩
  have hB7 : Below W.heap.size W w7 := Below.trans (by (repeat' (first | (with_reducible exact Below.refl _ _) | (with_reducible assumption) | (with_reducible refine Below.setCell ?_ ?_ _) | (with_reducible refine Below.alloc ?_ ?_ _) | (with_reducible refine below_drewN ?_ _) | (with_reducible refine Below.drew ?_) | go_size))) (hb.mono (by go_size))
  have hz7 : W.heap.size + 2 ≤ w7.heap.size := (by have := hb.size; (try simp at this); omega)
  refine hK.out _ _ ?_ (fun hHeld => ?_)
  · (try dsimp only)
    exact keep55f (G := W.heap.size + 2) (by omega) (by omega) (by assumption) (fun p hp => hb.cell (Nat.lt_of_lt_of_le hp (by go_size))) (fun p hp => hb.frozen (Nat.lt_of_lt_of_le hp (by go_size)))
  clear hK K
  (try simp only [Act.put, List.setIfInBounds_toArray, List.set_cons_zero, List.set_cons_succ])
  refine wpAnyH_take (i := 8) (oi := { dst := some 30, op := Go.Op.binOp Go.BinOp.neq 4 (Go.Operand.tmp 27) (Go.Operand.tmp 29) 4, type := 4, pos := "law.go:30", after := #[{ on := 5, ground := Go.Ground.data }, { on := 7, ground := Go.Ground.data }, { on := 2, ground := Go.Ground.guard }], guard := some (2, false) }) (v := ?_) rfl (by kernel_rfl) (by kernel_rfl) (by kernel_rfl) (fun _ _ _ h => h) (Or.inl ⟨by rfl, ?_⟩) (by assumption) ?_
  rotate_left
  · intro w hSw
    (try dsimp only at hSw)
    go_simp
    try with_reducible rfl
  (try simp only [Act.put, List.setIfInBounds_toArray, List.set_cons_zero, List.set_cons_succ])
  refine wpAnyH_take (i := 9) (oi := { dst := some 31, op := Go.Op.pick (Go.Operand.tmp 24) (Go.Operand.const (Go.Value.bool true)) (Go.Operand.tmp 30), type := 4, pos := "law.go:30", after := #[{ on := 2, ground := Go.Ground.data }, { on := 8, ground := Go.Ground.data }], guard := none }) (v := ?_) rfl (by kernel_rfl) (by kernel_rfl) (by kernel_rfl) (fun _ _ _ h => h) (Or.inl ⟨by rfl, ?_⟩) (by assumption) ?_
  rotate_left
  · intro w hSw
    (try dsimp only at hSw)
    go_simp
    try with_reducible rfl
  (try simp only [Act.put, List.setIfInBounds_toArray, List.set_cons_zero, List.set_cons_succ])
  refine wpAnyH_take (i := 10) (oi := { dst := some 32, op := Go.Op.move (Go.Operand.tmp 31), type := 4, pos := "law.go:30", after := #[{ on := 9, ground := Go.Ground.data }, { on := 7, ground := Go.Ground.chain }], guard := none }) (v := ?_) rfl (by kernel_rfl) (by kernel_rfl) (by kernel_rfl) (fun _ _ _ h => h) (Or.inl ⟨by rfl, ?_⟩) (by assumption) ?_
  rotate_left
  · intro w hSw
    (try dsimp only at hSw)
    go_simp
    try with_reducible rfl
  (try simp only [Act.put, List.setIfInBounds_toArray, List.set_cons_zero, List.set_cons_succ])
  refine wpAnyH_take (i := 11) (oi := { dst := some 33, op := Go.Op.move (Go.Operand.tmp 5), type := 22, pos := "law.go:30", after := #[{ on := 10, ground := Go.Ground.guard }], guard := some (10, false) }) (v := ?_) rfl (by kernel_rfl) (by kernel_rfl) (by kernel_rfl) (fun _ _ _ h => h) (Or.inl ⟨by rfl, ?_⟩) (by assumption) ?_
  rotate_left
  · intro w hSw
    (try dsimp only at hSw)
    go_simp
    try with_reducible rfl
  (try simp only [Act.put, List.setIfInBounds_toArray, List.set_cons_zero, List.set_cons_succ])
  refine wpAnyH_take (i := 12) (oi := { dst := some 34, op := Go.Op.move (Go.Operand.tmp 7), type := 22, pos := "law.go:30", after := #[{ on := 10, ground := Go.Ground.guard }], guard := some (10, false) }) (v := ?_) rfl (by kernel_rfl) (by kernel_rfl) (by kernel_rfl) (fun _ _ _ h => h) (Or.inl ⟨by rfl, ?_⟩) (by assumption) ?_
  rotate_left
  · intro w hSw
    (try dsimp only at hSw)
    go_simp
    try with_reducible rfl
  (try simp only [Act.put, List.setIfInBounds_toArray, List.set_cons_zero, List.set_cons_succ])
  refine wpAnyH_take (i := 13) (oi := { dst := some 35, op := Go.Op.binOp Go.BinOp.neq 22 (Go.Operand.tmp 33) (Go.Operand.tmp 34) 22, type := 4, pos := "law.go:30", after := #[{ on := 11, ground := Go.Ground.data }, { on := 12, ground := Go.Ground.data }, { on := 10, ground := Go.Ground.guard }], guard := some (10, false) }) (v := ?_) rfl (by kernel_rfl) (by kernel_rfl) (by kernel_rfl) (fun _ _ _ h => h) (Or.inl ⟨by rfl, ?_⟩) (by assumption) ?_
  rotate_left
  · intro w hSw
    (try dsimp only at hSw)
    go_simp
    try with_reducible rfl
  (try simp only [Act.put, List.setIfInBounds_toArray, List.set_cons_zero, List.set_cons_succ])
  refine wpAnyH_take (i := 14) (oi := { dst := some 36, op := Go.Op.pick (Go.Operand.tmp 32) (Go.Operand.const (Go.Value.bool true)) (Go.Operand.tmp 35), type := 4, pos := "law.go:30", after := #[{ on := 10, ground := Go.Ground.data }, { on := 13, ground := Go.Ground.data }], guard := none }) (v := ?_) rfl (by kernel_rfl) (by kernel_rfl) (by kernel_rfl) (fun _ _ _ h => h) (Or.inl ⟨by rfl, ?_⟩) (by assumption) ?_
  rotate_left
  · intro w hSw
    (try dsimp only at hSw)
    go_simp
    try with_reducible rfl
  (try simp only [Act.put, List.setIfInBounds_toArray, List.set_cons_zero, List.set_cons_succ])
  refine wpAnyH_take (i := 15) (oi := { dst := some 37, op := Go.Op.move (Go.Operand.tmp 36), type := 4, pos := "law.go:30", after := #[{ on := 14, ground := Go.Ground.data }, { on := 10, ground := Go.Ground.chain }], guard := none }) (v := ?_) rfl (by kernel_rfl) (by kernel_rfl) (by kernel_rfl) (fun _ _ _ h => h) (Or.inl ⟨by rfl, ?_⟩) (by assumption) ?_
  rotate_left
  · intro w hSw
    (try dsimp only at hSw)
    go_simp
    try with_reducible rfl
  (try simp only [Act.put, List.setIfInBounds_toArray, List.set_cons_zero, List.set_cons_succ])
  refine wpAnyH_take (i := 16) (oi := { dst := some 38, op := Go.Op.move (Go.Operand.tmp 6), type := 22, pos := "law.go:30", after := #[{ on := 15, ground := Go.Ground.guard }], guard := some (15, false) }) (v := ?_) rfl (by kernel_rfl) (by kernel_rfl) (by kernel_rfl) (fun _ _ _ h => h) (Or.inl ⟨by rfl, ?_⟩) (by assumption) ?_
  rotate_left
  · intro w hSw
    (try dsimp only at hSw)
    go_simp
    try with_reducible rfl
  (try simp only [Act.put, List.setIfInBounds_toArray, List.set_cons_zero, List.set_cons_succ])
  refine wpAnyH_take (i := 17) (oi := { dst := some 39, op := Go.Op.move (Go.Operand.tmp 8), type := 22, pos := "law.go:30", after := #[{ on := 15, ground := Go.Ground.guard }], guard := some (15, false) }) (v := ?_) rfl (by kernel_rfl) (by kernel_rfl) (by kernel_rfl) (fun _ _ _ h => h) (Or.inl ⟨by rfl, ?_⟩) (by assumption) ?_
  rotate_left
  · intro w hSw
    (try dsimp only at hSw)
    go_simp
    try with_reducible rfl
  (try simp only [Act.put, List.setIfInBounds_toArray, List.set_cons_zero, List.set_cons_succ])
  refine wpAnyH_take (i := 18) (oi := { dst := some 40, op := Go.Op.binOp Go.BinOp.neq 22 (Go.Operand.tmp 38) (Go.Operand.tmp 39) 22, type := 4, pos := "law.go:30", after := #[{ on := 16, ground := Go.Ground.data }, { on := 17, ground := Go.Ground.data }, { on := 15, ground := Go.Ground.guard }], guard := some (15, false) }) (v := ?_) rfl (by kernel_rfl) (by kernel_rfl) (by kernel_rfl) (fun _ _ _ h => h) (Or.inl ⟨by rfl, ?_⟩) (by assumption) ?_
  rotate_left
  · intro w hSw
    (try dsimp only at hSw)
    go_simp
    try with_reducible rfl
  (try simp only [Act.put, List.setIfInBounds_toArray, List.set_cons_zero, List.set_cons_succ])
  refine wpAnyH_take (i := 19) (oi := { dst := some 41, op := Go.Op.pick (Go.Operand.tmp 37) (Go.Operand.const (Go.Value.bool true)) (Go.Operand.tmp 40), type := 4, pos := "law.go:30", after := #[{ on := 15, ground := Go.Ground.data }, { on := 18, ground := Go.Ground.data }], guard := none }) (v := ?_) rfl (by kernel_rfl) (by kernel_rfl) (by kernel_rfl) (fun _ _ _ h => h) (Or.inl ⟨by rfl, ?_⟩) (by assumption) ?_
  rotate_left
  · intro w hSw
    (try dsimp only at hSw)
    go_simp
    try with_reducible rfl
  (try simp only [Act.put, List.setIfInBounds_toArray, List.set_cons_zero, List.set_cons_succ])
  have hq := hHeld
  clear x0 x1 x2 x3 x4 y0 y1 y2 y3 y4 g0 g1
  obtain ⟨x0, x1, x2, x3, x4, y0, y1, y2, y3, y4, g0, g1⟩ := hq
  refine wpAnyH_done (by kernel_rfl) ?_ _
  clear HT HWp HWr HRp HRr
  go_wp2_with fail
  first
    | (go_region_with (first
        | (go_at_call 53; (with_reducible refine Calls.mono (HF0.out _) ?_); rintro e w8 ⟨rfl, hb⟩; have hB8 : Below W.heap.size W w8 := Below.trans (by (repeat' (first | (with_reducible exact Below.refl _ _) | (with_reducible assumption) | (with_reducible refine Below.setCell ?_ ?_ _) | (with_reducible refine Below.alloc ?_ ?_ _) | (with_reducible refine below_drewN ?_ _) | (with_reducible refine Below.drew ?_) | go_size))) (hb.mono (by go_size)); have hz8 : W.heap.size + 2 ≤ w8.heap.size := (by have := hb.size; (try simp at this); omega); have x0 := ((bcell hb).1 W.heap.size 0 (by go_size)).trans x0; have x1 := ((bcell hb).1 W.heap.size 1 (by go_size)).trans x1; have x2 := ((bcell hb).1 W.heap.size 2 (by go_size)).trans x2; have x3 := ((bcell hb).1 W.heap.size 3 (by go_size)).trans x3; have x4 := ((bcell hb).1 W.heap.size 4 (by go_size)).trans x4; have y0 := ((bcell hb).1 (W.heap.size + 1) 0 (by go_size)).trans y0; have y1 := ((bcell hb).1 (W.heap.size + 1) 1 (by go_size)).trans y1; have y2 := ((bcell hb).1 (W.heap.size + 1) 2 (by go_size)).trans y2; have y3 := ((bcell hb).1 (W.heap.size + 1) 3 (by go_size)).trans y3; have y4 := ((bcell hb).1 (W.heap.size + 1) 4 (by go_size)).trans y4; have g0 := fun o => ((bcell hb).2 W.heap.size o (by go_size)).trans (g0 o); have g1 := fun o => ((bcell hb).2 (W.heap.size + 1) o (by go_size)).trans (g1 o); clear hb)
        | (go_at_call 53; (with_reducible refine Calls.mono (HF1.out _) ?_); rintro e w9 ⟨rfl, hb⟩; have hB9 : Below W.heap.size W w9 := Below.trans (by (repeat' (first | (with_reducible exact Below.refl _ _) | (with_reducible assumption) | (with_reducible refine Below.setCell ?_ ?_ _) | (with_reducible refine Below.alloc ?_ ?_ _) | (with_reducible refine below_drewN ?_ _) | (with_reducible refine Below.drew ?_) | go_size))) (hb.mono (by go_size)); have hz9 : W.heap.size + 2 ≤ w9.heap.size := (by have := hb.size; (try simp at this); omega); have x0 := ((bcell hb).1 W.heap.size 0 (by go_size)).trans x0; have x1 := ((bcell hb).1 W.heap.size 1 (by go_size)).trans x1; have x2 := ((bcell hb).1 W.heap.size 2 (by go_size)).trans x2; have x3 := ((bcell hb).1 W.heap.size 3 (by go_size)).trans x3; have x4 := ((bcell hb).1 W.heap.size 4 (by go_size)).trans x4; have y0 := ((bcell hb).1 (W.heap.size + 1) 0 (by go_size)).trans y0; have y1 := ((bcell hb).1 (W.heap.size + 1) 1 (by go_size)).trans y1; have y2 := ((bcell hb).1 (W.heap.size + 1) 2 (by go_size)).trans y2; have y3 := ((bcell hb).1 (W.heap.size + 1) 3 (by go_size)).trans y3; have y4 := ((bcell hb).1 (W.heap.size + 1) 4 (by go_size)).trans y4; have g0 := fun o => ((bcell hb).2 W.heap.size o (by go_size)).trans (g0 o); have g1 := fun o => ((bcell hb).2 (W.heap.size + 1) o (by go_size)).trans (g1 o); clear hb)))
    | fail
  all_goals
    clear HF0 HF1
    go_wp2_with fail
    refine (HT0.out _).mono ?_
    rintro e w10 ⟨rfl, hb⟩
    obtain ⟨hc, hf⟩ := bcell hb
    have u0 : w10.cell? ⟨W.heap.size, 0, none⟩ = some (.int .i64 v0) := by rw [hc _ _ (by first | (simp; done) | (simp; omega))]; simp [go_sem, x0]
    have u1 : w10.cell? ⟨W.heap.size, 1, none⟩ = some (.int .u64 m0) := by rw [hc _ _ (by first | (simp; done) | (simp; omega))]; simp [go_sem, x1]
    have u2 : w10.cell? ⟨W.heap.size, 2, none⟩ = some (.int .i64 q0) := by rw [hc _ _ (by first | (simp; done) | (simp; omega))]; simp [go_sem, x2]
    have u3 : w10.cell? ⟨W.heap.size, 3, none⟩ = some (.bool s0) := by rw [hc _ _ (by first | (simp; done) | (simp; omega))]; simp [go_sem, x3]
    have u4 : w10.cell? ⟨W.heap.size, 4, none⟩ = some (.int .u32 t0) := by rw [hc _ _ (by first | (simp; done) | (simp; omega))]; simp [go_sem, x4]
    have z0 : w10.cell? ⟨W.heap.size + 1, 0, none⟩ = some (.int .i64 v1) := by rw [hc _ _ (by first | (simp; done) | (simp; omega))]; simp [go_sem, y0]
    have z1 : w10.cell? ⟨W.heap.size + 1, 1, none⟩ = some (.int .u64 m1) := by rw [hc _ _ (by first | (simp; done) | (simp; omega))]; simp [go_sem, y1]
    have z2 : w10.cell? ⟨W.heap.size + 1, 2, none⟩ = some (.int .i64 q1) := by rw [hc _ _ (by first | (simp; done) | (simp; omega))]; simp [go_sem, y2]
    have z3 : w10.cell? ⟨W.heap.size + 1, 3, none⟩ = some (.bool s1) := by rw [hc _ _ (by first | (simp; done) | (simp; omega))]; simp [go_sem, y3]
    have z4 : w10.cell? ⟨W.heap.size + 1, 4, none⟩ = some (.int .u32 t1) := by rw [hc _ _ (by first | (simp; done) | (simp; omega))]; simp [go_sem, y4]
    have hB10 : Below W.heap.size W w10 := Below.trans (by (repeat' (first | (with_reducible exact Below.refl _ _) | (with_reducible assumption) | (with_reducible refine Below.setCell ?_ ?_ _) | (with_reducible refine Below.alloc ?_ ?_ _) | (with_reducible refine below_drewN ?_ _) | (with_reducible refine Below.drew ?_) | go_size))) (hb.mono (by go_size))
    have hz10 : W.heap.size + 2 ≤ w10.heap.size := by have := hb.size; (try simp at this); omega
    clear hc hf hb x0 x1 x2 x3 x4 y0 y1 y2 y3 y4 g0 g1
    have x0 := u0
    have y0 := z0
    clear u0 z0
    have x1 := u1
    have y1 := z1
    clear u1 z1
    have x2 := u2
    have y2 := z2
    clear u2 z2
    have x3 := u3
    have y3 := z3
    clear u3 z3
    have x4 := u4
    have y4 := z4
    clear u4 z4
    go_wp2_with fail
    refine (HW0.out _).mono ?_
    rintro e w11 ⟨rfl, hb⟩
    have x0 := ((bcell hb).1 W.heap.size 0 (by go_size)).trans x0
    have x1 := ((bcell hb).1 W.heap.size 1 (by go_size)).trans x1
    have x2 := ((bcell hb).1 W.heap.size 2 (by go_size)).trans x2
    have x3 := ((bcell hb).1 W.heap.size 3 (by go_size)).trans x3
    have x4 := ((bcell hb).1 W.heap.size 4 (by go_size)).trans x4
    have y0 := ((bcell hb).1 (W.heap.size + 1) 0 (by go_size)).trans y0
    have y1 := ((bcell hb).1 (W.heap.size + 1) 1 (by go_size)).trans y1
    have y2 := ((bcell hb).1 (W.heap.size + 1) 2 (by go_size)).trans y2
    have y3 := ((bcell hb).1 (W.heap.size + 1) 3 (by go_size)).trans y3
    have y4 := ((bcell hb).1 (W.heap.size + 1) 4 (by go_size)).trans y4
    have hB11 : Below W.heap.size W w11 := Below.trans (by (repeat' (first | (with_reducible exact Below.refl _ _) | (with_reducible assumption) | (with_reducible refine Below.setCell ?_ ?_ _) | (with_reducible refine Below.alloc ?_ ?_ _) | (with_reducible refine below_drewN ?_ _) | (with_reducible refine Below.drew ?_) | go_size))) (hb.mono (by go_size))
    have hz11 : W.heap.size + 2 ≤ w11.heap.size := by have := hb.size; (try simp at this); omega
    clear hb
    go_wp2_with fail
    refine (HT1.out _).mono ?_
    rintro e w12 ⟨rfl, hb⟩
    have x0 := ((bcell hb).1 W.heap.size 0 (by go_size)).trans x0
    have x1 := ((bcell hb).1 W.heap.size 1 (by go_size)).trans x1
    have x2 := ((bcell hb).1 W.heap.size 2 (by go_size)).trans x2
    have x3 := ((bcell hb).1 W.heap.size 3 (by go_size)).trans x3
    have x4 := ((bcell hb).1 W.heap.size 4 (by go_size)).trans x4
    have y0 := ((bcell hb).1 (W.heap.size + 1) 0 (by go_size)).trans y0
    have y1 := ((bcell hb).1 (W.heap.size + 1) 1 (by go_size)).trans y1
    have y2 := ((bcell hb).1 (W.heap.size + 1) 2 (by go_size)).trans y2
    have y3 := ((bcell hb).1 (W.heap.size + 1) 3 (by go_size)).trans y3
    have y4 := ((bcell hb).1 (W.heap.size + 1) 4 (by go_size)).trans y4
    have hB12 : Below W.heap.size W w12 := Below.trans (by (repeat' (first | (with_reducible exact Below.refl _ _) | (with_reducible assumption) | (with_reducible refine Below.setCell ?_ ?_ _) | (with_reducible refine Below.alloc ?_ ?_ _) | (with_reducible refine below_drewN ?_ _) | (with_reducible refine Below.drew ?_) | go_size))) (hb.mono (by go_size))
    have hz12 : W.heap.size + 2 ≤ w12.heap.size := by have := hb.size; (try simp at this); omega
    clear hb
    go_wp2_with fail
    refine (HW1.out _).mono ?_
    rintro e w13 ⟨rfl, hb⟩
    have x0 := ((bcell hb).1 W.heap.size 0 (by go_size)).trans x0
    have x1 := ((bcell hb).1 W.heap.size 1 (by go_size)).trans x1
    have x2 := ((bcell hb).1 W.heap.size 2 (by go_size)).trans x2
    have x3 := ((bcell hb).1 W.heap.size 3 (by go_size)).trans x3
    have x4 := ((bcell hb).1 W.heap.size 4 (by go_size)).trans x4
    have y0 := ((bcell hb).1 (W.heap.size + 1) 0 (by go_size)).trans y0
    have y1 := ((bcell hb).1 (W.heap.size + 1) 1 (by go_size)).trans y1
    have y2 := ((bcell hb).1 (W.heap.size + 1) 2 (by go_size)).trans y2
    have y3 := ((bcell hb).1 (W.heap.size + 1) 3 (by go_size)).trans y3
    have y4 := ((bcell hb).1 (W.heap.size + 1) 4 (by go_size)).trans y4
    have hB13 : Below W.heap.size W w13 := Below.trans (by (repeat' (first | (with_reducible exact Below.refl _ _) | (with_reducible assumption) | (with_reducible refine Below.setCell ?_ ?_ _) | (with_reducible refine Below.alloc ?_ ?_ _) | (with_reducible refine below_drewN ?_ _) | (with_reducible refine Below.drew ?_) | go_size))) (hb.mono (by go_size))
    have hz13 : W.heap.size + 2 ≤ w13.heap.size := by have := hb.size; (try simp at this); omega
    clear hb
    go_wp2_with fail
    refine (HO.out _).mono ?_
    rintro e w14 ⟨rfl, hb⟩
    have x0 := ((bcell hb).1 W.heap.size 0 (by go_size)).trans x0
    have x1 := ((bcell hb).1 W.heap.size 1 (by go_size)).trans x1
    have x2 := ((bcell hb).1 W.heap.size 2 (by go_size)).trans x2
    have x3 := ((bcell hb).1 W.heap.size 3 (by go_size)).trans x3
    have x4 := ((bcell hb).1 W.heap.size 4 (by go_size)).trans x4
    have y0 := ((bcell hb).1 (W.heap.size + 1) 0 (by go_size)).trans y0
    have y1 := ((bcell hb).1 (W.heap.size + 1) 1 (by go_size)).trans y1
    have y2 := ((bcell hb).1 (W.heap.size + 1) 2 (by go_size)).trans y2
    have y3 := ((bcell hb).1 (W.heap.size + 1) 3 (by go_size)).trans y3
    have y4 := ((bcell hb).1 (W.heap.size + 1) 4 (by go_size)).trans y4
    have hB14 : Below W.heap.size W w14 := Below.trans (by (repeat' (first | (with_reducible exact Below.refl _ _) | (with_reducible assumption) | (with_reducible refine Below.setCell ?_ ?_ _) | (with_reducible refine Below.alloc ?_ ?_ _) | (with_reducible refine below_drewN ?_ _) | (with_reducible refine Below.drew ?_) | go_size))) (hb.mono (by go_size))
    have hz14 : W.heap.size + 2 ≤ w14.heap.size := by have := hb.size; (try simp at this); omega
    clear hb
    go_wp2_with fail
    obtain ⟨w15, hw15⟩ : ∃ w15, w15 = w14.alloc (.cells #[.int .i64 v0, .int .u64 m0, .int .i64 q0, .bool s0, .int .u32 t0] 81) := ⟨_, rfl⟩
    rw [← hw15]
    have x0 : w15.cell? ⟨W.heap.size, 0, none⟩ = some (.int .i64 v0) := by rw [hw15, World.cell?_alloc_lt _ _ _ (by show W.heap.size < _; omega)]; exact x0
    have x1 : w15.cell? ⟨W.heap.size, 1, none⟩ = some (.int .u64 m0) := by rw [hw15, World.cell?_alloc_lt _ _ _ (by show W.heap.size < _; omega)]; exact x1
    have x2 : w15.cell? ⟨W.heap.size, 2, none⟩ = some (.int .i64 q0) := by rw [hw15, World.cell?_alloc_lt _ _ _ (by show W.heap.size < _; omega)]; exact x2
    have x3 : w15.cell? ⟨W.heap.size, 3, none⟩ = some (.bool s0) := by rw [hw15, World.cell?_alloc_lt _ _ _ (by show W.heap.size < _; omega)]; exact x3
    have x4 : w15.cell? ⟨W.heap.size, 4, none⟩ = some (.int .u32 t0) := by rw [hw15, World.cell?_alloc_lt _ _ _ (by show W.heap.size < _; omega)]; exact x4
    have y0 : w15.cell? ⟨W.heap.size + 1, 0, none⟩ = some (.int .i64 v1) := by rw [hw15, World.cell?_alloc_lt _ _ _ (by show (W.heap.size + 1) < _; omega)]; exact y0
    have y1 : w15.cell? ⟨W.heap.size + 1, 1, none⟩ = some (.int .u64 m1) := by rw [hw15, World.cell?_alloc_lt _ _ _ (by show (W.heap.size + 1) < _; omega)]; exact y1
    have y2 : w15.cell? ⟨W.heap.size + 1, 2, none⟩ = some (.int .i64 q1) := by rw [hw15, World.cell?_alloc_lt _ _ _ (by show (W.heap.size + 1) < _; omega)]; exact y2
    have y3 : w15.cell? ⟨W.heap.size + 1, 3, none⟩ = some (.bool s1) := by rw [hw15, World.cell?_alloc_lt _ _ _ (by show (W.heap.size + 1) < _; omega)]; exact y3
    have y4 : w15.cell? ⟨W.heap.size + 1, 4, none⟩ = some (.int .u32 t1) := by rw [hw15, World.cell?_alloc_lt _ _ _ (by show (W.heap.size + 1) < _; omega)]; exact y4
    have e0 : w15.cell? ⟨w14.heap.size, 0, none⟩ = some (.int .i64 v0) := by rw [hw15]; simp [go_sem]
    have e1 : w15.cell? ⟨w14.heap.size, 1, none⟩ = some (.int .u64 m0) := by rw [hw15]; simp [go_sem]
    have e2 : w15.cell? ⟨w14.heap.size, 2, none⟩ = some (.int .i64 q0) := by rw [hw15]; simp [go_sem]
    have e3 : w15.cell? ⟨w14.heap.size, 3, none⟩ = some (.bool s0) := by rw [hw15]; simp [go_sem]
    have e4 : w15.cell? ⟨w14.heap.size, 4, none⟩ = some (.int .u32 t0) := by rw [hw15]; simp [go_sem]
    have hB15 : Below W.heap.size W w15 := by rw [hw15]; exact hB14.alloc (by omega) _
    have hz15 : w14.heap.size + 1 ≤ w15.heap.size := by rw [hw15]; simp
    clear hw15
    rcases HD.out with ⟨h1, h2, h3, h4, h5, h6, h7⟩ | ⟨h1, h2⟩ | ⟨h1, h2, h3⟩ | ⟨h1, h2, h3, h4, h5⟩ | ⟨h1, h2, h3, h4, h5, h6⟩ | ⟨h1, h2, h3, h4, h5, h6, h7⟩
    · subst h1 h2 h3 h4 h5 h6 h7
      clear HD
      refine wp_region_held_drew (S := fun w' => w'.cell? ⟨w14.heap.size, 0, none⟩ = some (.int .i64 v0) ∧ w'.cell? ⟨w14.heap.size, 1, none⟩ = some (.int .u64 m0) ∧ w'.cell? ⟨w14.heap.size, 2, none⟩ = some (.int .i64 q0) ∧ w'.cell? ⟨w14.heap.size, 3, none⟩ = some (.bool s0) ∧ w'.cell? ⟨w14.heap.size, 4, none⟩ = some (.int .u32 t0) ∧ w'.cell? ⟨W.heap.size, 0, none⟩ = some (.int .i64 v0) ∧ w'.cell? ⟨W.heap.size, 1, none⟩ = some (.int .u64 m0) ∧ w'.cell? ⟨W.heap.size, 2, none⟩ = some (.int .i64 q0) ∧ w'.cell? ⟨W.heap.size, 3, none⟩ = some (.bool s0) ∧ w'.cell? ⟨W.heap.size, 4, none⟩ = some (.int .u32 t0) ∧ w'.cell? ⟨W.heap.size + 1, 0, none⟩ = some (.int .i64 v0) ∧ w'.cell? ⟨W.heap.size + 1, 1, none⟩ = some (.int .u64 m0) ∧ w'.cell? ⟨W.heap.size + 1, 2, none⟩ = some (.int .i64 q0) ∧ w'.cell? ⟨W.heap.size + 1, 3, none⟩ = some (.bool s0) ∧ w'.cell? ⟨W.heap.size + 1, 4, none⟩ = some (.int .u32 t0)) (by kernel_rfl) ?_ (fun hHeld => ?_)
      · exact ⟨e0, e1, e2, e3, e4, x0, x1, x2, x3, x4, y0, y1, y2, y3, y4⟩
      refine wpAnyH_take (i := 0) (oi := { dst := some 64, op := Go.Op.move (Go.Operand.tmp 10), type := 4, pos := "law.go:37", after := #[], guard := none }) (v := ?_) rfl (by kernel_rfl) (by kernel_rfl) (by kernel_rfl) (fun _ _ _ h => h) (Or.inl ⟨by rfl, ?_⟩) (by assumption) ?_
      rotate_left
      · intro w hSw
        (try dsimp only at hSw)
        go_simp
        try with_reducible rfl
      (try simp only [Act.put, List.setIfInBounds_toArray, List.set_cons_zero, List.set_cons_succ])
      refine wpAnyH_take (i := 1) (oi := { dst := some 65, op := Go.Op.move (Go.Operand.tmp 64), type := 4, pos := "law.go:37", after := #[{ on := 0, ground := Go.Ground.data }], guard := none }) (v := ?_) rfl (by kernel_rfl) (by kernel_rfl) (by kernel_rfl) (fun _ _ _ h => h) (Or.inl ⟨by rfl, ?_⟩) (by assumption) ?_
      rotate_left
      · intro w hSw
        (try dsimp only at hSw)
        go_simp
        try with_reducible rfl
      (try simp only [Act.put, List.setIfInBounds_toArray, List.set_cons_zero, List.set_cons_succ])
      refine wpAnyH_take (i := 2) (oi := { dst := some 66, op := Go.Op.load 81 (Go.Operand.tmp 9), type := 81, pos := "law.go:37", after := #[{ on := 1, ground := Go.Ground.guard }], guard := some (1, true) }) (v := ?_) rfl (by kernel_rfl) (by kernel_rfl) (by kernel_rfl) (fun _ _ _ h => h) (Or.inl ⟨by rfl, ?_⟩) (by assumption) ?_
      rotate_left
      · intro w hSw
        (try dsimp only at hSw)
        go_simp
        try with_reducible rfl
      (try simp only [Act.put, List.setIfInBounds_toArray, List.set_cons_zero, List.set_cons_succ])
      refine wpAnyH_take (i := 4) (oi := { dst := some 68, op := Go.Op.load 77 (Go.Operand.tmp 2), type := 77, pos := "law.go:37", after := #[{ on := 1, ground := Go.Ground.guard }], guard := some (1, true) }) (v := ?_) rfl (by kernel_rfl) (by kernel_rfl) (by kernel_rfl) (fun _ _ _ h => h) (Or.inl ⟨by rfl, ?_⟩) (by assumption) ?_
      rotate_left
      · intro w hSw
        (try dsimp only at hSw)
        go_simp
        try with_reducible rfl
      (try simp only [Act.put, List.setIfInBounds_toArray, List.set_cons_zero, List.set_cons_succ])
      refine wpAnyH_ready (rs := [3]) (by kernel_rfl) (by simp) ?_
      refine AllReadyH.cons (o := { dst := some 67, op := Go.Op.call { callee := Go.Callee.value (Go.Operand.func 55), args := #[Go.Operand.tmp 66], argTypes := #[81] }, type := 77, pos := "law.go:37", after := #[{ on := 2, ground := Go.Ground.data }, { on := 1, ground := Go.Ground.chain }, { on := 1, ground := Go.Ground.guard }], guard := some (1, true) }) rfl (fun K hK => ?_) AllReadyH.nil
      go_simp
      refine Calls.mono (HFr.out _) ?_
      rintro e w16 ⟨rfl, hb⟩
      have hB16 : Below W.heap.size W w16 := Below.trans (by (repeat' (first | (with_reducible exact Below.refl _ _) | (with_reducible assumption) | (with_reducible refine Below.setCell ?_ ?_ _) | (with_reducible refine Below.alloc ?_ ?_ _) | (with_reducible refine below_drewN ?_ _) | (with_reducible refine Below.drew ?_) | go_size))) (hb.mono (by go_size))
      have hz16 : W.heap.size + 2 ≤ w16.heap.size := (by have := hb.size; (try simp at this); omega)
      refine hK.out _ _ ?_ (fun hHeld => ?_)
      · (try dsimp only)
        exact keep555 (G := w14.heap.size + 1) (by omega) (by omega) (by omega) (by assumption) (fun p hp => hb.cell (Nat.lt_of_lt_of_le hp (by go_size)))
      clear hK K
      (try simp only [Act.put, List.setIfInBounds_toArray, List.set_cons_zero, List.set_cons_succ])
      refine wpAnyH_take (i := 5) (oi := { dst := some 69, op := Go.Op.binOp Go.BinOp.eql 77 (Go.Operand.tmp 67) (Go.Operand.tmp 68) 77, type := 4, pos := "law.go:37", after := #[{ on := 3, ground := Go.Ground.data }, { on := 4, ground := Go.Ground.data }, { on := 1, ground := Go.Ground.guard }], guard := some (1, true) }) (v := ?_) rfl (by kernel_rfl) (by kernel_rfl) (by kernel_rfl) (fun _ _ _ h => h) (Or.inl ⟨by rfl, ?_⟩) (by assumption) ?_
      rotate_left
      · intro w hSw
        (try dsimp only at hSw)
        go_simp
        try with_reducible rfl
      (try simp only [Act.put, List.setIfInBounds_toArray, List.set_cons_zero, List.set_cons_succ])
      refine wpAnyH_take (i := 6) (oi := { dst := some 70, op := Go.Op.pick (Go.Operand.tmp 65) (Go.Operand.tmp 69) (Go.Operand.const (Go.Value.bool false)), type := 4, pos := "law.go:37", after := #[{ on := 1, ground := Go.Ground.data }, { on := 5, ground := Go.Ground.data }], guard := none }) (v := ?_) rfl (by kernel_rfl) (by kernel_rfl) (by kernel_rfl) (fun _ _ _ h => h) (Or.inl ⟨by rfl, ?_⟩) (by assumption) ?_
      rotate_left
      · intro w hSw
        (try dsimp only at hSw)
        go_simp
        try with_reducible rfl
      (try simp only [Act.put, List.setIfInBounds_toArray, List.set_cons_zero, List.set_cons_succ])
      refine wpAnyH_take (i := 7) (oi := { dst := some 71, op := Go.Op.move (Go.Operand.tmp 70), type := 4, pos := "law.go:37", after := #[{ on := 6, ground := Go.Ground.data }, { on := 3, ground := Go.Ground.chain }], guard := none }) (v := ?_) rfl (by kernel_rfl) (by kernel_rfl) (by kernel_rfl) (fun _ _ _ h => h) (Or.inl ⟨by rfl, ?_⟩) (by assumption) ?_
      rotate_left
      · intro w hSw
        (try dsimp only at hSw)
        go_simp
        try with_reducible rfl
      (try simp only [Act.put, List.setIfInBounds_toArray, List.set_cons_zero, List.set_cons_succ])
      refine wpAnyH_take (i := 8) (oi := { dst := some 72, op := Go.Op.move (Go.Operand.tmp 5), type := 22, pos := "law.go:37", after := #[{ on := 7, ground := Go.Ground.guard }], guard := some (7, true) }) (v := ?_) rfl (by kernel_rfl) (by kernel_rfl) (by kernel_rfl) (fun _ _ _ h => h) (Or.inl ⟨by rfl, ?_⟩) (by assumption) ?_
      rotate_left
      · intro w hSw
        (try dsimp only at hSw)
        go_simp
        try with_reducible rfl
      (try simp only [Act.put, List.setIfInBounds_toArray, List.set_cons_zero, List.set_cons_succ])
      refine wpAnyH_take (i := 9) (oi := { dst := some 73, op := Go.Op.move (Go.Operand.tmp 7), type := 22, pos := "law.go:37", after := #[{ on := 7, ground := Go.Ground.guard }], guard := some (7, true) }) (v := ?_) rfl (by kernel_rfl) (by kernel_rfl) (by kernel_rfl) (fun _ _ _ h => h) (Or.inl ⟨by rfl, ?_⟩) (by assumption) ?_
      rotate_left
      · intro w hSw
        (try dsimp only at hSw)
        go_simp
        try with_reducible rfl
      (try simp only [Act.put, List.setIfInBounds_toArray, List.set_cons_zero, List.set_cons_succ])
      refine wpAnyH_take (i := 10) (oi := { dst := some 74, op := Go.Op.binOp Go.BinOp.eql 22 (Go.Operand.tmp 72) (Go.Operand.tmp 73) 22, type := 4, pos := "law.go:37", after := #[{ on := 8, ground := Go.Ground.data }, { on := 9, ground := Go.Ground.data }, { on := 7, ground := Go.Ground.guard }], guard := some (7, true) }) (v := ?_) rfl (by kernel_rfl) (by kernel_rfl) (by kernel_rfl) (fun _ _ _ h => h) (Or.inl ⟨by rfl, ?_⟩) (by assumption) ?_
      rotate_left
      · intro w hSw
        (try dsimp only at hSw)
        go_simp
        try with_reducible rfl
      (try simp only [Act.put, List.setIfInBounds_toArray, List.set_cons_zero, List.set_cons_succ])
      refine wpAnyH_take (i := 11) (oi := { dst := some 75, op := Go.Op.move (Go.Operand.tmp 74), type := 4, pos := "law.go:37", after := #[{ on := 10, ground := Go.Ground.data }, { on := 7, ground := Go.Ground.chain }, { on := 7, ground := Go.Ground.guard }], guard := some (7, true) }) (v := ?_) rfl (by kernel_rfl) (by kernel_rfl) (by kernel_rfl) (fun _ _ _ h => h) (Or.inl ⟨by rfl, ?_⟩) (by assumption) ?_
      rotate_left
      · intro w hSw
        (try dsimp only at hSw)
        go_simp
        try with_reducible rfl
      (try simp only [Act.put, List.setIfInBounds_toArray, List.set_cons_zero, List.set_cons_succ])
      refine wpAnyH_take (i := 12) (oi := { dst := some 76, op := Go.Op.move (Go.Operand.tmp 6), type := 22, pos := "law.go:37", after := #[{ on := 11, ground := Go.Ground.guard }], guard := some (11, true) }) (v := ?_) rfl (by kernel_rfl) (by kernel_rfl) (by kernel_rfl) (fun _ _ _ h => h) (Or.inl ⟨by rfl, ?_⟩) (by assumption) ?_
      rotate_left
      · intro w hSw
        (try dsimp only at hSw)
        go_simp
        try with_reducible rfl
      (try simp only [Act.put, List.setIfInBounds_toArray, List.set_cons_zero, List.set_cons_succ])
      refine wpAnyH_take (i := 13) (oi := { dst := some 77, op := Go.Op.move (Go.Operand.tmp 8), type := 22, pos := "law.go:37", after := #[{ on := 11, ground := Go.Ground.guard }], guard := some (11, true) }) (v := ?_) rfl (by kernel_rfl) (by kernel_rfl) (by kernel_rfl) (fun _ _ _ h => h) (Or.inl ⟨by rfl, ?_⟩) (by assumption) ?_
      rotate_left
      · intro w hSw
        (try dsimp only at hSw)
        go_simp
        try with_reducible rfl
      (try simp only [Act.put, List.setIfInBounds_toArray, List.set_cons_zero, List.set_cons_succ])
      refine wpAnyH_take (i := 14) (oi := { dst := some 78, op := Go.Op.binOp Go.BinOp.eql 22 (Go.Operand.tmp 76) (Go.Operand.tmp 77) 22, type := 4, pos := "law.go:37", after := #[{ on := 12, ground := Go.Ground.data }, { on := 13, ground := Go.Ground.data }, { on := 11, ground := Go.Ground.guard }], guard := some (11, true) }) (v := ?_) rfl (by kernel_rfl) (by kernel_rfl) (by kernel_rfl) (fun _ _ _ h => h) (Or.inl ⟨by rfl, ?_⟩) (by assumption) ?_
      rotate_left
      · intro w hSw
        (try dsimp only at hSw)
        go_simp
        try with_reducible rfl
      (try simp only [Act.put, List.setIfInBounds_toArray, List.set_cons_zero, List.set_cons_succ])
      refine wpAnyH_take (i := 15) (oi := { dst := some 79, op := Go.Op.pick (Go.Operand.tmp 75) (Go.Operand.tmp 78) (Go.Operand.const (Go.Value.bool false)), type := 4, pos := "law.go:37", after := #[{ on := 11, ground := Go.Ground.data }, { on := 14, ground := Go.Ground.data }, { on := 7, ground := Go.Ground.guard }], guard := some (7, true) }) (v := ?_) rfl (by kernel_rfl) (by kernel_rfl) (by kernel_rfl) (fun _ _ _ h => h) (Or.inl ⟨by rfl, ?_⟩) (by assumption) ?_
      rotate_left
      · intro w hSw
        (try dsimp only at hSw)
        go_simp
        try with_reducible rfl
      (try simp only [Act.put, List.setIfInBounds_toArray, List.set_cons_zero, List.set_cons_succ])
      refine wpAnyH_take (i := 16) (oi := { dst := some 80, op := Go.Op.load 77 (Go.Operand.tmp 2), type := 77, pos := "law.go:37", after := #[{ on := 7, ground := Go.Ground.guard }], guard := some (7, true) }) (v := ?_) rfl (by kernel_rfl) (by kernel_rfl) (by kernel_rfl) (fun _ _ _ h => h) (Or.inl ⟨by rfl, ?_⟩) (by assumption) ?_
      rotate_left
      · intro w hSw
        (try dsimp only at hSw)
        go_simp
        try with_reducible rfl
      (try simp only [Act.put, List.setIfInBounds_toArray, List.set_cons_zero, List.set_cons_succ])
      refine wpAnyH_take (i := 17) (oi := { dst := some 81, op := Go.Op.load 77 (Go.Operand.tmp 3), type := 77, pos := "law.go:37", after := #[{ on := 7, ground := Go.Ground.guard }], guard := some (7, true) }) (v := ?_) rfl (by kernel_rfl) (by kernel_rfl) (by kernel_rfl) (fun _ _ _ h => h) (Or.inl ⟨by rfl, ?_⟩) (by assumption) ?_
      rotate_left
      · intro w hSw
        (try dsimp only at hSw)
        go_simp
        try with_reducible rfl
      (try simp only [Act.put, List.setIfInBounds_toArray, List.set_cons_zero, List.set_cons_succ])
      refine wpAnyH_take (i := 18) (oi := { dst := some 82, op := Go.Op.binOp Go.BinOp.eql 77 (Go.Operand.tmp 80) (Go.Operand.tmp 81) 77, type := 4, pos := "law.go:37", after := #[{ on := 16, ground := Go.Ground.data }, { on := 17, ground := Go.Ground.data }, { on := 7, ground := Go.Ground.guard }], guard := some (7, true) }) (v := ?_) rfl (by kernel_rfl) (by kernel_rfl) (by kernel_rfl) (fun _ _ _ h => h) (Or.inl ⟨by rfl, ?_⟩) (by assumption) ?_
      rotate_left
      · intro w hSw
        (try dsimp only at hSw)
        go_simp
        try with_reducible rfl
      (try simp only [Act.put, List.setIfInBounds_toArray, List.set_cons_zero, List.set_cons_succ])
      refine wpAnyH_take (i := 19) (oi := { dst := some 83, op := Go.Op.binOp Go.BinOp.eql 4 (Go.Operand.tmp 79) (Go.Operand.tmp 82) 4, type := 4, pos := "law.go:37", after := #[{ on := 15, ground := Go.Ground.data }, { on := 18, ground := Go.Ground.data }, { on := 7, ground := Go.Ground.guard }], guard := some (7, true) }) (v := ?_) rfl (by kernel_rfl) (by kernel_rfl) (by kernel_rfl) (fun _ _ _ h => h) (Or.inl ⟨by rfl, ?_⟩) (by assumption) ?_
      rotate_left
      · intro w hSw
        (try dsimp only at hSw)
        go_simp
        try with_reducible rfl
      (try simp only [Act.put, List.setIfInBounds_toArray, List.set_cons_zero, List.set_cons_succ])
      refine wpAnyH_take (i := 20) (oi := { dst := some 84, op := Go.Op.pick (Go.Operand.tmp 71) (Go.Operand.tmp 83) (Go.Operand.const (Go.Value.bool false)), type := 4, pos := "law.go:37", after := #[{ on := 7, ground := Go.Ground.data }, { on := 19, ground := Go.Ground.data }], guard := none }) (v := ?_) rfl (by kernel_rfl) (by kernel_rfl) (by kernel_rfl) (fun _ _ _ h => h) (Or.inl ⟨by rfl, ?_⟩) (by assumption) ?_
      rotate_left
      · intro w hSw
        (try dsimp only at hSw)
        go_simp
        try with_reducible rfl
      (try simp only [Act.put, List.setIfInBounds_toArray, List.set_cons_zero, List.set_cons_succ])
      refine wpAnyH_take (i := 21) (oi := { dst := some 4, op := Go.Op.assign (Go.Operand.tmp 84), type := 4, pos := "law.go:37", after := #[{ on := 20, ground := Go.Ground.data }, { on := 11, ground := Go.Ground.chain }, { on := 0, ground := Go.Ground.phase }, { on := 1, ground := Go.Ground.phase }, { on := 2, ground := Go.Ground.phase }, { on := 3, ground := Go.Ground.phase }, { on := 4, ground := Go.Ground.phase }, { on := 5, ground := Go.Ground.phase }, { on := 6, ground := Go.Ground.phase }, { on := 7, ground := Go.Ground.phase }, { on := 8, ground := Go.Ground.phase }, { on := 9, ground := Go.Ground.phase }, { on := 10, ground := Go.Ground.phase }, { on := 11, ground := Go.Ground.phase }, { on := 12, ground := Go.Ground.phase }, { on := 13, ground := Go.Ground.phase }, { on := 14, ground := Go.Ground.phase }, { on := 15, ground := Go.Ground.phase }, { on := 16, ground := Go.Ground.phase }, { on := 17, ground := Go.Ground.phase }, { on := 18, ground := Go.Ground.phase }, { on := 19, ground := Go.Ground.phase }, { on := 20, ground := Go.Ground.phase }], guard := none }) (v := ?_) rfl (by kernel_rfl) (by kernel_rfl) (by kernel_rfl) (fun _ _ _ h => h) (Or.inl ⟨by rfl, ?_⟩) (by assumption) ?_
      rotate_left
      · intro w hSw
        (try dsimp only at hSw)
        go_simp
        try with_reducible rfl
      (try simp only [Act.put, List.setIfInBounds_toArray, List.set_cons_zero, List.set_cons_succ])
      refine wpAnyH_done (by kernel_rfl) ?_ _
      all_goals
        go_wp2
        go_ret
        exact ⟨by first | (simp; done) | (simp_all; done), by assumption⟩
    · clear HD
      have eh1 : (v0 == v1) = false := by simpa using h1
      have eh2 : (A0 == A1) = false := by simpa using h2
      refine wp_region_held_drew (S := fun w' => w'.cell? ⟨w14.heap.size, 0, none⟩ = some (.int .i64 v0) ∧ w'.cell? ⟨w14.heap.size, 1, none⟩ = some (.int .u64 m0) ∧ w'.cell? ⟨w14.heap.size, 2, none⟩ = some (.int .i64 q0) ∧ w'.cell? ⟨w14.heap.size, 3, none⟩ = some (.bool s0) ∧ w'.cell? ⟨w14.heap.size, 4, none⟩ = some (.int .u32 t0) ∧ w'.cell? ⟨W.heap.size, 0, none⟩ = some (.int .i64 v0) ∧ w'.cell? ⟨W.heap.size, 1, none⟩ = some (.int .u64 m0) ∧ w'.cell? ⟨W.heap.size, 2, none⟩ = some (.int .i64 q0) ∧ w'.cell? ⟨W.heap.size, 3, none⟩ = some (.bool s0) ∧ w'.cell? ⟨W.heap.size, 4, none⟩ = some (.int .u32 t0) ∧ w'.cell? ⟨W.heap.size + 1, 0, none⟩ = some (.int .i64 v1) ∧ w'.cell? ⟨W.heap.size + 1, 1, none⟩ = some (.int .u64 m1) ∧ w'.cell? ⟨W.heap.size + 1, 2, none⟩ = some (.int .i64 q1) ∧ w'.cell? ⟨W.heap.size + 1, 3, none⟩ = some (.bool s1) ∧ w'.cell? ⟨W.heap.size + 1, 4, none⟩ = some (.int .u32 t1)) (by kernel_rfl) ?_ (fun hHeld => ?_)
      · exact ⟨e0, e1, e2, e3, e4, x0, x1, x2, x3, x4, y0, y1, y2, y3, y4⟩
      refine wpAnyH_take (i := 0) (oi := { dst := some 64, op := Go.Op.move (Go.Operand.tmp 10), type := 4, pos := "law.go:37", after := #[], guard := none }) (v := ?_) rfl (by kernel_rfl) (by kernel_rfl) (by kernel_rfl) (fun _ _ _ h => h) (Or.inl ⟨by rfl, ?_⟩) (by assumption) ?_
      rotate_left
      · intro w hSw
        (try dsimp only at hSw)
        go_simp
        try with_reducible rfl
      (try simp only [Act.put, List.setIfInBounds_toArray, List.set_cons_zero, List.set_cons_succ])
      refine wpAnyH_take (i := 1) (oi := { dst := some 65, op := Go.Op.move (Go.Operand.tmp 64), type := 4, pos := "law.go:37", after := #[{ on := 0, ground := Go.Ground.data }], guard := none }) (v := ?_) rfl (by kernel_rfl) (by kernel_rfl) (by kernel_rfl) (fun _ _ _ h => h) (Or.inl ⟨by rfl, ?_⟩) (by assumption) ?_
      rotate_left
      · intro w hSw
        (try dsimp only at hSw)
        go_simp
        try with_reducible rfl
      (try simp only [Act.put, List.setIfInBounds_toArray, List.set_cons_zero, List.set_cons_succ])
      refine wpAnyH_take (i := 2) (oi := { dst := some 66, op := Go.Op.load 81 (Go.Operand.tmp 9), type := 81, pos := "law.go:37", after := #[{ on := 1, ground := Go.Ground.guard }], guard := some (1, true) }) (v := ?_) rfl (by kernel_rfl) (by kernel_rfl) (by kernel_rfl) (fun _ _ _ h => h) (Or.inl ⟨by rfl, ?_⟩) (by assumption) ?_
      rotate_left
      · intro w hSw
        (try dsimp only at hSw)
        go_simp
        try with_reducible rfl
      (try simp only [Act.put, List.setIfInBounds_toArray, List.set_cons_zero, List.set_cons_succ])
      refine wpAnyH_take (i := 4) (oi := { dst := some 68, op := Go.Op.load 77 (Go.Operand.tmp 2), type := 77, pos := "law.go:37", after := #[{ on := 1, ground := Go.Ground.guard }], guard := some (1, true) }) (v := ?_) rfl (by kernel_rfl) (by kernel_rfl) (by kernel_rfl) (fun _ _ _ h => h) (Or.inl ⟨by rfl, ?_⟩) (by assumption) ?_
      rotate_left
      · intro w hSw
        (try dsimp only at hSw)
        go_simp
        try with_reducible rfl
      (try simp only [Act.put, List.setIfInBounds_toArray, List.set_cons_zero, List.set_cons_succ])
      refine wpAnyH_ready (rs := [3]) (by kernel_rfl) (by simp) ?_
      refine AllReadyH.cons (o := { dst := some 67, op := Go.Op.call { callee := Go.Callee.value (Go.Operand.func 55), args := #[Go.Operand.tmp 66], argTypes := #[81] }, type := 77, pos := "law.go:37", after := #[{ on := 2, ground := Go.Ground.data }, { on := 1, ground := Go.Ground.chain }, { on := 1, ground := Go.Ground.guard }], guard := some (1, true) }) rfl (fun K hK => ?_) AllReadyH.nil
      go_simp
      refine Calls.mono (HFr.out _) ?_
      rintro e w16 ⟨rfl, hb⟩
      have hB16 : Below W.heap.size W w16 := Below.trans (by (repeat' (first | (with_reducible exact Below.refl _ _) | (with_reducible assumption) | (with_reducible refine Below.setCell ?_ ?_ _) | (with_reducible refine Below.alloc ?_ ?_ _) | (with_reducible refine below_drewN ?_ _) | (with_reducible refine Below.drew ?_) | go_size))) (hb.mono (by go_size))
      have hz16 : W.heap.size + 2 ≤ w16.heap.size := (by have := hb.size; (try simp at this); omega)
      refine hK.out _ _ ?_ (fun hHeld => ?_)
      · (try dsimp only)
        exact keep555 (G := w14.heap.size + 1) (by omega) (by omega) (by omega) (by assumption) (fun p hp => hb.cell (Nat.lt_of_lt_of_le hp (by go_size)))
      clear hK K
      (try simp only [Act.put, List.setIfInBounds_toArray, List.set_cons_zero, List.set_cons_succ])
      refine wpAnyH_take (i := 5) (oi := { dst := some 69, op := Go.Op.binOp Go.BinOp.eql 77 (Go.Operand.tmp 67) (Go.Operand.tmp 68) 77, type := 4, pos := "law.go:37", after := #[{ on := 3, ground := Go.Ground.data }, { on := 4, ground := Go.Ground.data }, { on := 1, ground := Go.Ground.guard }], guard := some (1, true) }) (v := ?_) rfl (by kernel_rfl) (by kernel_rfl) (by kernel_rfl) (fun _ _ _ h => h) (Or.inl ⟨by rfl, ?_⟩) (by assumption) ?_
      rotate_left
      · intro w hSw
        (try dsimp only at hSw)
        go_simp
        try with_reducible rfl
      (try simp only [Act.put, List.setIfInBounds_toArray, List.set_cons_zero, List.set_cons_succ])
      refine wpAnyH_take (i := 6) (oi := { dst := some 70, op := Go.Op.pick (Go.Operand.tmp 65) (Go.Operand.tmp 69) (Go.Operand.const (Go.Value.bool false)), type := 4, pos := "law.go:37", after := #[{ on := 1, ground := Go.Ground.data }, { on := 5, ground := Go.Ground.data }], guard := none }) (v := ?_) rfl (by kernel_rfl) (by kernel_rfl) (by kernel_rfl) (fun _ _ _ h => h) (Or.inl ⟨by rfl, ?_⟩) (by assumption) ?_
      rotate_left
      · intro w hSw
        (try dsimp only at hSw)
        go_simp
        try with_reducible rfl
      (try simp only [Act.put, List.setIfInBounds_toArray, List.set_cons_zero, List.set_cons_succ])
      refine wpAnyH_take (i := 7) (oi := { dst := some 71, op := Go.Op.move (Go.Operand.tmp 70), type := 4, pos := "law.go:37", after := #[{ on := 6, ground := Go.Ground.data }, { on := 3, ground := Go.Ground.chain }], guard := none }) (v := ?_) rfl (by kernel_rfl) (by kernel_rfl) (by kernel_rfl) (fun _ _ _ h => h) (Or.inl ⟨by rfl, ?_⟩) (by assumption) ?_
      rotate_left
      · intro w hSw
        (try dsimp only at hSw)
        go_simp
        try with_reducible rfl
      (try simp only [Act.put, List.setIfInBounds_toArray, List.set_cons_zero, List.set_cons_succ])
      refine wpAnyH_take (i := 8) (oi := { dst := some 72, op := Go.Op.move (Go.Operand.tmp 5), type := 22, pos := "law.go:37", after := #[{ on := 7, ground := Go.Ground.guard }], guard := some (7, true) }) (v := ?_) rfl (by kernel_rfl) (by kernel_rfl) (by kernel_rfl) (fun _ _ _ h => h) (Or.inl ⟨by rfl, ?_⟩) (by assumption) ?_
      rotate_left
      · intro w hSw
        (try dsimp only at hSw)
        go_simp
        try with_reducible rfl
      (try simp only [Act.put, List.setIfInBounds_toArray, List.set_cons_zero, List.set_cons_succ])
      refine wpAnyH_take (i := 9) (oi := { dst := some 73, op := Go.Op.move (Go.Operand.tmp 7), type := 22, pos := "law.go:37", after := #[{ on := 7, ground := Go.Ground.guard }], guard := some (7, true) }) (v := ?_) rfl (by kernel_rfl) (by kernel_rfl) (by kernel_rfl) (fun _ _ _ h => h) (Or.inl ⟨by rfl, ?_⟩) (by assumption) ?_
      rotate_left
      · intro w hSw
        (try dsimp only at hSw)
        go_simp
        try with_reducible rfl
      (try simp only [Act.put, List.setIfInBounds_toArray, List.set_cons_zero, List.set_cons_succ])
      refine wpAnyH_take (i := 10) (oi := { dst := some 74, op := Go.Op.binOp Go.BinOp.eql 22 (Go.Operand.tmp 72) (Go.Operand.tmp 73) 22, type := 4, pos := "law.go:37", after := #[{ on := 8, ground := Go.Ground.data }, { on := 9, ground := Go.Ground.data }, { on := 7, ground := Go.Ground.guard }], guard := some (7, true) }) (v := ?_) rfl (by kernel_rfl) (by kernel_rfl) (by kernel_rfl) (fun _ _ _ h => h) (Or.inl ⟨by rfl, ?_⟩) (by assumption) ?_
      rotate_left
      · intro w hSw
        (try dsimp only at hSw)
        go_simp
        try with_reducible rfl
      (try simp only [Act.put, List.setIfInBounds_toArray, List.set_cons_zero, List.set_cons_succ])
      refine wpAnyH_take (i := 11) (oi := { dst := some 75, op := Go.Op.move (Go.Operand.tmp 74), type := 4, pos := "law.go:37", after := #[{ on := 10, ground := Go.Ground.data }, { on := 7, ground := Go.Ground.chain }, { on := 7, ground := Go.Ground.guard }], guard := some (7, true) }) (v := ?_) rfl (by kernel_rfl) (by kernel_rfl) (by kernel_rfl) (fun _ _ _ h => h) (Or.inl ⟨by rfl, ?_⟩) (by assumption) ?_
      rotate_left
      · intro w hSw
        (try dsimp only at hSw)
        go_simp
        try with_reducible rfl
      (try simp only [Act.put, List.setIfInBounds_toArray, List.set_cons_zero, List.set_cons_succ])
      refine wpAnyH_take (i := 12) (oi := { dst := some 76, op := Go.Op.move (Go.Operand.tmp 6), type := 22, pos := "law.go:37", after := #[{ on := 11, ground := Go.Ground.guard }], guard := some (11, true) }) (v := undef) rfl (by kernel_rfl) (by kernel_rfl) (by kernel_rfl) (fun _ _ _ h => h) (Or.inr ⟨by rfl, rfl⟩) (by assumption) ?_
      (try simp only [Act.put, List.setIfInBounds_toArray, List.set_cons_zero, List.set_cons_succ])
      refine wpAnyH_take (i := 13) (oi := { dst := some 77, op := Go.Op.move (Go.Operand.tmp 8), type := 22, pos := "law.go:37", after := #[{ on := 11, ground := Go.Ground.guard }], guard := some (11, true) }) (v := undef) rfl (by kernel_rfl) (by kernel_rfl) (by kernel_rfl) (fun _ _ _ h => h) (Or.inr ⟨by rfl, rfl⟩) (by assumption) ?_
      (try simp only [Act.put, List.setIfInBounds_toArray, List.set_cons_zero, List.set_cons_succ])
      refine wpAnyH_take (i := 14) (oi := { dst := some 78, op := Go.Op.binOp Go.BinOp.eql 22 (Go.Operand.tmp 76) (Go.Operand.tmp 77) 22, type := 4, pos := "law.go:37", after := #[{ on := 12, ground := Go.Ground.data }, { on := 13, ground := Go.Ground.data }, { on := 11, ground := Go.Ground.guard }], guard := some (11, true) }) (v := undef) rfl (by kernel_rfl) (by kernel_rfl) (by kernel_rfl) (fun _ _ _ h => h) (Or.inr ⟨by rfl, rfl⟩) (by assumption) ?_
      (try simp only [Act.put, List.setIfInBounds_toArray, List.set_cons_zero, List.set_cons_succ])
      refine wpAnyH_take (i := 15) (oi := { dst := some 79, op := Go.Op.pick (Go.Operand.tmp 75) (Go.Operand.tmp 78) (Go.Operand.const (Go.Value.bool false)), type := 4, pos := "law.go:37", after := #[{ on := 11, ground := Go.Ground.data }, { on := 14, ground := Go.Ground.data }, { on := 7, ground := Go.Ground.guard }], guard := some (7, true) }) (v := ?_) rfl (by kernel_rfl) (by kernel_rfl) (by kernel_rfl) (fun _ _ _ h => h) (Or.inl ⟨by rfl, ?_⟩) (by assumption) ?_
      rotate_left
      · intro w hSw
        (try dsimp only at hSw)
        go_simp
        try with_reducible rfl
      (try simp only [Act.put, List.setIfInBounds_toArray, List.set_cons_zero, List.set_cons_succ])
      refine wpAnyH_take (i := 16) (oi := { dst := some 80, op := Go.Op.load 77 (Go.Operand.tmp 2), type := 77, pos := "law.go:37", after := #[{ on := 7, ground := Go.Ground.guard }], guard := some (7, true) }) (v := ?_) rfl (by kernel_rfl) (by kernel_rfl) (by kernel_rfl) (fun _ _ _ h => h) (Or.inl ⟨by rfl, ?_⟩) (by assumption) ?_
      rotate_left
      · intro w hSw
        (try dsimp only at hSw)
        go_simp
        try with_reducible rfl
      (try simp only [Act.put, List.setIfInBounds_toArray, List.set_cons_zero, List.set_cons_succ])
      refine wpAnyH_take (i := 17) (oi := { dst := some 81, op := Go.Op.load 77 (Go.Operand.tmp 3), type := 77, pos := "law.go:37", after := #[{ on := 7, ground := Go.Ground.guard }], guard := some (7, true) }) (v := ?_) rfl (by kernel_rfl) (by kernel_rfl) (by kernel_rfl) (fun _ _ _ h => h) (Or.inl ⟨by rfl, ?_⟩) (by assumption) ?_
      rotate_left
      · intro w hSw
        (try dsimp only at hSw)
        go_simp
        try with_reducible rfl
      (try simp only [Act.put, List.setIfInBounds_toArray, List.set_cons_zero, List.set_cons_succ])
      refine wpAnyH_take (i := 18) (oi := { dst := some 82, op := Go.Op.binOp Go.BinOp.eql 77 (Go.Operand.tmp 80) (Go.Operand.tmp 81) 77, type := 4, pos := "law.go:37", after := #[{ on := 16, ground := Go.Ground.data }, { on := 17, ground := Go.Ground.data }, { on := 7, ground := Go.Ground.guard }], guard := some (7, true) }) (v := ?_) rfl (by kernel_rfl) (by kernel_rfl) (by kernel_rfl) (fun _ _ _ h => h) (Or.inl ⟨by rfl, ?_⟩) (by assumption) ?_
      rotate_left
      · intro w hSw
        (try dsimp only at hSw)
        go_simp
        try with_reducible rfl
      (try simp only [Act.put, List.setIfInBounds_toArray, List.set_cons_zero, List.set_cons_succ])
      refine wpAnyH_take (i := 19) (oi := { dst := some 83, op := Go.Op.binOp Go.BinOp.eql 4 (Go.Operand.tmp 79) (Go.Operand.tmp 82) 4, type := 4, pos := "law.go:37", after := #[{ on := 15, ground := Go.Ground.data }, { on := 18, ground := Go.Ground.data }, { on := 7, ground := Go.Ground.guard }], guard := some (7, true) }) (v := ?_) rfl (by kernel_rfl) (by kernel_rfl) (by kernel_rfl) (fun _ _ _ h => h) (Or.inl ⟨by rfl, ?_⟩) (by assumption) ?_
      rotate_left
      · intro w hSw
        (try dsimp only at hSw)
        go_simp
        try with_reducible rfl
      (try simp only [Act.put, List.setIfInBounds_toArray, List.set_cons_zero, List.set_cons_succ])
      refine wpAnyH_take (i := 20) (oi := { dst := some 84, op := Go.Op.pick (Go.Operand.tmp 71) (Go.Operand.tmp 83) (Go.Operand.const (Go.Value.bool false)), type := 4, pos := "law.go:37", after := #[{ on := 7, ground := Go.Ground.data }, { on := 19, ground := Go.Ground.data }], guard := none }) (v := ?_) rfl (by kernel_rfl) (by kernel_rfl) (by kernel_rfl) (fun _ _ _ h => h) (Or.inl ⟨by rfl, ?_⟩) (by assumption) ?_
      rotate_left
      · intro w hSw
        (try dsimp only at hSw)
        go_simp
        try with_reducible rfl
      (try simp only [Act.put, List.setIfInBounds_toArray, List.set_cons_zero, List.set_cons_succ])
      refine wpAnyH_take (i := 21) (oi := { dst := some 4, op := Go.Op.assign (Go.Operand.tmp 84), type := 4, pos := "law.go:37", after := #[{ on := 20, ground := Go.Ground.data }, { on := 11, ground := Go.Ground.chain }, { on := 0, ground := Go.Ground.phase }, { on := 1, ground := Go.Ground.phase }, { on := 2, ground := Go.Ground.phase }, { on := 3, ground := Go.Ground.phase }, { on := 4, ground := Go.Ground.phase }, { on := 5, ground := Go.Ground.phase }, { on := 6, ground := Go.Ground.phase }, { on := 7, ground := Go.Ground.phase }, { on := 8, ground := Go.Ground.phase }, { on := 9, ground := Go.Ground.phase }, { on := 10, ground := Go.Ground.phase }, { on := 11, ground := Go.Ground.phase }, { on := 12, ground := Go.Ground.phase }, { on := 13, ground := Go.Ground.phase }, { on := 14, ground := Go.Ground.phase }, { on := 15, ground := Go.Ground.phase }, { on := 16, ground := Go.Ground.phase }, { on := 17, ground := Go.Ground.phase }, { on := 18, ground := Go.Ground.phase }, { on := 19, ground := Go.Ground.phase }, { on := 20, ground := Go.Ground.phase }], guard := none }) (v := ?_) rfl (by kernel_rfl) (by kernel_rfl) (by kernel_rfl) (fun _ _ _ h => h) (Or.inl ⟨by rfl, ?_⟩) (by assumption) ?_
      rotate_left
      · intro w hSw
        (try dsimp only at hSw)
        go_simp
        try with_reducible rfl
      (try simp only [Act.put, List.setIfInBounds_toArray, List.set_cons_zero, List.set_cons_succ])
      refine wpAnyH_done (by kernel_rfl) ?_ _
      all_goals
        go_wp2
        go_ret
        exact ⟨by first | (simp; done) | (simp_all; done), by assumption⟩
    · subst h1
      clear HD
      have eh2 : (m0 == m1) = false := by simpa using h2
      have eh3 : (A0 == A1) = false := by simpa using h3
      refine wp_region_held_drew (S := fun w' => w'.cell? ⟨w14.heap.size, 0, none⟩ = some (.int .i64 v0) ∧ w'.cell? ⟨w14.heap.size, 1, none⟩ = some (.int .u64 m0) ∧ w'.cell? ⟨w14.heap.size, 2, none⟩ = some (.int .i64 q0) ∧ w'.cell? ⟨w14.heap.size, 3, none⟩ = some (.bool s0) ∧ w'.cell? ⟨w14.heap.size, 4, none⟩ = some (.int .u32 t0) ∧ w'.cell? ⟨W.heap.size, 0, none⟩ = some (.int .i64 v0) ∧ w'.cell? ⟨W.heap.size, 1, none⟩ = some (.int .u64 m0) ∧ w'.cell? ⟨W.heap.size, 2, none⟩ = some (.int .i64 q0) ∧ w'.cell? ⟨W.heap.size, 3, none⟩ = some (.bool s0) ∧ w'.cell? ⟨W.heap.size, 4, none⟩ = some (.int .u32 t0) ∧ w'.cell? ⟨W.heap.size + 1, 0, none⟩ = some (.int .i64 v0) ∧ w'.cell? ⟨W.heap.size + 1, 1, none⟩ = some (.int .u64 m1) ∧ w'.cell? ⟨W.heap.size + 1, 2, none⟩ = some (.int .i64 q1) ∧ w'.cell? ⟨W.heap.size + 1, 3, none⟩ = some (.bool s1) ∧ w'.cell? ⟨W.heap.size + 1, 4, none⟩ = some (.int .u32 t1)) (by kernel_rfl) ?_ (fun hHeld => ?_)
      · exact ⟨e0, e1, e2, e3, e4, x0, x1, x2, x3, x4, y0, y1, y2, y3, y4⟩
      refine wpAnyH_take (i := 0) (oi := { dst := some 64, op := Go.Op.move (Go.Operand.tmp 10), type := 4, pos := "law.go:37", after := #[], guard := none }) (v := ?_) rfl (by kernel_rfl) (by kernel_rfl) (by kernel_rfl) (fun _ _ _ h => h) (Or.inl ⟨by rfl, ?_⟩) (by assumption) ?_
      rotate_left
      · intro w hSw
        (try dsimp only at hSw)
        go_simp
        try with_reducible rfl
      (try simp only [Act.put, List.setIfInBounds_toArray, List.set_cons_zero, List.set_cons_succ])
      refine wpAnyH_take (i := 1) (oi := { dst := some 65, op := Go.Op.move (Go.Operand.tmp 64), type := 4, pos := "law.go:37", after := #[{ on := 0, ground := Go.Ground.data }], guard := none }) (v := ?_) rfl (by kernel_rfl) (by kernel_rfl) (by kernel_rfl) (fun _ _ _ h => h) (Or.inl ⟨by rfl, ?_⟩) (by assumption) ?_
      rotate_left
      · intro w hSw
        (try dsimp only at hSw)
        go_simp
        try with_reducible rfl
      (try simp only [Act.put, List.setIfInBounds_toArray, List.set_cons_zero, List.set_cons_succ])
      refine wpAnyH_take (i := 2) (oi := { dst := some 66, op := Go.Op.load 81 (Go.Operand.tmp 9), type := 81, pos := "law.go:37", after := #[{ on := 1, ground := Go.Ground.guard }], guard := some (1, true) }) (v := ?_) rfl (by kernel_rfl) (by kernel_rfl) (by kernel_rfl) (fun _ _ _ h => h) (Or.inl ⟨by rfl, ?_⟩) (by assumption) ?_
      rotate_left
      · intro w hSw
        (try dsimp only at hSw)
        go_simp
        try with_reducible rfl
      (try simp only [Act.put, List.setIfInBounds_toArray, List.set_cons_zero, List.set_cons_succ])
      refine wpAnyH_take (i := 4) (oi := { dst := some 68, op := Go.Op.load 77 (Go.Operand.tmp 2), type := 77, pos := "law.go:37", after := #[{ on := 1, ground := Go.Ground.guard }], guard := some (1, true) }) (v := ?_) rfl (by kernel_rfl) (by kernel_rfl) (by kernel_rfl) (fun _ _ _ h => h) (Or.inl ⟨by rfl, ?_⟩) (by assumption) ?_
      rotate_left
      · intro w hSw
        (try dsimp only at hSw)
        go_simp
        try with_reducible rfl
      (try simp only [Act.put, List.setIfInBounds_toArray, List.set_cons_zero, List.set_cons_succ])
      refine wpAnyH_ready (rs := [3]) (by kernel_rfl) (by simp) ?_
      refine AllReadyH.cons (o := { dst := some 67, op := Go.Op.call { callee := Go.Callee.value (Go.Operand.func 55), args := #[Go.Operand.tmp 66], argTypes := #[81] }, type := 77, pos := "law.go:37", after := #[{ on := 2, ground := Go.Ground.data }, { on := 1, ground := Go.Ground.chain }, { on := 1, ground := Go.Ground.guard }], guard := some (1, true) }) rfl (fun K hK => ?_) AllReadyH.nil
      go_simp
      refine Calls.mono (HFr.out _) ?_
      rintro e w16 ⟨rfl, hb⟩
      have hB16 : Below W.heap.size W w16 := Below.trans (by (repeat' (first | (with_reducible exact Below.refl _ _) | (with_reducible assumption) | (with_reducible refine Below.setCell ?_ ?_ _) | (with_reducible refine Below.alloc ?_ ?_ _) | (with_reducible refine below_drewN ?_ _) | (with_reducible refine Below.drew ?_) | go_size))) (hb.mono (by go_size))
      have hz16 : W.heap.size + 2 ≤ w16.heap.size := (by have := hb.size; (try simp at this); omega)
      refine hK.out _ _ ?_ (fun hHeld => ?_)
      · (try dsimp only)
        exact keep555 (G := w14.heap.size + 1) (by omega) (by omega) (by omega) (by assumption) (fun p hp => hb.cell (Nat.lt_of_lt_of_le hp (by go_size)))
      clear hK K
      (try simp only [Act.put, List.setIfInBounds_toArray, List.set_cons_zero, List.set_cons_succ])
      refine wpAnyH_take (i := 5) (oi := { dst := some 69, op := Go.Op.binOp Go.BinOp.eql 77 (Go.Operand.tmp 67) (Go.Operand.tmp 68) 77, type := 4, pos := "law.go:37", after := #[{ on := 3, ground := Go.Ground.data }, { on := 4, ground := Go.Ground.data }, { on := 1, ground := Go.Ground.guard }], guard := some (1, true) }) (v := ?_) rfl (by kernel_rfl) (by kernel_rfl) (by kernel_rfl) (fun _ _ _ h => h) (Or.inl ⟨by rfl, ?_⟩) (by assumption) ?_
      rotate_left
      · intro w hSw
        (try dsimp only at hSw)
        go_simp
        try with_reducible rfl
      (try simp only [Act.put, List.setIfInBounds_toArray, List.set_cons_zero, List.set_cons_succ])
      refine wpAnyH_take (i := 6) (oi := { dst := some 70, op := Go.Op.pick (Go.Operand.tmp 65) (Go.Operand.tmp 69) (Go.Operand.const (Go.Value.bool false)), type := 4, pos := "law.go:37", after := #[{ on := 1, ground := Go.Ground.data }, { on := 5, ground := Go.Ground.data }], guard := none }) (v := ?_) rfl (by kernel_rfl) (by kernel_rfl) (by kernel_rfl) (fun _ _ _ h => h) (Or.inl ⟨by rfl, ?_⟩) (by assumption) ?_
      rotate_left
      · intro w hSw
        (try dsimp only at hSw)
        go_simp
        try with_reducible rfl
      (try simp only [Act.put, List.setIfInBounds_toArray, List.set_cons_zero, List.set_cons_succ])
      refine wpAnyH_take (i := 7) (oi := { dst := some 71, op := Go.Op.move (Go.Operand.tmp 70), type := 4, pos := "law.go:37", after := #[{ on := 6, ground := Go.Ground.data }, { on := 3, ground := Go.Ground.chain }], guard := none }) (v := ?_) rfl (by kernel_rfl) (by kernel_rfl) (by kernel_rfl) (fun _ _ _ h => h) (Or.inl ⟨by rfl, ?_⟩) (by assumption) ?_
      rotate_left
      · intro w hSw
        (try dsimp only at hSw)
        go_simp
        try with_reducible rfl
      (try simp only [Act.put, List.setIfInBounds_toArray, List.set_cons_zero, List.set_cons_succ])
      refine wpAnyH_take (i := 8) (oi := { dst := some 72, op := Go.Op.move (Go.Operand.tmp 5), type := 22, pos := "law.go:37", after := #[{ on := 7, ground := Go.Ground.guard }], guard := some (7, true) }) (v := ?_) rfl (by kernel_rfl) (by kernel_rfl) (by kernel_rfl) (fun _ _ _ h => h) (Or.inl ⟨by rfl, ?_⟩) (by assumption) ?_
      rotate_left
      · intro w hSw
        (try dsimp only at hSw)
        go_simp
        try with_reducible rfl
      (try simp only [Act.put, List.setIfInBounds_toArray, List.set_cons_zero, List.set_cons_succ])
      refine wpAnyH_take (i := 9) (oi := { dst := some 73, op := Go.Op.move (Go.Operand.tmp 7), type := 22, pos := "law.go:37", after := #[{ on := 7, ground := Go.Ground.guard }], guard := some (7, true) }) (v := ?_) rfl (by kernel_rfl) (by kernel_rfl) (by kernel_rfl) (fun _ _ _ h => h) (Or.inl ⟨by rfl, ?_⟩) (by assumption) ?_
      rotate_left
      · intro w hSw
        (try dsimp only at hSw)
        go_simp
        try with_reducible rfl
      (try simp only [Act.put, List.setIfInBounds_toArray, List.set_cons_zero, List.set_cons_succ])
      refine wpAnyH_take (i := 10) (oi := { dst := some 74, op := Go.Op.binOp Go.BinOp.eql 22 (Go.Operand.tmp 72) (Go.Operand.tmp 73) 22, type := 4, pos := "law.go:37", after := #[{ on := 8, ground := Go.Ground.data }, { on := 9, ground := Go.Ground.data }, { on := 7, ground := Go.Ground.guard }], guard := some (7, true) }) (v := ?_) rfl (by kernel_rfl) (by kernel_rfl) (by kernel_rfl) (fun _ _ _ h => h) (Or.inl ⟨by rfl, ?_⟩) (by assumption) ?_
      rotate_left
      · intro w hSw
        (try dsimp only at hSw)
        go_simp
        try with_reducible rfl
      (try simp only [Act.put, List.setIfInBounds_toArray, List.set_cons_zero, List.set_cons_succ])
      refine wpAnyH_take (i := 11) (oi := { dst := some 75, op := Go.Op.move (Go.Operand.tmp 74), type := 4, pos := "law.go:37", after := #[{ on := 10, ground := Go.Ground.data }, { on := 7, ground := Go.Ground.chain }, { on := 7, ground := Go.Ground.guard }], guard := some (7, true) }) (v := ?_) rfl (by kernel_rfl) (by kernel_rfl) (by kernel_rfl) (fun _ _ _ h => h) (Or.inl ⟨by rfl, ?_⟩) (by assumption) ?_
      rotate_left
      · intro w hSw
        (try dsimp only at hSw)
        go_simp
        try with_reducible rfl
      (try simp only [Act.put, List.setIfInBounds_toArray, List.set_cons_zero, List.set_cons_succ])
      refine wpAnyH_take (i := 12) (oi := { dst := some 76, op := Go.Op.move (Go.Operand.tmp 6), type := 22, pos := "law.go:37", after := #[{ on := 11, ground := Go.Ground.guard }], guard := some (11, true) }) (v := undef) rfl (by kernel_rfl) (by kernel_rfl) (by kernel_rfl) (fun _ _ _ h => h) (Or.inr ⟨by rfl, rfl⟩) (by assumption) ?_
      (try simp only [Act.put, List.setIfInBounds_toArray, List.set_cons_zero, List.set_cons_succ])
      refine wpAnyH_take (i := 13) (oi := { dst := some 77, op := Go.Op.move (Go.Operand.tmp 8), type := 22, pos := "law.go:37", after := #[{ on := 11, ground := Go.Ground.guard }], guard := some (11, true) }) (v := undef) rfl (by kernel_rfl) (by kernel_rfl) (by kernel_rfl) (fun _ _ _ h => h) (Or.inr ⟨by rfl, rfl⟩) (by assumption) ?_
      (try simp only [Act.put, List.setIfInBounds_toArray, List.set_cons_zero, List.set_cons_succ])
      refine wpAnyH_take (i := 14) (oi := { dst := some 78, op := Go.Op.binOp Go.BinOp.eql 22 (Go.Operand.tmp 76) (Go.Operand.tmp 77) 22, type := 4, pos := "law.go:37", after := #[{ on := 12, ground := Go.Ground.data }, { on := 13, ground := Go.Ground.data }, { on := 11, ground := Go.Ground.guard }], guard := some (11, true) }) (v := undef) rfl (by kernel_rfl) (by kernel_rfl) (by kernel_rfl) (fun _ _ _ h => h) (Or.inr ⟨by rfl, rfl⟩) (by assumption) ?_
      (try simp only [Act.put, List.setIfInBounds_toArray, List.set_cons_zero, List.set_cons_succ])
      refine wpAnyH_take (i := 15) (oi := { dst := some 79, op := Go.Op.pick (Go.Operand.tmp 75) (Go.Operand.tmp 78) (Go.Operand.const (Go.Value.bool false)), type := 4, pos := "law.go:37", after := #[{ on := 11, ground := Go.Ground.data }, { on := 14, ground := Go.Ground.data }, { on := 7, ground := Go.Ground.guard }], guard := some (7, true) }) (v := ?_) rfl (by kernel_rfl) (by kernel_rfl) (by kernel_rfl) (fun _ _ _ h => h) (Or.inl ⟨by rfl, ?_⟩) (by assumption) ?_
      rotate_left
      · intro w hSw
        (try dsimp only at hSw)
        go_simp
        try with_reducible rfl
      (try simp only [Act.put, List.setIfInBounds_toArray, List.set_cons_zero, List.set_cons_succ])
      refine wpAnyH_take (i := 16) (oi := { dst := some 80, op := Go.Op.load 77 (Go.Operand.tmp 2), type := 77, pos := "law.go:37", after := #[{ on := 7, ground := Go.Ground.guard }], guard := some (7, true) }) (v := ?_) rfl (by kernel_rfl) (by kernel_rfl) (by kernel_rfl) (fun _ _ _ h => h) (Or.inl ⟨by rfl, ?_⟩) (by assumption) ?_
      rotate_left
      · intro w hSw
        (try dsimp only at hSw)
        go_simp
        try with_reducible rfl
      (try simp only [Act.put, List.setIfInBounds_toArray, List.set_cons_zero, List.set_cons_succ])
      refine wpAnyH_take (i := 17) (oi := { dst := some 81, op := Go.Op.load 77 (Go.Operand.tmp 3), type := 77, pos := "law.go:37", after := #[{ on := 7, ground := Go.Ground.guard }], guard := some (7, true) }) (v := ?_) rfl (by kernel_rfl) (by kernel_rfl) (by kernel_rfl) (fun _ _ _ h => h) (Or.inl ⟨by rfl, ?_⟩) (by assumption) ?_
      rotate_left
      · intro w hSw
        (try dsimp only at hSw)
        go_simp
        try with_reducible rfl
      (try simp only [Act.put, List.setIfInBounds_toArray, List.set_cons_zero, List.set_cons_succ])
      refine wpAnyH_take (i := 18) (oi := { dst := some 82, op := Go.Op.binOp Go.BinOp.eql 77 (Go.Operand.tmp 80) (Go.Operand.tmp 81) 77, type := 4, pos := "law.go:37", after := #[{ on := 16, ground := Go.Ground.data }, { on := 17, ground := Go.Ground.data }, { on := 7, ground := Go.Ground.guard }], guard := some (7, true) }) (v := ?_) rfl (by kernel_rfl) (by kernel_rfl) (by kernel_rfl) (fun _ _ _ h => h) (Or.inl ⟨by rfl, ?_⟩) (by assumption) ?_
      rotate_left
      · intro w hSw
        (try dsimp only at hSw)
        go_simp
        try with_reducible rfl
      (try simp only [Act.put, List.setIfInBounds_toArray, List.set_cons_zero, List.set_cons_succ])
      refine wpAnyH_take (i := 19) (oi := { dst := some 83, op := Go.Op.binOp Go.BinOp.eql 4 (Go.Operand.tmp 79) (Go.Operand.tmp 82) 4, type := 4, pos := "law.go:37", after := #[{ on := 15, ground := Go.Ground.data }, { on := 18, ground := Go.Ground.data }, { on := 7, ground := Go.Ground.guard }], guard := some (7, true) }) (v := ?_) rfl (by kernel_rfl) (by kernel_rfl) (by kernel_rfl) (fun _ _ _ h => h) (Or.inl ⟨by rfl, ?_⟩) (by assumption) ?_
      rotate_left
      · intro w hSw
        (try dsimp only at hSw)
        go_simp
        try with_reducible rfl
      (try simp only [Act.put, List.setIfInBounds_toArray, List.set_cons_zero, List.set_cons_succ])
      refine wpAnyH_take (i := 20) (oi := { dst := some 84, op := Go.Op.pick (Go.Operand.tmp 71) (Go.Operand.tmp 83) (Go.Operand.const (Go.Value.bool false)), type := 4, pos := "law.go:37", after := #[{ on := 7, ground := Go.Ground.data }, { on := 19, ground := Go.Ground.data }], guard := none }) (v := ?_) rfl (by kernel_rfl) (by kernel_rfl) (by kernel_rfl) (fun _ _ _ h => h) (Or.inl ⟨by rfl, ?_⟩) (by assumption) ?_
      rotate_left
      · intro w hSw
        (try dsimp only at hSw)
        go_simp
        try with_reducible rfl
      (try simp only [Act.put, List.setIfInBounds_toArray, List.set_cons_zero, List.set_cons_succ])
      refine wpAnyH_take (i := 21) (oi := { dst := some 4, op := Go.Op.assign (Go.Operand.tmp 84), type := 4, pos := "law.go:37", after := #[{ on := 20, ground := Go.Ground.data }, { on := 11, ground := Go.Ground.chain }, { on := 0, ground := Go.Ground.phase }, { on := 1, ground := Go.Ground.phase }, { on := 2, ground := Go.Ground.phase }, { on := 3, ground := Go.Ground.phase }, { on := 4, ground := Go.Ground.phase }, { on := 5, ground := Go.Ground.phase }, { on := 6, ground := Go.Ground.phase }, { on := 7, ground := Go.Ground.phase }, { on := 8, ground := Go.Ground.phase }, { on := 9, ground := Go.Ground.phase }, { on := 10, ground := Go.Ground.phase }, { on := 11, ground := Go.Ground.phase }, { on := 12, ground := Go.Ground.phase }, { on := 13, ground := Go.Ground.phase }, { on := 14, ground := Go.Ground.phase }, { on := 15, ground := Go.Ground.phase }, { on := 16, ground := Go.Ground.phase }, { on := 17, ground := Go.Ground.phase }, { on := 18, ground := Go.Ground.phase }, { on := 19, ground := Go.Ground.phase }, { on := 20, ground := Go.Ground.phase }], guard := none }) (v := ?_) rfl (by kernel_rfl) (by kernel_rfl) (by kernel_rfl) (fun _ _ _ h => h) (Or.inl ⟨by rfl, ?_⟩) (by assumption) ?_
      rotate_left
      · intro w hSw
        (try dsimp only at hSw)
        go_simp
        try with_reducible rfl
      (try simp only [Act.put, List.setIfInBounds_toArray, List.set_cons_zero, List.set_cons_succ])
      refine wpAnyH_done (by kernel_rfl) ?_ _
      all_goals
        go_wp2
        go_ret
        exact ⟨by first | (simp; done) | (simp_all; done), by assumption⟩
    · subst h1 h2 h3
      clear HD
      have eh4 : (q0 == q1) = false := by simpa using h4
      have eh5 : (B0 == B1) = false := by simpa using h5
      refine wp_region_held_drew (S := fun w' => w'.cell? ⟨w14.heap.size, 0, none⟩ = some (.int .i64 v0) ∧ w'.cell? ⟨w14.heap.size, 1, none⟩ = some (.int .u64 m0) ∧ w'.cell? ⟨w14.heap.size, 2, none⟩ = some (.int .i64 q0) ∧ w'.cell? ⟨w14.heap.size, 3, none⟩ = some (.bool s0) ∧ w'.cell? ⟨w14.heap.size, 4, none⟩ = some (.int .u32 t0) ∧ w'.cell? ⟨W.heap.size, 0, none⟩ = some (.int .i64 v0) ∧ w'.cell? ⟨W.heap.size, 1, none⟩ = some (.int .u64 m0) ∧ w'.cell? ⟨W.heap.size, 2, none⟩ = some (.int .i64 q0) ∧ w'.cell? ⟨W.heap.size, 3, none⟩ = some (.bool s0) ∧ w'.cell? ⟨W.heap.size, 4, none⟩ = some (.int .u32 t0) ∧ w'.cell? ⟨W.heap.size + 1, 0, none⟩ = some (.int .i64 v0) ∧ w'.cell? ⟨W.heap.size + 1, 1, none⟩ = some (.int .u64 m0) ∧ w'.cell? ⟨W.heap.size + 1, 2, none⟩ = some (.int .i64 q1) ∧ w'.cell? ⟨W.heap.size + 1, 3, none⟩ = some (.bool s1) ∧ w'.cell? ⟨W.heap.size + 1, 4, none⟩ = some (.int .u32 t1)) (by kernel_rfl) ?_ (fun hHeld => ?_)
      · exact ⟨e0, e1, e2, e3, e4, x0, x1, x2, x3, x4, y0, y1, y2, y3, y4⟩
      refine wpAnyH_take (i := 0) (oi := { dst := some 64, op := Go.Op.move (Go.Operand.tmp 10), type := 4, pos := "law.go:37", after := #[], guard := none }) (v := ?_) rfl (by kernel_rfl) (by kernel_rfl) (by kernel_rfl) (fun _ _ _ h => h) (Or.inl ⟨by rfl, ?_⟩) (by assumption) ?_
      rotate_left
      · intro w hSw
        (try dsimp only at hSw)
        go_simp
        try with_reducible rfl
      (try simp only [Act.put, List.setIfInBounds_toArray, List.set_cons_zero, List.set_cons_succ])
      refine wpAnyH_take (i := 1) (oi := { dst := some 65, op := Go.Op.move (Go.Operand.tmp 64), type := 4, pos := "law.go:37", after := #[{ on := 0, ground := Go.Ground.data }], guard := none }) (v := ?_) rfl (by kernel_rfl) (by kernel_rfl) (by kernel_rfl) (fun _ _ _ h => h) (Or.inl ⟨by rfl, ?_⟩) (by assumption) ?_
      rotate_left
      · intro w hSw
        (try dsimp only at hSw)
        go_simp
        try with_reducible rfl
      (try simp only [Act.put, List.setIfInBounds_toArray, List.set_cons_zero, List.set_cons_succ])
      refine wpAnyH_take (i := 2) (oi := { dst := some 66, op := Go.Op.load 81 (Go.Operand.tmp 9), type := 81, pos := "law.go:37", after := #[{ on := 1, ground := Go.Ground.guard }], guard := some (1, true) }) (v := ?_) rfl (by kernel_rfl) (by kernel_rfl) (by kernel_rfl) (fun _ _ _ h => h) (Or.inl ⟨by rfl, ?_⟩) (by assumption) ?_
      rotate_left
      · intro w hSw
        (try dsimp only at hSw)
        go_simp
        try with_reducible rfl
      (try simp only [Act.put, List.setIfInBounds_toArray, List.set_cons_zero, List.set_cons_succ])
      refine wpAnyH_take (i := 4) (oi := { dst := some 68, op := Go.Op.load 77 (Go.Operand.tmp 2), type := 77, pos := "law.go:37", after := #[{ on := 1, ground := Go.Ground.guard }], guard := some (1, true) }) (v := ?_) rfl (by kernel_rfl) (by kernel_rfl) (by kernel_rfl) (fun _ _ _ h => h) (Or.inl ⟨by rfl, ?_⟩) (by assumption) ?_
      rotate_left
      · intro w hSw
        (try dsimp only at hSw)
        go_simp
        try with_reducible rfl
      (try simp only [Act.put, List.setIfInBounds_toArray, List.set_cons_zero, List.set_cons_succ])
      refine wpAnyH_ready (rs := [3]) (by kernel_rfl) (by simp) ?_
      refine AllReadyH.cons (o := { dst := some 67, op := Go.Op.call { callee := Go.Callee.value (Go.Operand.func 55), args := #[Go.Operand.tmp 66], argTypes := #[81] }, type := 77, pos := "law.go:37", after := #[{ on := 2, ground := Go.Ground.data }, { on := 1, ground := Go.Ground.chain }, { on := 1, ground := Go.Ground.guard }], guard := some (1, true) }) rfl (fun K hK => ?_) AllReadyH.nil
      go_simp
      refine Calls.mono (HFr.out _) ?_
      rintro e w16 ⟨rfl, hb⟩
      have hB16 : Below W.heap.size W w16 := Below.trans (by (repeat' (first | (with_reducible exact Below.refl _ _) | (with_reducible assumption) | (with_reducible refine Below.setCell ?_ ?_ _) | (with_reducible refine Below.alloc ?_ ?_ _) | (with_reducible refine below_drewN ?_ _) | (with_reducible refine Below.drew ?_) | go_size))) (hb.mono (by go_size))
      have hz16 : W.heap.size + 2 ≤ w16.heap.size := (by have := hb.size; (try simp at this); omega)
      refine hK.out _ _ ?_ (fun hHeld => ?_)
      · (try dsimp only)
        exact keep555 (G := w14.heap.size + 1) (by omega) (by omega) (by omega) (by assumption) (fun p hp => hb.cell (Nat.lt_of_lt_of_le hp (by go_size)))
      clear hK K
      (try simp only [Act.put, List.setIfInBounds_toArray, List.set_cons_zero, List.set_cons_succ])
      refine wpAnyH_take (i := 5) (oi := { dst := some 69, op := Go.Op.binOp Go.BinOp.eql 77 (Go.Operand.tmp 67) (Go.Operand.tmp 68) 77, type := 4, pos := "law.go:37", after := #[{ on := 3, ground := Go.Ground.data }, { on := 4, ground := Go.Ground.data }, { on := 1, ground := Go.Ground.guard }], guard := some (1, true) }) (v := ?_) rfl (by kernel_rfl) (by kernel_rfl) (by kernel_rfl) (fun _ _ _ h => h) (Or.inl ⟨by rfl, ?_⟩) (by assumption) ?_
      rotate_left
      · intro w hSw
        (try dsimp only at hSw)
        go_simp
        try with_reducible rfl
      (try simp only [Act.put, List.setIfInBounds_toArray, List.set_cons_zero, List.set_cons_succ])
      refine wpAnyH_take (i := 6) (oi := { dst := some 70, op := Go.Op.pick (Go.Operand.tmp 65) (Go.Operand.tmp 69) (Go.Operand.const (Go.Value.bool false)), type := 4, pos := "law.go:37", after := #[{ on := 1, ground := Go.Ground.data }, { on := 5, ground := Go.Ground.data }], guard := none }) (v := ?_) rfl (by kernel_rfl) (by kernel_rfl) (by kernel_rfl) (fun _ _ _ h => h) (Or.inl ⟨by rfl, ?_⟩) (by assumption) ?_
      rotate_left
      · intro w hSw
        (try dsimp only at hSw)
        go_simp
        try with_reducible rfl
      (try simp only [Act.put, List.setIfInBounds_toArray, List.set_cons_zero, List.set_cons_succ])
      refine wpAnyH_take (i := 7) (oi := { dst := some 71, op := Go.Op.move (Go.Operand.tmp 70), type := 4, pos := "law.go:37", after := #[{ on := 6, ground := Go.Ground.data }, { on := 3, ground := Go.Ground.chain }], guard := none }) (v := ?_) rfl (by kernel_rfl) (by kernel_rfl) (by kernel_rfl) (fun _ _ _ h => h) (Or.inl ⟨by rfl, ?_⟩) (by assumption) ?_
      rotate_left
      · intro w hSw
        (try dsimp only at hSw)
        go_simp
        try with_reducible rfl
      (try simp only [Act.put, List.setIfInBounds_toArray, List.set_cons_zero, List.set_cons_succ])
      refine wpAnyH_take (i := 8) (oi := { dst := some 72, op := Go.Op.move (Go.Operand.tmp 5), type := 22, pos := "law.go:37", after := #[{ on := 7, ground := Go.Ground.guard }], guard := some (7, true) }) (v := ?_) rfl (by kernel_rfl) (by kernel_rfl) (by kernel_rfl) (fun _ _ _ h => h) (Or.inl ⟨by rfl, ?_⟩) (by assumption) ?_
      rotate_left
      · intro w hSw
        (try dsimp only at hSw)
        go_simp
        try with_reducible rfl
      (try simp only [Act.put, List.setIfInBounds_toArray, List.set_cons_zero, List.set_cons_succ])
      refine wpAnyH_take (i := 9) (oi := { dst := some 73, op := Go.Op.move (Go.Operand.tmp 7), type := 22, pos := "law.go:37", after := #[{ on := 7, ground := Go.Ground.guard }], guard := some (7, true) }) (v := ?_) rfl (by kernel_rfl) (by kernel_rfl) (by kernel_rfl) (fun _ _ _ h => h) (Or.inl ⟨by rfl, ?_⟩) (by assumption) ?_
      rotate_left
      · intro w hSw
        (try dsimp only at hSw)
        go_simp
        try with_reducible rfl
      (try simp only [Act.put, List.setIfInBounds_toArray, List.set_cons_zero, List.set_cons_succ])
      refine wpAnyH_take (i := 10) (oi := { dst := some 74, op := Go.Op.binOp Go.BinOp.eql 22 (Go.Operand.tmp 72) (Go.Operand.tmp 73) 22, type := 4, pos := "law.go:37", after := #[{ on := 8, ground := Go.Ground.data }, { on := 9, ground := Go.Ground.data }, { on := 7, ground := Go.Ground.guard }], guard := some (7, true) }) (v := ?_) rfl (by kernel_rfl) (by kernel_rfl) (by kernel_rfl) (fun _ _ _ h => h) (Or.inl ⟨by rfl, ?_⟩) (by assumption) ?_
      rotate_left
      · intro w hSw
        (try dsimp only at hSw)
        go_simp
        try with_reducible rfl
      (try simp only [Act.put, List.setIfInBounds_toArray, List.set_cons_zero, List.set_cons_succ])
      refine wpAnyH_take (i := 11) (oi := { dst := some 75, op := Go.Op.move (Go.Operand.tmp 74), type := 4, pos := "law.go:37", after := #[{ on := 10, ground := Go.Ground.data }, { on := 7, ground := Go.Ground.chain }, { on := 7, ground := Go.Ground.guard }], guard := some (7, true) }) (v := ?_) rfl (by kernel_rfl) (by kernel_rfl) (by kernel_rfl) (fun _ _ _ h => h) (Or.inl ⟨by rfl, ?_⟩) (by assumption) ?_
      rotate_left
      · intro w hSw
        (try dsimp only at hSw)
        go_simp
        try with_reducible rfl
      (try simp only [Act.put, List.setIfInBounds_toArray, List.set_cons_zero, List.set_cons_succ])
      refine wpAnyH_take (i := 12) (oi := { dst := some 76, op := Go.Op.move (Go.Operand.tmp 6), type := 22, pos := "law.go:37", after := #[{ on := 11, ground := Go.Ground.guard }], guard := some (11, true) }) (v := ?_) rfl (by kernel_rfl) (by kernel_rfl) (by kernel_rfl) (fun _ _ _ h => h) (Or.inl ⟨by rfl, ?_⟩) (by assumption) ?_
      rotate_left
      · intro w hSw
        (try dsimp only at hSw)
        go_simp
        try with_reducible rfl
      (try simp only [Act.put, List.setIfInBounds_toArray, List.set_cons_zero, List.set_cons_succ])
      refine wpAnyH_take (i := 13) (oi := { dst := some 77, op := Go.Op.move (Go.Operand.tmp 8), type := 22, pos := "law.go:37", after := #[{ on := 11, ground := Go.Ground.guard }], guard := some (11, true) }) (v := ?_) rfl (by kernel_rfl) (by kernel_rfl) (by kernel_rfl) (fun _ _ _ h => h) (Or.inl ⟨by rfl, ?_⟩) (by assumption) ?_
      rotate_left
      · intro w hSw
        (try dsimp only at hSw)
        go_simp
        try with_reducible rfl
      (try simp only [Act.put, List.setIfInBounds_toArray, List.set_cons_zero, List.set_cons_succ])
      refine wpAnyH_take (i := 14) (oi := { dst := some 78, op := Go.Op.binOp Go.BinOp.eql 22 (Go.Operand.tmp 76) (Go.Operand.tmp 77) 22, type := 4, pos := "law.go:37", after := #[{ on := 12, ground := Go.Ground.data }, { on := 13, ground := Go.Ground.data }, { on := 11, ground := Go.Ground.guard }], guard := some (11, true) }) (v := ?_) rfl (by kernel_rfl) (by kernel_rfl) (by kernel_rfl) (fun _ _ _ h => h) (Or.inl ⟨by rfl, ?_⟩) (by assumption) ?_
      rotate_left
      · intro w hSw
        (try dsimp only at hSw)
        go_simp
        try with_reducible rfl
      (try simp only [Act.put, List.setIfInBounds_toArray, List.set_cons_zero, List.set_cons_succ])
      refine wpAnyH_take (i := 15) (oi := { dst := some 79, op := Go.Op.pick (Go.Operand.tmp 75) (Go.Operand.tmp 78) (Go.Operand.const (Go.Value.bool false)), type := 4, pos := "law.go:37", after := #[{ on := 11, ground := Go.Ground.data }, { on := 14, ground := Go.Ground.data }, { on := 7, ground := Go.Ground.guard }], guard := some (7, true) }) (v := ?_) rfl (by kernel_rfl) (by kernel_rfl) (by kernel_rfl) (fun _ _ _ h => h) (Or.inl ⟨by rfl, ?_⟩) (by assumption) ?_
      rotate_left
      · intro w hSw
        (try dsimp only at hSw)
        go_simp
        try with_reducible rfl
      (try simp only [Act.put, List.setIfInBounds_toArray, List.set_cons_zero, List.set_cons_succ])
      refine wpAnyH_take (i := 16) (oi := { dst := some 80, op := Go.Op.load 77 (Go.Operand.tmp 2), type := 77, pos := "law.go:37", after := #[{ on := 7, ground := Go.Ground.guard }], guard := some (7, true) }) (v := ?_) rfl (by kernel_rfl) (by kernel_rfl) (by kernel_rfl) (fun _ _ _ h => h) (Or.inl ⟨by rfl, ?_⟩) (by assumption) ?_
      rotate_left
      · intro w hSw
        (try dsimp only at hSw)
        go_simp
        try with_reducible rfl
      (try simp only [Act.put, List.setIfInBounds_toArray, List.set_cons_zero, List.set_cons_succ])
      refine wpAnyH_take (i := 17) (oi := { dst := some 81, op := Go.Op.load 77 (Go.Operand.tmp 3), type := 77, pos := "law.go:37", after := #[{ on := 7, ground := Go.Ground.guard }], guard := some (7, true) }) (v := ?_) rfl (by kernel_rfl) (by kernel_rfl) (by kernel_rfl) (fun _ _ _ h => h) (Or.inl ⟨by rfl, ?_⟩) (by assumption) ?_
      rotate_left
      · intro w hSw
        (try dsimp only at hSw)
        go_simp
        try with_reducible rfl
      (try simp only [Act.put, List.setIfInBounds_toArray, List.set_cons_zero, List.set_cons_succ])
      refine wpAnyH_take (i := 18) (oi := { dst := some 82, op := Go.Op.binOp Go.BinOp.eql 77 (Go.Operand.tmp 80) (Go.Operand.tmp 81) 77, type := 4, pos := "law.go:37", after := #[{ on := 16, ground := Go.Ground.data }, { on := 17, ground := Go.Ground.data }, { on := 7, ground := Go.Ground.guard }], guard := some (7, true) }) (v := ?_) rfl (by kernel_rfl) (by kernel_rfl) (by kernel_rfl) (fun _ _ _ h => h) (Or.inl ⟨by rfl, ?_⟩) (by assumption) ?_
      rotate_left
      · intro w hSw
        (try dsimp only at hSw)
        go_simp
        try with_reducible rfl
      (try simp only [Act.put, List.setIfInBounds_toArray, List.set_cons_zero, List.set_cons_succ])
      refine wpAnyH_take (i := 19) (oi := { dst := some 83, op := Go.Op.binOp Go.BinOp.eql 4 (Go.Operand.tmp 79) (Go.Operand.tmp 82) 4, type := 4, pos := "law.go:37", after := #[{ on := 15, ground := Go.Ground.data }, { on := 18, ground := Go.Ground.data }, { on := 7, ground := Go.Ground.guard }], guard := some (7, true) }) (v := ?_) rfl (by kernel_rfl) (by kernel_rfl) (by kernel_rfl) (fun _ _ _ h => h) (Or.inl ⟨by rfl, ?_⟩) (by assumption) ?_
      rotate_left
      · intro w hSw
        (try dsimp only at hSw)
        go_simp
        try with_reducible rfl
      (try simp only [Act.put, List.setIfInBounds_toArray, List.set_cons_zero, List.set_cons_succ])
      refine wpAnyH_take (i := 20) (oi := { dst := some 84, op := Go.Op.pick (Go.Operand.tmp 71) (Go.Operand.tmp 83) (Go.Operand.const (Go.Value.bool false)), type := 4, pos := "law.go:37", after := #[{ on := 7, ground := Go.Ground.data }, { on := 19, ground := Go.Ground.data }], guard := none }) (v := ?_) rfl (by kernel_rfl) (by kernel_rfl) (by kernel_rfl) (fun _ _ _ h => h) (Or.inl ⟨by rfl, ?_⟩) (by assumption) ?_
      rotate_left
      · intro w hSw
        (try dsimp only at hSw)
        go_simp
        try with_reducible rfl
      (try simp only [Act.put, List.setIfInBounds_toArray, List.set_cons_zero, List.set_cons_succ])
      refine wpAnyH_take (i := 21) (oi := { dst := some 4, op := Go.Op.assign (Go.Operand.tmp 84), type := 4, pos := "law.go:37", after := #[{ on := 20, ground := Go.Ground.data }, { on := 11, ground := Go.Ground.chain }, { on := 0, ground := Go.Ground.phase }, { on := 1, ground := Go.Ground.phase }, { on := 2, ground := Go.Ground.phase }, { on := 3, ground := Go.Ground.phase }, { on := 4, ground := Go.Ground.phase }, { on := 5, ground := Go.Ground.phase }, { on := 6, ground := Go.Ground.phase }, { on := 7, ground := Go.Ground.phase }, { on := 8, ground := Go.Ground.phase }, { on := 9, ground := Go.Ground.phase }, { on := 10, ground := Go.Ground.phase }, { on := 11, ground := Go.Ground.phase }, { on := 12, ground := Go.Ground.phase }, { on := 13, ground := Go.Ground.phase }, { on := 14, ground := Go.Ground.phase }, { on := 15, ground := Go.Ground.phase }, { on := 16, ground := Go.Ground.phase }, { on := 17, ground := Go.Ground.phase }, { on := 18, ground := Go.Ground.phase }, { on := 19, ground := Go.Ground.phase }, { on := 20, ground := Go.Ground.phase }], guard := none }) (v := ?_) rfl (by kernel_rfl) (by kernel_rfl) (by kernel_rfl) (fun _ _ _ h => h) (Or.inl ⟨by rfl, ?_⟩) (by assumption) ?_
      rotate_left
      · intro w hSw
        (try dsimp only at hSw)
        go_simp
        try with_reducible rfl
      (try simp only [Act.put, List.setIfInBounds_toArray, List.set_cons_zero, List.set_cons_succ])
      refine wpAnyH_done (by kernel_rfl) ?_ _
      all_goals
        go_wp2
        go_ret
        exact ⟨by first | (simp; done) | (simp_all; done), by assumption⟩
    · subst h1 h2 h3 h4
      clear HD
      have eh5 : (s0 == s1) = false := by simpa using h5
      have eh6 : (B0 == B1) = false := by simpa using h6
      refine wp_region_held_drew (S := fun w' => w'.cell? ⟨w14.heap.size, 0, none⟩ = some (.int .i64 v0) ∧ w'.cell? ⟨w14.heap.size, 1, none⟩ = some (.int .u64 m0) ∧ w'.cell? ⟨w14.heap.size, 2, none⟩ = some (.int .i64 q0) ∧ w'.cell? ⟨w14.heap.size, 3, none⟩ = some (.bool s0) ∧ w'.cell? ⟨w14.heap.size, 4, none⟩ = some (.int .u32 t0) ∧ w'.cell? ⟨W.heap.size, 0, none⟩ = some (.int .i64 v0) ∧ w'.cell? ⟨W.heap.size, 1, none⟩ = some (.int .u64 m0) ∧ w'.cell? ⟨W.heap.size, 2, none⟩ = some (.int .i64 q0) ∧ w'.cell? ⟨W.heap.size, 3, none⟩ = some (.bool s0) ∧ w'.cell? ⟨W.heap.size, 4, none⟩ = some (.int .u32 t0) ∧ w'.cell? ⟨W.heap.size + 1, 0, none⟩ = some (.int .i64 v0) ∧ w'.cell? ⟨W.heap.size + 1, 1, none⟩ = some (.int .u64 m0) ∧ w'.cell? ⟨W.heap.size + 1, 2, none⟩ = some (.int .i64 q0) ∧ w'.cell? ⟨W.heap.size + 1, 3, none⟩ = some (.bool s1) ∧ w'.cell? ⟨W.heap.size + 1, 4, none⟩ = some (.int .u32 t1)) (by kernel_rfl) ?_ (fun hHeld => ?_)
      · exact ⟨e0, e1, e2, e3, e4, x0, x1, x2, x3, x4, y0, y1, y2, y3, y4⟩
      refine wpAnyH_take (i := 0) (oi := { dst := some 64, op := Go.Op.move (Go.Operand.tmp 10), type := 4, pos := "law.go:37", after := #[], guard := none }) (v := ?_) rfl (by kernel_rfl) (by kernel_rfl) (by kernel_rfl) (fun _ _ _ h => h) (Or.inl ⟨by rfl, ?_⟩) (by assumption) ?_
      rotate_left
      · intro w hSw
        (try dsimp only at hSw)
        go_simp
        try with_reducible rfl
      (try simp only [Act.put, List.setIfInBounds_toArray, List.set_cons_zero, List.set_cons_succ])
      refine wpAnyH_take (i := 1) (oi := { dst := some 65, op := Go.Op.move (Go.Operand.tmp 64), type := 4, pos := "law.go:37", after := #[{ on := 0, ground := Go.Ground.data }], guard := none }) (v := ?_) rfl (by kernel_rfl) (by kernel_rfl) (by kernel_rfl) (fun _ _ _ h => h) (Or.inl ⟨by rfl, ?_⟩) (by assumption) ?_
      rotate_left
      · intro w hSw
        (try dsimp only at hSw)
        go_simp
        try with_reducible rfl
      (try simp only [Act.put, List.setIfInBounds_toArray, List.set_cons_zero, List.set_cons_succ])
      refine wpAnyH_take (i := 2) (oi := { dst := some 66, op := Go.Op.load 81 (Go.Operand.tmp 9), type := 81, pos := "law.go:37", after := #[{ on := 1, ground := Go.Ground.guard }], guard := some (1, true) }) (v := ?_) rfl (by kernel_rfl) (by kernel_rfl) (by kernel_rfl) (fun _ _ _ h => h) (Or.inl ⟨by rfl, ?_⟩) (by assumption) ?_
      rotate_left
      · intro w hSw
        (try dsimp only at hSw)
        go_simp
        try with_reducible rfl
      (try simp only [Act.put, List.setIfInBounds_toArray, List.set_cons_zero, List.set_cons_succ])
      refine wpAnyH_take (i := 4) (oi := { dst := some 68, op := Go.Op.load 77 (Go.Operand.tmp 2), type := 77, pos := "law.go:37", after := #[{ on := 1, ground := Go.Ground.guard }], guard := some (1, true) }) (v := ?_) rfl (by kernel_rfl) (by kernel_rfl) (by kernel_rfl) (fun _ _ _ h => h) (Or.inl ⟨by rfl, ?_⟩) (by assumption) ?_
      rotate_left
      · intro w hSw
        (try dsimp only at hSw)
        go_simp
        try with_reducible rfl
      (try simp only [Act.put, List.setIfInBounds_toArray, List.set_cons_zero, List.set_cons_succ])
      refine wpAnyH_ready (rs := [3]) (by kernel_rfl) (by simp) ?_
      refine AllReadyH.cons (o := { dst := some 67, op := Go.Op.call { callee := Go.Callee.value (Go.Operand.func 55), args := #[Go.Operand.tmp 66], argTypes := #[81] }, type := 77, pos := "law.go:37", after := #[{ on := 2, ground := Go.Ground.data }, { on := 1, ground := Go.Ground.chain }, { on := 1, ground := Go.Ground.guard }], guard := some (1, true) }) rfl (fun K hK => ?_) AllReadyH.nil
      go_simp
      refine Calls.mono (HFr.out _) ?_
      rintro e w16 ⟨rfl, hb⟩
      have hB16 : Below W.heap.size W w16 := Below.trans (by (repeat' (first | (with_reducible exact Below.refl _ _) | (with_reducible assumption) | (with_reducible refine Below.setCell ?_ ?_ _) | (with_reducible refine Below.alloc ?_ ?_ _) | (with_reducible refine below_drewN ?_ _) | (with_reducible refine Below.drew ?_) | go_size))) (hb.mono (by go_size))
      have hz16 : W.heap.size + 2 ≤ w16.heap.size := (by have := hb.size; (try simp at this); omega)
      refine hK.out _ _ ?_ (fun hHeld => ?_)
      · (try dsimp only)
        exact keep555 (G := w14.heap.size + 1) (by omega) (by omega) (by omega) (by assumption) (fun p hp => hb.cell (Nat.lt_of_lt_of_le hp (by go_size)))
      clear hK K
      (try simp only [Act.put, List.setIfInBounds_toArray, List.set_cons_zero, List.set_cons_succ])
      refine wpAnyH_take (i := 5) (oi := { dst := some 69, op := Go.Op.binOp Go.BinOp.eql 77 (Go.Operand.tmp 67) (Go.Operand.tmp 68) 77, type := 4, pos := "law.go:37", after := #[{ on := 3, ground := Go.Ground.data }, { on := 4, ground := Go.Ground.data }, { on := 1, ground := Go.Ground.guard }], guard := some (1, true) }) (v := ?_) rfl (by kernel_rfl) (by kernel_rfl) (by kernel_rfl) (fun _ _ _ h => h) (Or.inl ⟨by rfl, ?_⟩) (by assumption) ?_
      rotate_left
      · intro w hSw
        (try dsimp only at hSw)
        go_simp
        try with_reducible rfl
      (try simp only [Act.put, List.setIfInBounds_toArray, List.set_cons_zero, List.set_cons_succ])
      refine wpAnyH_take (i := 6) (oi := { dst := some 70, op := Go.Op.pick (Go.Operand.tmp 65) (Go.Operand.tmp 69) (Go.Operand.const (Go.Value.bool false)), type := 4, pos := "law.go:37", after := #[{ on := 1, ground := Go.Ground.data }, { on := 5, ground := Go.Ground.data }], guard := none }) (v := ?_) rfl (by kernel_rfl) (by kernel_rfl) (by kernel_rfl) (fun _ _ _ h => h) (Or.inl ⟨by rfl, ?_⟩) (by assumption) ?_
      rotate_left
      · intro w hSw
        (try dsimp only at hSw)
        go_simp
        try with_reducible rfl
      (try simp only [Act.put, List.setIfInBounds_toArray, List.set_cons_zero, List.set_cons_succ])
      refine wpAnyH_take (i := 7) (oi := { dst := some 71, op := Go.Op.move (Go.Operand.tmp 70), type := 4, pos := "law.go:37", after := #[{ on := 6, ground := Go.Ground.data }, { on := 3, ground := Go.Ground.chain }], guard := none }) (v := ?_) rfl (by kernel_rfl) (by kernel_rfl) (by kernel_rfl) (fun _ _ _ h => h) (Or.inl ⟨by rfl, ?_⟩) (by assumption) ?_
      rotate_left
      · intro w hSw
        (try dsimp only at hSw)
        go_simp
        try with_reducible rfl
      (try simp only [Act.put, List.setIfInBounds_toArray, List.set_cons_zero, List.set_cons_succ])
      refine wpAnyH_take (i := 8) (oi := { dst := some 72, op := Go.Op.move (Go.Operand.tmp 5), type := 22, pos := "law.go:37", after := #[{ on := 7, ground := Go.Ground.guard }], guard := some (7, true) }) (v := ?_) rfl (by kernel_rfl) (by kernel_rfl) (by kernel_rfl) (fun _ _ _ h => h) (Or.inl ⟨by rfl, ?_⟩) (by assumption) ?_
      rotate_left
      · intro w hSw
        (try dsimp only at hSw)
        go_simp
        try with_reducible rfl
      (try simp only [Act.put, List.setIfInBounds_toArray, List.set_cons_zero, List.set_cons_succ])
      refine wpAnyH_take (i := 9) (oi := { dst := some 73, op := Go.Op.move (Go.Operand.tmp 7), type := 22, pos := "law.go:37", after := #[{ on := 7, ground := Go.Ground.guard }], guard := some (7, true) }) (v := ?_) rfl (by kernel_rfl) (by kernel_rfl) (by kernel_rfl) (fun _ _ _ h => h) (Or.inl ⟨by rfl, ?_⟩) (by assumption) ?_
      rotate_left
      · intro w hSw
        (try dsimp only at hSw)
        go_simp
        try with_reducible rfl
      (try simp only [Act.put, List.setIfInBounds_toArray, List.set_cons_zero, List.set_cons_succ])
      refine wpAnyH_take (i := 10) (oi := { dst := some 74, op := Go.Op.binOp Go.BinOp.eql 22 (Go.Operand.tmp 72) (Go.Operand.tmp 73) 22, type := 4, pos := "law.go:37", after := #[{ on := 8, ground := Go.Ground.data }, { on := 9, ground := Go.Ground.data }, { on := 7, ground := Go.Ground.guard }], guard := some (7, true) }) (v := ?_) rfl (by kernel_rfl) (by kernel_rfl) (by kernel_rfl) (fun _ _ _ h => h) (Or.inl ⟨by rfl, ?_⟩) (by assumption) ?_
      rotate_left
      · intro w hSw
        (try dsimp only at hSw)
        go_simp
        try with_reducible rfl
      (try simp only [Act.put, List.setIfInBounds_toArray, List.set_cons_zero, List.set_cons_succ])
      refine wpAnyH_take (i := 11) (oi := { dst := some 75, op := Go.Op.move (Go.Operand.tmp 74), type := 4, pos := "law.go:37", after := #[{ on := 10, ground := Go.Ground.data }, { on := 7, ground := Go.Ground.chain }, { on := 7, ground := Go.Ground.guard }], guard := some (7, true) }) (v := ?_) rfl (by kernel_rfl) (by kernel_rfl) (by kernel_rfl) (fun _ _ _ h => h) (Or.inl ⟨by rfl, ?_⟩) (by assumption) ?_
      rotate_left
      · intro w hSw
        (try dsimp only at hSw)
        go_simp
        try with_reducible rfl
      (try simp only [Act.put, List.setIfInBounds_toArray, List.set_cons_zero, List.set_cons_succ])
      refine wpAnyH_take (i := 12) (oi := { dst := some 76, op := Go.Op.move (Go.Operand.tmp 6), type := 22, pos := "law.go:37", after := #[{ on := 11, ground := Go.Ground.guard }], guard := some (11, true) }) (v := ?_) rfl (by kernel_rfl) (by kernel_rfl) (by kernel_rfl) (fun _ _ _ h => h) (Or.inl ⟨by rfl, ?_⟩) (by assumption) ?_
      rotate_left
      · intro w hSw
        (try dsimp only at hSw)
        go_simp
        try with_reducible rfl
      (try simp only [Act.put, List.setIfInBounds_toArray, List.set_cons_zero, List.set_cons_succ])
      refine wpAnyH_take (i := 13) (oi := { dst := some 77, op := Go.Op.move (Go.Operand.tmp 8), type := 22, pos := "law.go:37", after := #[{ on := 11, ground := Go.Ground.guard }], guard := some (11, true) }) (v := ?_) rfl (by kernel_rfl) (by kernel_rfl) (by kernel_rfl) (fun _ _ _ h => h) (Or.inl ⟨by rfl, ?_⟩) (by assumption) ?_
      rotate_left
      · intro w hSw
        (try dsimp only at hSw)
        go_simp
        try with_reducible rfl
      (try simp only [Act.put, List.setIfInBounds_toArray, List.set_cons_zero, List.set_cons_succ])
      refine wpAnyH_take (i := 14) (oi := { dst := some 78, op := Go.Op.binOp Go.BinOp.eql 22 (Go.Operand.tmp 76) (Go.Operand.tmp 77) 22, type := 4, pos := "law.go:37", after := #[{ on := 12, ground := Go.Ground.data }, { on := 13, ground := Go.Ground.data }, { on := 11, ground := Go.Ground.guard }], guard := some (11, true) }) (v := ?_) rfl (by kernel_rfl) (by kernel_rfl) (by kernel_rfl) (fun _ _ _ h => h) (Or.inl ⟨by rfl, ?_⟩) (by assumption) ?_
      rotate_left
      · intro w hSw
        (try dsimp only at hSw)
        go_simp
        try with_reducible rfl
      (try simp only [Act.put, List.setIfInBounds_toArray, List.set_cons_zero, List.set_cons_succ])
      refine wpAnyH_take (i := 15) (oi := { dst := some 79, op := Go.Op.pick (Go.Operand.tmp 75) (Go.Operand.tmp 78) (Go.Operand.const (Go.Value.bool false)), type := 4, pos := "law.go:37", after := #[{ on := 11, ground := Go.Ground.data }, { on := 14, ground := Go.Ground.data }, { on := 7, ground := Go.Ground.guard }], guard := some (7, true) }) (v := ?_) rfl (by kernel_rfl) (by kernel_rfl) (by kernel_rfl) (fun _ _ _ h => h) (Or.inl ⟨by rfl, ?_⟩) (by assumption) ?_
      rotate_left
      · intro w hSw
        (try dsimp only at hSw)
        go_simp
        try with_reducible rfl
      (try simp only [Act.put, List.setIfInBounds_toArray, List.set_cons_zero, List.set_cons_succ])
      refine wpAnyH_take (i := 16) (oi := { dst := some 80, op := Go.Op.load 77 (Go.Operand.tmp 2), type := 77, pos := "law.go:37", after := #[{ on := 7, ground := Go.Ground.guard }], guard := some (7, true) }) (v := ?_) rfl (by kernel_rfl) (by kernel_rfl) (by kernel_rfl) (fun _ _ _ h => h) (Or.inl ⟨by rfl, ?_⟩) (by assumption) ?_
      rotate_left
      · intro w hSw
        (try dsimp only at hSw)
        go_simp
        try with_reducible rfl
      (try simp only [Act.put, List.setIfInBounds_toArray, List.set_cons_zero, List.set_cons_succ])
      refine wpAnyH_take (i := 17) (oi := { dst := some 81, op := Go.Op.load 77 (Go.Operand.tmp 3), type := 77, pos := "law.go:37", after := #[{ on := 7, ground := Go.Ground.guard }], guard := some (7, true) }) (v := ?_) rfl (by kernel_rfl) (by kernel_rfl) (by kernel_rfl) (fun _ _ _ h => h) (Or.inl ⟨by rfl, ?_⟩) (by assumption) ?_
      rotate_left
      · intro w hSw
        (try dsimp only at hSw)
        go_simp
        try with_reducible rfl
      (try simp only [Act.put, List.setIfInBounds_toArray, List.set_cons_zero, List.set_cons_succ])
      refine wpAnyH_take (i := 18) (oi := { dst := some 82, op := Go.Op.binOp Go.BinOp.eql 77 (Go.Operand.tmp 80) (Go.Operand.tmp 81) 77, type := 4, pos := "law.go:37", after := #[{ on := 16, ground := Go.Ground.data }, { on := 17, ground := Go.Ground.data }, { on := 7, ground := Go.Ground.guard }], guard := some (7, true) }) (v := ?_) rfl (by kernel_rfl) (by kernel_rfl) (by kernel_rfl) (fun _ _ _ h => h) (Or.inl ⟨by rfl, ?_⟩) (by assumption) ?_
      rotate_left
      · intro w hSw
        (try dsimp only at hSw)
        go_simp
        try with_reducible rfl
      (try simp only [Act.put, List.setIfInBounds_toArray, List.set_cons_zero, List.set_cons_succ])
      refine wpAnyH_take (i := 19) (oi := { dst := some 83, op := Go.Op.binOp Go.BinOp.eql 4 (Go.Operand.tmp 79) (Go.Operand.tmp 82) 4, type := 4, pos := "law.go:37", after := #[{ on := 15, ground := Go.Ground.data }, { on := 18, ground := Go.Ground.data }, { on := 7, ground := Go.Ground.guard }], guard := some (7, true) }) (v := ?_) rfl (by kernel_rfl) (by kernel_rfl) (by kernel_rfl) (fun _ _ _ h => h) (Or.inl ⟨by rfl, ?_⟩) (by assumption) ?_
      rotate_left
      · intro w hSw
        (try dsimp only at hSw)
        go_simp
        try with_reducible rfl
      (try simp only [Act.put, List.setIfInBounds_toArray, List.set_cons_zero, List.set_cons_succ])
      refine wpAnyH_take (i := 20) (oi := { dst := some 84, op := Go.Op.pick (Go.Operand.tmp 71) (Go.Operand.tmp 83) (Go.Operand.const (Go.Value.bool false)), type := 4, pos := "law.go:37", after := #[{ on := 7, ground := Go.Ground.data }, { on := 19, ground := Go.Ground.data }], guard := none }) (v := ?_) rfl (by kernel_rfl) (by kernel_rfl) (by kernel_rfl) (fun _ _ _ h => h) (Or.inl ⟨by rfl, ?_⟩) (by assumption) ?_
      rotate_left
      · intro w hSw
        (try dsimp only at hSw)
        go_simp
        try with_reducible rfl
      (try simp only [Act.put, List.setIfInBounds_toArray, List.set_cons_zero, List.set_cons_succ])
      refine wpAnyH_take (i := 21) (oi := { dst := some 4, op := Go.Op.assign (Go.Operand.tmp 84), type := 4, pos := "law.go:37", after := #[{ on := 20, ground := Go.Ground.data }, { on := 11, ground := Go.Ground.chain }, { on := 0, ground := Go.Ground.phase }, { on := 1, ground := Go.Ground.phase }, { on := 2, ground := Go.Ground.phase }, { on := 3, ground := Go.Ground.phase }, { on := 4, ground := Go.Ground.phase }, { on := 5, ground := Go.Ground.phase }, { on := 6, ground := Go.Ground.phase }, { on := 7, ground := Go.Ground.phase }, { on := 8, ground := Go.Ground.phase }, { on := 9, ground := Go.Ground.phase }, { on := 10, ground := Go.Ground.phase }, { on := 11, ground := Go.Ground.phase }, { on := 12, ground := Go.Ground.phase }, { on := 13, ground := Go.Ground.phase }, { on := 14, ground := Go.Ground.phase }, { on := 15, ground := Go.Ground.phase }, { on := 16, ground := Go.Ground.phase }, { on := 17, ground := Go.Ground.phase }, { on := 18, ground := Go.Ground.phase }, { on := 19, ground := Go.Ground.phase }, { on := 20, ground := Go.Ground.phase }], guard := none }) (v := ?_) rfl (by kernel_rfl) (by kernel_rfl) (by kernel_rfl) (fun _ _ _ h => h) (Or.inl ⟨by rfl, ?_⟩) (by assumption) ?_
      rotate_left
      · intro w hSw
        (try dsimp only at hSw)
        go_simp
        try with_reducible rfl
      (try simp only [Act.put, List.setIfInBounds_toArray, List.set_cons_zero, List.set_cons_succ])
      refine wpAnyH_done (by kernel_rfl) ?_ _
      all_goals
        go_wp2
        go_ret
        exact ⟨by first | (simp; done) | (simp_all; done), by assumption⟩
    · subst h1 h2 h3 h4 h5
      clear HD
      have eh6 : (t0 == t1) = false := by simpa using h6
      have eh7 : (B0 == B1) = false := by simpa using h7
      refine wp_region_held_drew (S := fun w' => w'.cell? ⟨w14.heap.size, 0, none⟩ = some (.int .i64 v0) ∧ w'.cell? ⟨w14.heap.size, 1, none⟩ = some (.int .u64 m0) ∧ w'.cell? ⟨w14.heap.size, 2, none⟩ = some (.int .i64 q0) ∧ w'.cell? ⟨w14.heap.size, 3, none⟩ = some (.bool s0) ∧ w'.cell? ⟨w14.heap.size, 4, none⟩ = some (.int .u32 t0) ∧ w'.cell? ⟨W.heap.size, 0, none⟩ = some (.int .i64 v0) ∧ w'.cell? ⟨W.heap.size, 1, none⟩ = some (.int .u64 m0) ∧ w'.cell? ⟨W.heap.size, 2, none⟩ = some (.int .i64 q0) ∧ w'.cell? ⟨W.heap.size, 3, none⟩ = some (.bool s0) ∧ w'.cell? ⟨W.heap.size, 4, none⟩ = some (.int .u32 t0) ∧ w'.cell? ⟨W.heap.size + 1, 0, none⟩ = some (.int .i64 v0) ∧ w'.cell? ⟨W.heap.size + 1, 1, none⟩ = some (.int .u64 m0) ∧ w'.cell? ⟨W.heap.size + 1, 2, none⟩ = some (.int .i64 q0) ∧ w'.cell? ⟨W.heap.size + 1, 3, none⟩ = some (.bool s0) ∧ w'.cell? ⟨W.heap.size + 1, 4, none⟩ = some (.int .u32 t1)) (by kernel_rfl) ?_ (fun hHeld => ?_)
      · exact ⟨e0, e1, e2, e3, e4, x0, x1, x2, x3, x4, y0, y1, y2, y3, y4⟩
      refine wpAnyH_take (i := 0) (oi := { dst := some 64, op := Go.Op.move (Go.Operand.tmp 10), type := 4, pos := "law.go:37", after := #[], guard := none }) (v := ?_) rfl (by kernel_rfl) (by kernel_rfl) (by kernel_rfl) (fun _ _ _ h => h) (Or.inl ⟨by rfl, ?_⟩) (by assumption) ?_
      rotate_left
      · intro w hSw
        (try dsimp only at hSw)
        go_simp
        try with_reducible rfl
      (try simp only [Act.put, List.setIfInBounds_toArray, List.set_cons_zero, List.set_cons_succ])
      refine wpAnyH_take (i := 1) (oi := { dst := some 65, op := Go.Op.move (Go.Operand.tmp 64), type := 4, pos := "law.go:37", after := #[{ on := 0, ground := Go.Ground.data }], guard := none }) (v := ?_) rfl (by kernel_rfl) (by kernel_rfl) (by kernel_rfl) (fun _ _ _ h => h) (Or.inl ⟨by rfl, ?_⟩) (by assumption) ?_
      rotate_left
      · intro w hSw
        (try dsimp only at hSw)
        go_simp
        try with_reducible rfl
      (try simp only [Act.put, List.setIfInBounds_toArray, List.set_cons_zero, List.set_cons_succ])
      refine wpAnyH_take (i := 2) (oi := { dst := some 66, op := Go.Op.load 81 (Go.Operand.tmp 9), type := 81, pos := "law.go:37", after := #[{ on := 1, ground := Go.Ground.guard }], guard := some (1, true) }) (v := ?_) rfl (by kernel_rfl) (by kernel_rfl) (by kernel_rfl) (fun _ _ _ h => h) (Or.inl ⟨by rfl, ?_⟩) (by assumption) ?_
      rotate_left
      · intro w hSw
        (try dsimp only at hSw)
        go_simp
        try with_reducible rfl
      (try simp only [Act.put, List.setIfInBounds_toArray, List.set_cons_zero, List.set_cons_succ])
      refine wpAnyH_take (i := 4) (oi := { dst := some 68, op := Go.Op.load 77 (Go.Operand.tmp 2), type := 77, pos := "law.go:37", after := #[{ on := 1, ground := Go.Ground.guard }], guard := some (1, true) }) (v := ?_) rfl (by kernel_rfl) (by kernel_rfl) (by kernel_rfl) (fun _ _ _ h => h) (Or.inl ⟨by rfl, ?_⟩) (by assumption) ?_
      rotate_left
      · intro w hSw
        (try dsimp only at hSw)
        go_simp
        try with_reducible rfl
      (try simp only [Act.put, List.setIfInBounds_toArray, List.set_cons_zero, List.set_cons_succ])
      refine wpAnyH_ready (rs := [3]) (by kernel_rfl) (by simp) ?_
      refine AllReadyH.cons (o := { dst := some 67, op := Go.Op.call { callee := Go.Callee.value (Go.Operand.func 55), args := #[Go.Operand.tmp 66], argTypes := #[81] }, type := 77, pos := "law.go:37", after := #[{ on := 2, ground := Go.Ground.data }, { on := 1, ground := Go.Ground.chain }, { on := 1, ground := Go.Ground.guard }], guard := some (1, true) }) rfl (fun K hK => ?_) AllReadyH.nil
      go_simp
      refine Calls.mono (HFr.out _) ?_
      rintro e w16 ⟨rfl, hb⟩
      have hB16 : Below W.heap.size W w16 := Below.trans (by (repeat' (first | (with_reducible exact Below.refl _ _) | (with_reducible assumption) | (with_reducible refine Below.setCell ?_ ?_ _) | (with_reducible refine Below.alloc ?_ ?_ _) | (with_reducible refine below_drewN ?_ _) | (with_reducible refine Below.drew ?_) | go_size))) (hb.mono (by go_size))
      have hz16 : W.heap.size + 2 ≤ w16.heap.size := (by have := hb.size; (try simp at this); omega)
      refine hK.out _ _ ?_ (fun hHeld => ?_)
      · (try dsimp only)
        exact keep555 (G := w14.heap.size + 1) (by omega) (by omega) (by omega) (by assumption) (fun p hp => hb.cell (Nat.lt_of_lt_of_le hp (by go_size)))
      clear hK K
      (try simp only [Act.put, List.setIfInBounds_toArray, List.set_cons_zero, List.set_cons_succ])
      refine wpAnyH_take (i := 5) (oi := { dst := some 69, op := Go.Op.binOp Go.BinOp.eql 77 (Go.Operand.tmp 67) (Go.Operand.tmp 68) 77, type := 4, pos := "law.go:37", after := #[{ on := 3, ground := Go.Ground.data }, { on := 4, ground := Go.Ground.data }, { on := 1, ground := Go.Ground.guard }], guard := some (1, true) }) (v := ?_) rfl (by kernel_rfl) (by kernel_rfl) (by kernel_rfl) (fun _ _ _ h => h) (Or.inl ⟨by rfl, ?_⟩) (by assumption) ?_
      rotate_left
      · intro w hSw
        (try dsimp only at hSw)
        go_simp
        try with_reducible rfl
      (try simp only [Act.put, List.setIfInBounds_toArray, List.set_cons_zero, List.set_cons_succ])
      refine wpAnyH_take (i := 6) (oi := { dst := some 70, op := Go.Op.pick (Go.Operand.tmp 65) (Go.Operand.tmp 69) (Go.Operand.const (Go.Value.bool false)), type := 4, pos := "law.go:37", after := #[{ on := 1, ground := Go.Ground.data }, { on := 5, ground := Go.Ground.data }], guard := none }) (v := ?_) rfl (by kernel_rfl) (by kernel_rfl) (by kernel_rfl) (fun _ _ _ h => h) (Or.inl ⟨by rfl, ?_⟩) (by assumption) ?_
      rotate_left
      · intro w hSw
        (try dsimp only at hSw)
        go_simp
        try with_reducible rfl
      (try simp only [Act.put, List.setIfInBounds_toArray, List.set_cons_zero, List.set_cons_succ])
      refine wpAnyH_take (i := 7) (oi := { dst := some 71, op := Go.Op.move (Go.Operand.tmp 70), type := 4, pos := "law.go:37", after := #[{ on := 6, ground := Go.Ground.data }, { on := 3, ground := Go.Ground.chain }], guard := none }) (v := ?_) rfl (by kernel_rfl) (by kernel_rfl) (by kernel_rfl) (fun _ _ _ h => h) (Or.inl ⟨by rfl, ?_⟩) (by assumption) ?_
      rotate_left
      · intro w hSw
        (try dsimp only at hSw)
        go_simp
        try with_reducible rfl
      (try simp only [Act.put, List.setIfInBounds_toArray, List.set_cons_zero, List.set_cons_succ])
      refine wpAnyH_take (i := 8) (oi := { dst := some 72, op := Go.Op.move (Go.Operand.tmp 5), type := 22, pos := "law.go:37", after := #[{ on := 7, ground := Go.Ground.guard }], guard := some (7, true) }) (v := ?_) rfl (by kernel_rfl) (by kernel_rfl) (by kernel_rfl) (fun _ _ _ h => h) (Or.inl ⟨by rfl, ?_⟩) (by assumption) ?_
      rotate_left
      · intro w hSw
        (try dsimp only at hSw)
        go_simp
        try with_reducible rfl
      (try simp only [Act.put, List.setIfInBounds_toArray, List.set_cons_zero, List.set_cons_succ])
      refine wpAnyH_take (i := 9) (oi := { dst := some 73, op := Go.Op.move (Go.Operand.tmp 7), type := 22, pos := "law.go:37", after := #[{ on := 7, ground := Go.Ground.guard }], guard := some (7, true) }) (v := ?_) rfl (by kernel_rfl) (by kernel_rfl) (by kernel_rfl) (fun _ _ _ h => h) (Or.inl ⟨by rfl, ?_⟩) (by assumption) ?_
      rotate_left
      · intro w hSw
        (try dsimp only at hSw)
        go_simp
        try with_reducible rfl
      (try simp only [Act.put, List.setIfInBounds_toArray, List.set_cons_zero, List.set_cons_succ])
      refine wpAnyH_take (i := 10) (oi := { dst := some 74, op := Go.Op.binOp Go.BinOp.eql 22 (Go.Operand.tmp 72) (Go.Operand.tmp 73) 22, type := 4, pos := "law.go:37", after := #[{ on := 8, ground := Go.Ground.data }, { on := 9, ground := Go.Ground.data }, { on := 7, ground := Go.Ground.guard }], guard := some (7, true) }) (v := ?_) rfl (by kernel_rfl) (by kernel_rfl) (by kernel_rfl) (fun _ _ _ h => h) (Or.inl ⟨by rfl, ?_⟩) (by assumption) ?_
      rotate_left
      · intro w hSw
        (try dsimp only at hSw)
        go_simp
        try with_reducible rfl
      (try simp only [Act.put, List.setIfInBounds_toArray, List.set_cons_zero, List.set_cons_succ])
      refine wpAnyH_take (i := 11) (oi := { dst := some 75, op := Go.Op.move (Go.Operand.tmp 74), type := 4, pos := "law.go:37", after := #[{ on := 10, ground := Go.Ground.data }, { on := 7, ground := Go.Ground.chain }, { on := 7, ground := Go.Ground.guard }], guard := some (7, true) }) (v := ?_) rfl (by kernel_rfl) (by kernel_rfl) (by kernel_rfl) (fun _ _ _ h => h) (Or.inl ⟨by rfl, ?_⟩) (by assumption) ?_
      rotate_left
      · intro w hSw
        (try dsimp only at hSw)
        go_simp
        try with_reducible rfl
      (try simp only [Act.put, List.setIfInBounds_toArray, List.set_cons_zero, List.set_cons_succ])
      refine wpAnyH_take (i := 12) (oi := { dst := some 76, op := Go.Op.move (Go.Operand.tmp 6), type := 22, pos := "law.go:37", after := #[{ on := 11, ground := Go.Ground.guard }], guard := some (11, true) }) (v := ?_) rfl (by kernel_rfl) (by kernel_rfl) (by kernel_rfl) (fun _ _ _ h => h) (Or.inl ⟨by rfl, ?_⟩) (by assumption) ?_
      rotate_left
      · intro w hSw
        (try dsimp only at hSw)
        go_simp
        try with_reducible rfl
      (try simp only [Act.put, List.setIfInBounds_toArray, List.set_cons_zero, List.set_cons_succ])
      refine wpAnyH_take (i := 13) (oi := { dst := some 77, op := Go.Op.move (Go.Operand.tmp 8), type := 22, pos := "law.go:37", after := #[{ on := 11, ground := Go.Ground.guard }], guard := some (11, true) }) (v := ?_) rfl (by kernel_rfl) (by kernel_rfl) (by kernel_rfl) (fun _ _ _ h => h) (Or.inl ⟨by rfl, ?_⟩) (by assumption) ?_
      rotate_left
      · intro w hSw
        (try dsimp only at hSw)
        go_simp
        try with_reducible rfl
      (try simp only [Act.put, List.setIfInBounds_toArray, List.set_cons_zero, List.set_cons_succ])
      refine wpAnyH_take (i := 14) (oi := { dst := some 78, op := Go.Op.binOp Go.BinOp.eql 22 (Go.Operand.tmp 76) (Go.Operand.tmp 77) 22, type := 4, pos := "law.go:37", after := #[{ on := 12, ground := Go.Ground.data }, { on := 13, ground := Go.Ground.data }, { on := 11, ground := Go.Ground.guard }], guard := some (11, true) }) (v := ?_) rfl (by kernel_rfl) (by kernel_rfl) (by kernel_rfl) (fun _ _ _ h => h) (Or.inl ⟨by rfl, ?_⟩) (by assumption) ?_
      rotate_left
      · intro w hSw
        (try dsimp only at hSw)
        go_simp
        try with_reducible rfl
      (try simp only [Act.put, List.setIfInBounds_toArray, List.set_cons_zero, List.set_cons_succ])
      refine wpAnyH_take (i := 15) (oi := { dst := some 79, op := Go.Op.pick (Go.Operand.tmp 75) (Go.Operand.tmp 78) (Go.Operand.const (Go.Value.bool false)), type := 4, pos := "law.go:37", after := #[{ on := 11, ground := Go.Ground.data }, { on := 14, ground := Go.Ground.data }, { on := 7, ground := Go.Ground.guard }], guard := some (7, true) }) (v := ?_) rfl (by kernel_rfl) (by kernel_rfl) (by kernel_rfl) (fun _ _ _ h => h) (Or.inl ⟨by rfl, ?_⟩) (by assumption) ?_
      rotate_left
      · intro w hSw
        (try dsimp only at hSw)
        go_simp
        try with_reducible rfl
      (try simp only [Act.put, List.setIfInBounds_toArray, List.set_cons_zero, List.set_cons_succ])
      refine wpAnyH_take (i := 16) (oi := { dst := some 80, op := Go.Op.load 77 (Go.Operand.tmp 2), type := 77, pos := "law.go:37", after := #[{ on := 7, ground := Go.Ground.guard }], guard := some (7, true) }) (v := ?_) rfl (by kernel_rfl) (by kernel_rfl) (by kernel_rfl) (fun _ _ _ h => h) (Or.inl ⟨by rfl, ?_⟩) (by assumption) ?_
      rotate_left
      · intro w hSw
        (try dsimp only at hSw)
        go_simp
        try with_reducible rfl
      (try simp only [Act.put, List.setIfInBounds_toArray, List.set_cons_zero, List.set_cons_succ])
      refine wpAnyH_take (i := 17) (oi := { dst := some 81, op := Go.Op.load 77 (Go.Operand.tmp 3), type := 77, pos := "law.go:37", after := #[{ on := 7, ground := Go.Ground.guard }], guard := some (7, true) }) (v := ?_) rfl (by kernel_rfl) (by kernel_rfl) (by kernel_rfl) (fun _ _ _ h => h) (Or.inl ⟨by rfl, ?_⟩) (by assumption) ?_
      rotate_left
      · intro w hSw
        (try dsimp only at hSw)
        go_simp
        try with_reducible rfl
      (try simp only [Act.put, List.setIfInBounds_toArray, List.set_cons_zero, List.set_cons_succ])
      refine wpAnyH_take (i := 18) (oi := { dst := some 82, op := Go.Op.binOp Go.BinOp.eql 77 (Go.Operand.tmp 80) (Go.Operand.tmp 81) 77, type := 4, pos := "law.go:37", after := #[{ on := 16, ground := Go.Ground.data }, { on := 17, ground := Go.Ground.data }, { on := 7, ground := Go.Ground.guard }], guard := some (7, true) }) (v := ?_) rfl (by kernel_rfl) (by kernel_rfl) (by kernel_rfl) (fun _ _ _ h => h) (Or.inl ⟨by rfl, ?_⟩) (by assumption) ?_
      rotate_left
      · intro w hSw
        (try dsimp only at hSw)
        go_simp
        try with_reducible rfl
      (try simp only [Act.put, List.setIfInBounds_toArray, List.set_cons_zero, List.set_cons_succ])
      refine wpAnyH_take (i := 19) (oi := { dst := some 83, op := Go.Op.binOp Go.BinOp.eql 4 (Go.Operand.tmp 79) (Go.Operand.tmp 82) 4, type := 4, pos := "law.go:37", after := #[{ on := 15, ground := Go.Ground.data }, { on := 18, ground := Go.Ground.data }, { on := 7, ground := Go.Ground.guard }], guard := some (7, true) }) (v := ?_) rfl (by kernel_rfl) (by kernel_rfl) (by kernel_rfl) (fun _ _ _ h => h) (Or.inl ⟨by rfl, ?_⟩) (by assumption) ?_
      rotate_left
      · intro w hSw
        (try dsimp only at hSw)
        go_simp
        try with_reducible rfl
      (try simp only [Act.put, List.setIfInBounds_toArray, List.set_cons_zero, List.set_cons_succ])
      refine wpAnyH_take (i := 20) (oi := { dst := some 84, op := Go.Op.pick (Go.Operand.tmp 71) (Go.Operand.tmp 83) (Go.Operand.const (Go.Value.bool false)), type := 4, pos := "law.go:37", after := #[{ on := 7, ground := Go.Ground.data }, { on := 19, ground := Go.Ground.data }], guard := none }) (v := ?_) rfl (by kernel_rfl) (by kernel_rfl) (by kernel_rfl) (fun _ _ _ h => h) (Or.inl ⟨by rfl, ?_⟩) (by assumption) ?_
      rotate_left
      · intro w hSw
        (try dsimp only at hSw)
        go_simp
        try with_reducible rfl
      (try simp only [Act.put, List.setIfInBounds_toArray, List.set_cons_zero, List.set_cons_succ])
      refine wpAnyH_take (i := 21) (oi := { dst := some 4, op := Go.Op.assign (Go.Operand.tmp 84), type := 4, pos := "law.go:37", after := #[{ on := 20, ground := Go.Ground.data }, { on := 11, ground := Go.Ground.chain }, { on := 0, ground := Go.Ground.phase }, { on := 1, ground := Go.Ground.phase }, { on := 2, ground := Go.Ground.phase }, { on := 3, ground := Go.Ground.phase }, { on := 4, ground := Go.Ground.phase }, { on := 5, ground := Go.Ground.phase }, { on := 6, ground := Go.Ground.phase }, { on := 7, ground := Go.Ground.phase }, { on := 8, ground := Go.Ground.phase }, { on := 9, ground := Go.Ground.phase }, { on := 10, ground := Go.Ground.phase }, { on := 11, ground := Go.Ground.phase }, { on := 12, ground := Go.Ground.phase }, { on := 13, ground := Go.Ground.phase }, { on := 14, ground := Go.Ground.phase }, { on := 15, ground := Go.Ground.phase }, { on := 16, ground := Go.Ground.phase }, { on := 17, ground := Go.Ground.phase }, { on := 18, ground := Go.Ground.phase }, { on := 19, ground := Go.Ground.phase }, { on := 20, ground := Go.Ground.phase }], guard := none }) (v := ?_) rfl (by kernel_rfl) (by kernel_rfl) (by kernel_rfl) (fun _ _ _ h => h) (Or.inl ⟨by rfl, ?_⟩) (by assumption) ?_
      rotate_left
      · intro w hSw
        (try dsimp only at hSw)
        go_simp
        try with_reducible rfl
      (try simp only [Act.put, List.setIfInBounds_toArray, List.set_cons_zero, List.set_cons_succ])
      refine wpAnyH_done (by kernel_rfl) ?_ _
      all_goals
        go_wp2
        go_ret
        exact ⟨by first | (simp; done) | (simp_all; done), by assumption⟩

set_option maxRecDepth 100000 in
/-- What the walk gives, for every argument: the row's own words. -/
theorem contract (H : Type) (enc : TypeId × Value → H) (W : World) (base : Nat) (args : Array Value) (ds gs : List (DataW H)) (before : List MemPlace)
    (hval : ∀ (j : Nat) t v, Try.f12.params[j]? = some t → args[j]? = some v → Value.okWide Try.prog W .any base t v)
    (hW : DataW.Whole enc Try.prog Try.f12.params.toList Rows.slotWordsSpec.vars false W args.toList ds gs before) :
    Calls Try.prog 12 args W fun e W' => ∃ v, e = .returned v ∧ Rows.slotWordsSpec.post enc Try.prog Try.f12 false true false false W args v W' := by
  have hW' := hW
  obtain ⟨p, q, hA0, hV, rfl, hfz, hnd⟩ := hW
  have hA : DataW.TrodAll enc Try.prog W 0 (fun _ => true) true Try.f12.params.toList args.toList ds p := hA0
  rw [Try.params12] at hA hval
  obtain ⟨v0, vs0, d0, ds0, p0, q0, hargs, rfl, rfl, h0, r0⟩ := trodAll_cons hA
  obtain ⟨v1, vs1, d1, ds1, p1, q1, rfl, rfl, rfl, h1, r1⟩ := trodAll_cons r0
  obtain ⟨rfl, rfl, rfl⟩ := trodAll_nil r1
  obtain rfl : args = #[v0, v1] := by cases args; simp_all
  obtain ⟨a0, e0, pp0, s0, k0, rfl, b0, c0, bp0, bk0⟩ := open_entry Try.underlying77 (t0 := 3) (t1 := 22) (t2 := 3) (t3 := 4) (t4 := 30) (by kernel_rfl) (by kernel_rfl) (by kernel_rfl) (by kernel_rfl) (by kernel_rfl) (by kernel_rfl) (by kernel_rfl) (hval 0 77 v0 rfl rfl) h0
  obtain ⟨a1, e1, pp1, s1, k1, rfl, b1, c1, bp1, bk1⟩ := open_entry Try.underlying77 (t0 := 3) (t1 := 22) (t2 := 3) (t3 := 4) (t4 := 30) (by kernel_rfl) (by kernel_rfl) (by kernel_rfl) (by kernel_rfl) (by kernel_rfl) (by kernel_rfl) (by kernel_rfl) (hval 1 77 v1 rfl rfl) h1
  refine (walk W a0 e0 pp0 s0 k0 b0 c0 bp0 bk0 a1 e1 pp1 s1 k1 b1 c1 bp1 bk1).mono fun e W' ⟨he, hb⟩ => ?_
  subst he
  exact close_true (by kernel_rfl) Try.underlying4 (by kernel_rfl) (by kernel_rfl) rfl rfl hW' hb

set_option maxRecDepth 100000 in
theorem lifted (os : Os) (started : os.Started) (H : Type) (enc : TypeId × Value → H) :
    ReturnsInHanded {} Try.checked os 12 .any (Rows.slotWordsSpec.pre6 enc Try.prog Try.f12 Rows.slotWordsRow.domain false) (Rows.slotWordsSpec.post enc Try.prog Try.f12 false true false false) := by
  refine returnsInHanded_of_change (C := Try.checked) own started (by kernel_rfl) Try.func12
    (ChangeSpec.witness6 (enc := enc) (C := Try.checked) false ⟨#[], #[.agg #[.int .i64 0, .int .u64 0, .int .i64 0, .bool false, .int .u32 0], .agg #[.int .i64 0, .int .u64 0, .int .i64 0, .bool false, .int .u32 0]], []⟩ 8 (by kernel_rfl) (by kernel_rfl) (by kernel_rfl) (by kernel_rfl)) ?_
  intro W base args ds gs before hval hW _ _
  exact contract H enc W base args ds gs before hval hW

theorem proved : Rows.SlotWordsSaid :=
  OpenClaim.holds_of_wide 12 Try.f12 rfl rfl rfl rfl rfl rfl rfl ⟨rfl, rfl, rfl, rfl, rfl⟩ rfl rfl rfl rfl rfl (by kernel_rfl) Try.func12 (by kernel_rfl)
    (of_decide_eq_true (by kernel_rfl)) (by unfold Func.isWrapper; first | (rw [if_pos (by decide +kernel)]; kernel_rfl) | (rw [if_neg (by decide +kernel)]; exact ⟨rfl, rfl⟩))
    (fun os started H enc _ => lifted os started H enc)
#print axioms proved
end Go.Proofs.Ytlkajgkcadbboaa.slotWords
