/-
  An entry's words, one bit of the second of them another one. No statement is proved here.
-/
import Derived.Test.YtlkajgkcadbboaaSlotC
import Derived.Test.YtlkajgkcadbboaaOpenFl
import Derived.Deep.RegionHeld3
import Derived.Test.YtlkajgkcadbboaaSlotAltA
import Derived.WalkKit
import Derived.ProofKit
namespace Go.Proofs.Ytlkajgkcadbboaa.slotAlters
open Go.RowKit
set_option linter.unusedVariables false
theorem keep555B {w w' : World} {G b0 b1 b2 : Nat} {v00 v01 v02 v03 v04 v10 v11 v12 v13 v14 v20 v21 v22 v23 v24 : Value} (hb0 : b0 < G) (hb1 : b1 < G) (hb2 : b2 < G) (h : w.cell? ⟨b0, 0, none⟩ = some v00 ∧ w.cell? ⟨b0, 1, none⟩ = some v01 ∧ w.cell? ⟨b0, 2, none⟩ = some v02 ∧ w.cell? ⟨b0, 3, none⟩ = some v03 ∧ w.cell? ⟨b0, 4, none⟩ = some v04 ∧ w.cell? ⟨b1, 0, none⟩ = some v10 ∧ w.cell? ⟨b1, 1, none⟩ = some v11 ∧ w.cell? ⟨b1, 2, none⟩ = some v12 ∧ w.cell? ⟨b1, 3, none⟩ = some v13 ∧ w.cell? ⟨b1, 4, none⟩ = some v14 ∧ w.cell? ⟨b2, 0, none⟩ = some v20 ∧ w.cell? ⟨b2, 1, none⟩ = some v21 ∧ w.cell? ⟨b2, 2, none⟩ = some v22 ∧ w.cell? ⟨b2, 3, none⟩ = some v23 ∧ w.cell? ⟨b2, 4, none⟩ = some v24) (hk : ∀ p : Addr, p.block < G → w'.cell? p = w.cell? p) :
    w'.cell? ⟨b0, 0, none⟩ = some v00 ∧ w'.cell? ⟨b0, 1, none⟩ = some v01 ∧ w'.cell? ⟨b0, 2, none⟩ = some v02 ∧ w'.cell? ⟨b0, 3, none⟩ = some v03 ∧ w'.cell? ⟨b0, 4, none⟩ = some v04 ∧ w'.cell? ⟨b1, 0, none⟩ = some v10 ∧ w'.cell? ⟨b1, 1, none⟩ = some v11 ∧ w'.cell? ⟨b1, 2, none⟩ = some v12 ∧ w'.cell? ⟨b1, 3, none⟩ = some v13 ∧ w'.cell? ⟨b1, 4, none⟩ = some v14 ∧ w'.cell? ⟨b2, 0, none⟩ = some v20 ∧ w'.cell? ⟨b2, 1, none⟩ = some v21 ∧ w'.cell? ⟨b2, 2, none⟩ = some v22 ∧ w'.cell? ⟨b2, 3, none⟩ = some v23 ∧ w'.cell? ⟨b2, 4, none⟩ = some v24 :=
  ⟨(hk ⟨b0, 0, none⟩ hb0).trans h.1, (hk ⟨b0, 1, none⟩ hb0).trans h.2.1, (hk ⟨b0, 2, none⟩ hb0).trans h.2.2.1, (hk ⟨b0, 3, none⟩ hb0).trans h.2.2.2.1, (hk ⟨b0, 4, none⟩ hb0).trans h.2.2.2.2.1, (hk ⟨b1, 0, none⟩ hb1).trans h.2.2.2.2.2.1, (hk ⟨b1, 1, none⟩ hb1).trans h.2.2.2.2.2.2.1, (hk ⟨b1, 2, none⟩ hb1).trans h.2.2.2.2.2.2.2.1, (hk ⟨b1, 3, none⟩ hb1).trans h.2.2.2.2.2.2.2.2.1, (hk ⟨b1, 4, none⟩ hb1).trans h.2.2.2.2.2.2.2.2.2.1, (hk ⟨b2, 0, none⟩ hb2).trans h.2.2.2.2.2.2.2.2.2.2.1, (hk ⟨b2, 1, none⟩ hb2).trans h.2.2.2.2.2.2.2.2.2.2.2.1, (hk ⟨b2, 2, none⟩ hb2).trans h.2.2.2.2.2.2.2.2.2.2.2.2.1, (hk ⟨b2, 3, none⟩ hb2).trans h.2.2.2.2.2.2.2.2.2.2.2.2.2.1, (hk ⟨b2, 4, none⟩ hb2).trans h.2.2.2.2.2.2.2.2.2.2.2.2.2.2⟩

set_option maxHeartbeats 3200000 in
theorem walkB (W : World) (a0 : Int) (e0 : Nat) (p0 : Int) (s0 : Bool) (k0 : Nat) (b0 : -9223372036854775808 ≤ a0 ∧ a0 ≤ 9223372036854775807) (c0 : e0 < 18446744073709551616) (bp0 : -9223372036854775808 ≤ p0 ∧ p0 ≤ 9223372036854775807) (bk0 : k0 < 4294967296) (a1 : Int) (b1 : -9223372036854775808 ≤ a1 ∧ a1 ≤ 9223372036854775807) (hx : ¬ (a1 % 18446744073709551616 % 128).toNat < 64) :
    Calls Try.prog 14 #[.agg #[.int .i64 a0, .int .u64 (e0 : Int), .int .i64 p0, .bool s0, .int .u32 (k0 : Int)], .int .i64 a1] W (Says (.bool true) W) := by
  obtain ⟨X, hX⟩ : ∃ X : Nat, X = (a1 % 18446744073709551616 % 128).toNat := ⟨_, rfl⟩
  have hx1 : wrap64 ((IntKind.u64.wrap a1).tmod 128) = (X : Int) := by
    rw [Int.tmod_eq_emod_of_nonneg (by rw [IntKind.wrap_u64]; omega), IntKind.wrap_u64]; unfold wrap64; omega
  have hXl : X < 128 := by omega
  have h : ¬ X < 64 := by omega
  clear hX hx
  have hT := fun W => law9_To (fixV a0) (fixM e0 : Int) (p0 % 18446744073709551616 % 64) s0 ((if s0 = true then 0 else k0 : Nat) : Int) W
  have hFx := fun W => ref9_Fix a0 e0 c0 p0 s0 k0 bk0 W
  have hr := fixE_right ⟨a0, e0, p0, s0, k0⟩
  have hst := fixE_stamp (e := ⟨a0, e0, p0, s0, k0⟩) bk0
  have hW := fun W => slot_Words (fixV a0) (fixM e0) (by have := fixM_lt e0; omega) (p0 % 18446744073709551616 % 64) s0 (if s0 = true then 0 else k0) (by split <;> omega) W
  change rightE ⟨fixV a0, fixM e0, p0 % 18446744073709551616 % 64, s0, if s0 = true then 0 else k0⟩ = true at hr
  change (if s0 = true then 0 else k0) < 4294967296 at hst
  generalize fixV a0 = vx at *
  generalize fixM e0 = M at *
  generalize p0 % 18446744073709551616 % 64 = px at *
  generalize (if s0 = true then 0 else k0) = kn at *
  obtain ⟨_, hen⟩ := of_words hr hst
  have hla := lowN_lt hr hst
  have hwa : wordA ⟨vx, M, px, s0, kn⟩ < 18446744073709551616 := by unfold wordA; rw [if_pos hr]; exact wordN_lt _ _
  have hwb : wordB ⟨vx, M, px, s0, kn⟩ < 18446744073709551616 := by unfold wordB; rw [if_pos hr]; exact hla
  have hneA : okE (wordA ⟨vx, M, px, s0, kn⟩ ^^^ 2 ^ X) (wordB ⟨vx, M, px, s0, kn⟩) = true → entW (wordA ⟨vx, M, px, s0, kn⟩ ^^^ 2 ^ X) (wordB ⟨vx, M, px, s0, kn⟩) ≠ ⟨vx, M, px, s0, kn⟩ := by
    intro ho he
    have h1 := (words_back ho).1
    rw [he] at h1
    exact xor_ne _ _ h1.symm
  have hneB : okE (wordA ⟨vx, M, px, s0, kn⟩) (wordB ⟨vx, M, px, s0, kn⟩ ^^^ 2 ^ (X - 64)) = true → entW (wordA ⟨vx, M, px, s0, kn⟩) (wordB ⟨vx, M, px, s0, kn⟩ ^^^ 2 ^ (X - 64)) ≠ ⟨vx, M, px, s0, kn⟩ := by
    intro ho he
    have h1 := (words_back ho).2
    rw [he] at h1
    exact xor_ne _ _ h1.symm
  clear hen hr hst hla
  generalize wordA ⟨vx, M, px, s0, kn⟩ = A at *
  generalize wordB ⟨vx, M, px, s0, kn⟩ = B at *
  obtain ⟨Y, rfl⟩ : ∃ Y, X = Y + 64 := ⟨X - 64, by omega⟩
  rw [Nat.add_sub_cancel] at hneB
  have hY : Y < 64 := by omega
  have h0 : ¬ (((Y + 64 : Nat) : Int)) < 64 := by omega
  have hsb : wrap64 (((Y + 64 : Nat) : Int) - 64) = (Y : Int) := by unfold wrap64; omega
  have hy0 : ¬ (Y : Int) < 0 := by omega
  have hy1 : ¬ (64 : Int) ≤ (Y : Int) := by omega
  have hsh := bit_wrap hY
  have hB' : B ^^^ 2 ^ Y < 18446744073709551616 := Nat.xor_lt_two_pow (n := 64) hwb (bit_lt hY)
  have hxo := u64_xor_nat B (2 ^ Y) hwb (bit_lt hY)
  have hO := fun W => slot_Of A (B ^^^ 2 ^ Y) hwa hB' W
  have hP := fun W => ref9_Of A (B ^^^ 2 ^ Y) hwa hB' W
  clear hneA
  generalize B ^^^ 2 ^ Y = B' at *
  generalize 2 ^ Y = y at *
  generalize ((Y + 64 : Nat) : Int) = Xi at *
  clear hwa hwb hXl b0 c0 bp0 bk0 b1
  cases hk : okE A B'
  · rw [slotT_no hk] at hO hP
    have HF := Lib.hid hFx
    have HT := Lib.hid hT
    have HW := Lib.hid hW
    have HR := Lib.hid fun W => law9_From 0 0 0 false 0 W
    have HO := Lib.hid hO
    have HP := Lib.hid hP
    clear hO hP hk hFx hT hW hneB
    generalize (M : Int) = mx at *
    generalize (kn : Int) = kx at *
    go_enter Try.func14, Try.ntmps14
    go_wp2_with fail
    refine (HF.out _).mono ?_
    rintro e w1 ⟨rfl, hb⟩
    obtain ⟨hc, hf⟩ := bcell hb
    have z0 : w1.cell? ⟨W.heap.size, 0, none⟩ = some (.int .i64 a0) := by rw [hc _ _ (by simp)]; simp [go_sem]
    have z1 : w1.cell? ⟨W.heap.size, 1, none⟩ = some (.int .u64 (e0 : Int)) := by rw [hc _ _ (by simp)]; simp [go_sem]
    have z2 : w1.cell? ⟨W.heap.size, 2, none⟩ = some (.int .i64 p0) := by rw [hc _ _ (by simp)]; simp [go_sem]
    have z3 : w1.cell? ⟨W.heap.size, 3, none⟩ = some (.bool s0) := by rw [hc _ _ (by simp)]; simp [go_sem]
    have z4 : w1.cell? ⟨W.heap.size, 4, none⟩ = some (.int .u32 (k0 : Int)) := by rw [hc _ _ (by simp)]; simp [go_sem]
    have g0 : ∀ o, w1.frozen? ⟨W.heap.size, o, none⟩ = false := fun o => by rw [hf _ _ (by simp)]; simp [go_sem]
    have hB1 : Below W.heap.size W w1 := Below.trans (by (repeat' (first | (with_reducible exact Below.refl _ _) | (with_reducible assumption) | (with_reducible refine Below.setCell ?_ ?_ _) | (with_reducible refine Below.alloc ?_ ?_ _) | (with_reducible refine below_drewN ?_ _) | (with_reducible refine Below.drew ?_) | go_size))) (hb.mono (by go_size))
    have hz1 : W.heap.size + 1 ≤ w1.heap.size := by have := hb.size; simp at this; omega
    clear hc hf hb
    go_wp2_with fail
    refine (HT.out _).mono ?_
    rintro e w2 ⟨rfl, hb⟩
    obtain ⟨hc, hf⟩ := bcell hb
    have x0 : w2.cell? ⟨W.heap.size, 0, none⟩ = some (.int .i64 vx) := by rw [hc _ _ (by first | (simp; done) | (simp; omega))]; simp [go_sem, z0]
    have x1 : w2.cell? ⟨W.heap.size, 1, none⟩ = some (.int .u64 mx) := by rw [hc _ _ (by first | (simp; done) | (simp; omega))]; simp [go_sem, z1]
    have x2 : w2.cell? ⟨W.heap.size, 2, none⟩ = some (.int .i64 px) := by rw [hc _ _ (by first | (simp; done) | (simp; omega))]; simp [go_sem, z2]
    have x3 : w2.cell? ⟨W.heap.size, 3, none⟩ = some (.bool s0) := by rw [hc _ _ (by first | (simp; done) | (simp; omega))]; simp [go_sem, z3]
    have x4 : w2.cell? ⟨W.heap.size, 4, none⟩ = some (.int .u32 kx) := by rw [hc _ _ (by first | (simp; done) | (simp; omega))]; simp [go_sem, z4]
    have hB2 : Below W.heap.size W w2 := Below.trans (by (repeat' (first | (with_reducible exact Below.refl _ _) | (with_reducible assumption) | (with_reducible refine Below.setCell ?_ ?_ _) | (with_reducible refine Below.alloc ?_ ?_ _) | (with_reducible refine below_drewN ?_ _) | (with_reducible refine Below.drew ?_) | go_size))) (hb.mono (by go_size))
    have hz2 : W.heap.size + 1 ≤ w2.heap.size := by have := hb.size; simp at this; omega
    clear hc hf hb hB1 z0 z1 z2 z3 z4 g0
    go_wp2_with fail
    refine (HW.out _).mono ?_
    rintro e w3 ⟨rfl, hb⟩
    obtain ⟨hc, hf⟩ := bcell hb
    have x0 := (hc W.heap.size 0 (by omega)).trans x0
    have x1 := (hc W.heap.size 1 (by omega)).trans x1
    have x2 := (hc W.heap.size 2 (by omega)).trans x2
    have x3 := (hc W.heap.size 3 (by omega)).trans x3
    have x4 := (hc W.heap.size 4 (by omega)).trans x4
    have hB3 := hB2.trans (hb.mono (by omega))
    have hz3 := Nat.le_trans hz2 hb.size
    clear hc hf hb hB2
    go_wp2_with fail
    refine (HO.out _).mono ?_
    rintro e w4 ⟨rfl, hb⟩
    obtain ⟨hc, hf⟩ := bcell hb
    have x0 := (hc W.heap.size 0 (by omega)).trans x0
    have x1 := (hc W.heap.size 1 (by omega)).trans x1
    have x2 := (hc W.heap.size 2 (by omega)).trans x2
    have x3 := (hc W.heap.size 3 (by omega)).trans x3
    have x4 := (hc W.heap.size 4 (by omega)).trans x4
    have hB4 := hB3.trans (hb.mono (by omega))
    have hz4 := Nat.le_trans hz3 hb.size
    clear hc hf hb hB3
    have x0 : ∀ o, (w4.alloc o).cell? ⟨W.heap.size, 0, none⟩ = some (.int .i64 vx) := fun o => by rw [World.cell?_alloc_lt _ _ _ (by show W.heap.size < _; omega)]; exact x0
    have x1 : ∀ o, (w4.alloc o).cell? ⟨W.heap.size, 1, none⟩ = some (.int .u64 mx) := fun o => by rw [World.cell?_alloc_lt _ _ _ (by show W.heap.size < _; omega)]; exact x1
    have x2 : ∀ o, (w4.alloc o).cell? ⟨W.heap.size, 2, none⟩ = some (.int .i64 px) := fun o => by rw [World.cell?_alloc_lt _ _ _ (by show W.heap.size < _; omega)]; exact x2
    have x3 : ∀ o, (w4.alloc o).cell? ⟨W.heap.size, 3, none⟩ = some (.bool s0) := fun o => by rw [World.cell?_alloc_lt _ _ _ (by show W.heap.size < _; omega)]; exact x3
    have x4 : ∀ o, (w4.alloc o).cell? ⟨W.heap.size, 4, none⟩ = some (.int .u32 kx) := fun o => by rw [World.cell?_alloc_lt _ _ _ (by show W.heap.size < _; omega)]; exact x4
    go_wp2_with fail
    refine (HP.out _).mono ?_
    rintro e w5 ⟨rfl, hb⟩
    obtain ⟨hc, hf⟩ := bcell hb
    have x0 : w5.cell? ⟨W.heap.size, 0, none⟩ = some (.int .i64 vx) := by rw [hc _ _ (by simp; omega)]; exact x0 _
    have x1 : w5.cell? ⟨W.heap.size, 1, none⟩ = some (.int .u64 mx) := by rw [hc _ _ (by simp; omega)]; exact x1 _
    have x2 : w5.cell? ⟨W.heap.size, 2, none⟩ = some (.int .i64 px) := by rw [hc _ _ (by simp; omega)]; exact x2 _
    have x3 : w5.cell? ⟨W.heap.size, 3, none⟩ = some (.bool s0) := by rw [hc _ _ (by simp; omega)]; exact x3 _
    have x4 : w5.cell? ⟨W.heap.size, 4, none⟩ = some (.int .u32 kx) := by rw [hc _ _ (by simp; omega)]; exact x4 _
    have q0 : w5.cell? ⟨w4.heap.size, 0, none⟩ = some (.int .i64 0) := by rw [hc _ _ (by simp)]; simp [go_sem]
    have q1 : w5.cell? ⟨w4.heap.size, 1, none⟩ = some (.int .u64 0) := by rw [hc _ _ (by simp)]; simp [go_sem]
    have q2 : w5.cell? ⟨w4.heap.size, 2, none⟩ = some (.int .i64 0) := by rw [hc _ _ (by simp)]; simp [go_sem]
    have q3 : w5.cell? ⟨w4.heap.size, 3, none⟩ = some (.bool false) := by rw [hc _ _ (by simp)]; simp [go_sem]
    have q4 : w5.cell? ⟨w4.heap.size, 4, none⟩ = some (.int .u32 0) := by rw [hc _ _ (by simp)]; simp [go_sem]
    have hB5 : Below W.heap.size W w5 := Below.trans (by (repeat' (first | (with_reducible exact Below.refl _ _) | (with_reducible assumption) | (with_reducible refine Below.setCell ?_ ?_ _) | (with_reducible refine Below.alloc ?_ ?_ _) | (with_reducible refine below_drewN ?_ _) | (with_reducible refine Below.drew ?_) | go_size))) (hb.mono (by go_size))
    have hz5 : w4.heap.size + 1 ≤ w5.heap.size := by have := hb.size; simp at this; omega
    clear hc hf hb hB4
    go_wp2_with fail
    obtain ⟨w6, hw6⟩ : ∃ w6, w6 = w5.alloc (.cells #[.int .i64 0, .int .u64 0, .int .i64 0, .bool false, .int .u32 0] 77) := ⟨_, rfl⟩
    rw [← hw6]
    have x0 : w6.cell? ⟨W.heap.size, 0, none⟩ = some (.int .i64 vx) := by rw [hw6, World.cell?_alloc_lt _ _ _ (by show W.heap.size < _; omega)]; exact x0
    have x1 : w6.cell? ⟨W.heap.size, 1, none⟩ = some (.int .u64 mx) := by rw [hw6, World.cell?_alloc_lt _ _ _ (by show W.heap.size < _; omega)]; exact x1
    have x2 : w6.cell? ⟨W.heap.size, 2, none⟩ = some (.int .i64 px) := by rw [hw6, World.cell?_alloc_lt _ _ _ (by show W.heap.size < _; omega)]; exact x2
    have x3 : w6.cell? ⟨W.heap.size, 3, none⟩ = some (.bool s0) := by rw [hw6, World.cell?_alloc_lt _ _ _ (by show W.heap.size < _; omega)]; exact x3
    have x4 : w6.cell? ⟨W.heap.size, 4, none⟩ = some (.int .u32 kx) := by rw [hw6, World.cell?_alloc_lt _ _ _ (by show W.heap.size < _; omega)]; exact x4
    have q0 : w6.cell? ⟨w4.heap.size, 0, none⟩ = some (.int .i64 0) := by rw [hw6, World.cell?_alloc_lt _ _ _ (by show w4.heap.size < _; omega)]; exact q0
    have q1 : w6.cell? ⟨w4.heap.size, 1, none⟩ = some (.int .u64 0) := by rw [hw6, World.cell?_alloc_lt _ _ _ (by show w4.heap.size < _; omega)]; exact q1
    have q2 : w6.cell? ⟨w4.heap.size, 2, none⟩ = some (.int .i64 0) := by rw [hw6, World.cell?_alloc_lt _ _ _ (by show w4.heap.size < _; omega)]; exact q2
    have q3 : w6.cell? ⟨w4.heap.size, 3, none⟩ = some (.bool false) := by rw [hw6, World.cell?_alloc_lt _ _ _ (by show w4.heap.size < _; omega)]; exact q3
    have q4 : w6.cell? ⟨w4.heap.size, 4, none⟩ = some (.int .u32 0) := by rw [hw6, World.cell?_alloc_lt _ _ _ (by show w4.heap.size < _; omega)]; exact q4
    have r0 : w6.cell? ⟨w5.heap.size, 0, none⟩ = some (.int .i64 0) := by rw [hw6]; simp [go_sem]
    have r1 : w6.cell? ⟨w5.heap.size, 1, none⟩ = some (.int .u64 0) := by rw [hw6]; simp [go_sem]
    have r2 : w6.cell? ⟨w5.heap.size, 2, none⟩ = some (.int .i64 0) := by rw [hw6]; simp [go_sem]
    have r3 : w6.cell? ⟨w5.heap.size, 3, none⟩ = some (.bool false) := by rw [hw6]; simp [go_sem]
    have r4 : w6.cell? ⟨w5.heap.size, 4, none⟩ = some (.int .u32 0) := by rw [hw6]; simp [go_sem]
    have hB6 : Below W.heap.size W w6 := by rw [hw6]; exact hB5.alloc (by omega) _
    have hz6 : w5.heap.size + 1 ≤ w6.heap.size := by rw [hw6]; simp
    clear hw6 hB5
    refine wp_region_held_drew (S := fun w' => w'.cell? ⟨W.heap.size, 0, none⟩ = some (.int .i64 vx) ∧ w'.cell? ⟨W.heap.size, 1, none⟩ = some (.int .u64 mx) ∧ w'.cell? ⟨W.heap.size, 2, none⟩ = some (.int .i64 px) ∧ w'.cell? ⟨W.heap.size, 3, none⟩ = some (.bool s0) ∧ w'.cell? ⟨W.heap.size, 4, none⟩ = some (.int .u32 kx) ∧ w'.cell? ⟨w4.heap.size, 0, none⟩ = some (.int .i64 0) ∧ w'.cell? ⟨w4.heap.size, 1, none⟩ = some (.int .u64 0) ∧ w'.cell? ⟨w4.heap.size, 2, none⟩ = some (.int .i64 0) ∧ w'.cell? ⟨w4.heap.size, 3, none⟩ = some (.bool false) ∧ w'.cell? ⟨w4.heap.size, 4, none⟩ = some (.int .u32 0) ∧ w'.cell? ⟨w5.heap.size, 0, none⟩ = some (.int .i64 0) ∧ w'.cell? ⟨w5.heap.size, 1, none⟩ = some (.int .u64 0) ∧ w'.cell? ⟨w5.heap.size, 2, none⟩ = some (.int .i64 0) ∧ w'.cell? ⟨w5.heap.size, 3, none⟩ = some (.bool false) ∧ w'.cell? ⟨w5.heap.size, 4, none⟩ = some (.int .u32 0)) (by kernel_rfl) ?_ (fun hHeld => ?_)
    · exact ⟨x0, x1, x2, x3, x4, q0, q1, q2, q3, q4, r0, r1, r2, r3, r4⟩
    refine wpAnyH_ready (rs := [0]) (by kernel_rfl) (by simp) ?_
    refine AllReadyH.cons (o := { dst := some 47, op := Go.Op.call { callee := Go.Callee.value (Go.Operand.func 50), args := #[], argTypes := #[] }, type := 4, pos := "law.go:60", after := #[], guard := none }) rfl (fun K hK => ?_) AllReadyH.nil
    go_simp
    refine Calls.mono (told09 _) ?_
    rintro e w7 ⟨rfl, hb⟩
    have hB7 : Below W.heap.size W w7 := Below.trans (by (repeat' (first | (with_reducible exact Below.refl _ _) | (with_reducible assumption) | (with_reducible refine Below.setCell ?_ ?_ _) | (with_reducible refine Below.alloc ?_ ?_ _) | (with_reducible refine below_drewN ?_ _) | (with_reducible refine Below.drew ?_) | go_size))) (hb.mono (by go_size))
    have hz7 : w5.heap.size + 1 ≤ w7.heap.size := (by have := hb.size; (try simp at this); omega)
    refine hK.out _ _ ?_ (fun hHeld => ?_)
    · (try dsimp only)
      exact keep555B (G := w5.heap.size + 1) (by omega) (by omega) (by omega) (by assumption) (fun p hp => hb.cell (Nat.lt_of_lt_of_le hp (by go_size)))
    clear hK K
    (try simp only [Act.put, List.setIfInBounds_toArray, List.set_cons_zero, List.set_cons_succ])
    refine wpAnyH_take (i := 1) (oi := { dst := some 48, op := Go.Op.move (Go.Operand.tmp 47), type := 4, pos := "law.go:60", after := #[{ on := 0, ground := Go.Ground.data }, { on := 0, ground := Go.Ground.chain }], guard := none }) (v := ?_) rfl (by kernel_rfl) (by kernel_rfl) (by kernel_rfl) (fun _ _ _ h => h) (Or.inl ⟨by rfl, ?_⟩) (by assumption) ?_
    rotate_left
    · intro w hSw
      (try dsimp only at hSw)
      go_simp
      try with_reducible rfl
    (try simp only [Act.put, List.setIfInBounds_toArray, List.set_cons_zero, List.set_cons_succ])
    refine wpAnyH_take (i := 2) (oi := { dst := some 49, op := Go.Op.move (Go.Operand.tmp 9), type := 4, pos := "law.go:60", after := #[{ on := 1, ground := Go.Ground.guard }], guard := some (1, true) }) (v := ?_) rfl (by kernel_rfl) (by kernel_rfl) (by kernel_rfl) (fun _ _ _ h => h) (Or.inl ⟨by rfl, ?_⟩) (by assumption) ?_
    rotate_left
    · intro w hSw
      (try dsimp only at hSw)
      go_simp
      try with_reducible rfl
    (try simp only [Act.put, List.setIfInBounds_toArray, List.set_cons_zero, List.set_cons_succ])
    refine wpAnyH_take (i := 3) (oi := { dst := some 50, op := Go.Op.move (Go.Operand.tmp 11), type := 4, pos := "law.go:60", after := #[{ on := 1, ground := Go.Ground.guard }], guard := some (1, true) }) (v := ?_) rfl (by kernel_rfl) (by kernel_rfl) (by kernel_rfl) (fun _ _ _ h => h) (Or.inl ⟨by rfl, ?_⟩) (by assumption) ?_
    rotate_left
    · intro w hSw
      (try dsimp only at hSw)
      go_simp
      try with_reducible rfl
    (try simp only [Act.put, List.setIfInBounds_toArray, List.set_cons_zero, List.set_cons_succ])
    refine wpAnyH_take (i := 4) (oi := { dst := some 51, op := Go.Op.binOp Go.BinOp.eql 4 (Go.Operand.tmp 49) (Go.Operand.tmp 50) 4, type := 4, pos := "law.go:60", after := #[{ on := 2, ground := Go.Ground.data }, { on := 3, ground := Go.Ground.data }, { on := 1, ground := Go.Ground.guard }], guard := some (1, true) }) (v := ?_) rfl (by kernel_rfl) (by kernel_rfl) (by kernel_rfl) (fun _ _ _ h => h) (Or.inl ⟨by rfl, ?_⟩) (by assumption) ?_
    rotate_left
    · intro w hSw
      (try dsimp only at hSw)
      go_simp
      try with_reducible rfl
    (try simp only [Act.put, List.setIfInBounds_toArray, List.set_cons_zero, List.set_cons_succ])
    refine wpAnyH_take (i := 5) (oi := { dst := some 52, op := Go.Op.pick (Go.Operand.tmp 48) (Go.Operand.tmp 51) (Go.Operand.const (Go.Value.bool false)), type := 4, pos := "law.go:60", after := #[{ on := 1, ground := Go.Ground.data }, { on := 4, ground := Go.Ground.data }], guard := none }) (v := ?_) rfl (by kernel_rfl) (by kernel_rfl) (by kernel_rfl) (fun _ _ _ h => h) (Or.inl ⟨by rfl, ?_⟩) (by assumption) ?_
    rotate_left
    · intro w hSw
      (try dsimp only at hSw)
      go_simp
      try with_reducible rfl
    (try simp only [Act.put, List.setIfInBounds_toArray, List.set_cons_zero, List.set_cons_succ])
    refine wpAnyH_take (i := 6) (oi := { dst := some 53, op := Go.Op.move (Go.Operand.tmp 52), type := 4, pos := "law.go:60", after := #[{ on := 5, ground := Go.Ground.data }, { on := 1, ground := Go.Ground.chain }], guard := none }) (v := ?_) rfl (by kernel_rfl) (by kernel_rfl) (by kernel_rfl) (fun _ _ _ h => h) (Or.inl ⟨by rfl, ?_⟩) (by assumption) ?_
    rotate_left
    · intro w hSw
      (try dsimp only at hSw)
      go_simp
      try with_reducible rfl
    (try simp only [Act.put, List.setIfInBounds_toArray, List.set_cons_zero, List.set_cons_succ])
    refine wpAnyH_take (i := 7) (oi := { dst := some 54, op := Go.Op.load 81 (Go.Operand.tmp 8), type := 81, pos := "law.go:60", after := #[{ on := 6, ground := Go.Ground.guard }], guard := some (6, true) }) (v := ?_) rfl (by kernel_rfl) (by kernel_rfl) (by kernel_rfl) (fun _ _ _ h => h) (Or.inl ⟨by rfl, ?_⟩) (by assumption) ?_
    rotate_left
    · intro w hSw
      (try dsimp only at hSw)
      go_simp
      try with_reducible rfl
    (try simp only [Act.put, List.setIfInBounds_toArray, List.set_cons_zero, List.set_cons_succ])
    refine wpAnyH_take (i := 9) (oi := { dst := some 56, op := Go.Op.load 77 (Go.Operand.tmp 10), type := 77, pos := "law.go:60", after := #[{ on := 6, ground := Go.Ground.guard }], guard := some (6, true) }) (v := ?_) rfl (by kernel_rfl) (by kernel_rfl) (by kernel_rfl) (fun _ _ _ h => h) (Or.inl ⟨by rfl, ?_⟩) (by assumption) ?_
    rotate_left
    · intro w hSw
      (try dsimp only at hSw)
      go_simp
      try with_reducible rfl
    (try simp only [Act.put, List.setIfInBounds_toArray, List.set_cons_zero, List.set_cons_succ])
    refine wpAnyH_ready (rs := [8]) (by kernel_rfl) (by simp) ?_
    refine AllReadyH.cons (o := { dst := some 55, op := Go.Op.call { callee := Go.Callee.value (Go.Operand.func 55), args := #[Go.Operand.tmp 54], argTypes := #[81] }, type := 77, pos := "law.go:60", after := #[{ on := 7, ground := Go.Ground.data }, { on := 6, ground := Go.Ground.chain }, { on := 6, ground := Go.Ground.guard }], guard := some (6, true) }) rfl (fun K hK => ?_) AllReadyH.nil
    go_simp
    refine Calls.mono (HR.out _) ?_
    rintro e w8 ⟨rfl, hb⟩
    have hB8 : Below W.heap.size W w8 := Below.trans (by (repeat' (first | (with_reducible exact Below.refl _ _) | (with_reducible assumption) | (with_reducible refine Below.setCell ?_ ?_ _) | (with_reducible refine Below.alloc ?_ ?_ _) | (with_reducible refine below_drewN ?_ _) | (with_reducible refine Below.drew ?_) | go_size))) (hb.mono (by go_size))
    have hz8 : w5.heap.size + 1 ≤ w8.heap.size := (by have := hb.size; (try simp at this); omega)
    refine hK.out _ _ ?_ (fun hHeld => ?_)
    · (try dsimp only)
      exact keep555B (G := w5.heap.size + 1) (by omega) (by omega) (by omega) (by assumption) (fun p hp => hb.cell (Nat.lt_of_lt_of_le hp (by go_size)))
    clear hK K
    (try simp only [Act.put, List.setIfInBounds_toArray, List.set_cons_zero, List.set_cons_succ])
    refine wpAnyH_take (i := 10) (oi := { dst := some 57, op := Go.Op.binOp Go.BinOp.eql 77 (Go.Operand.tmp 55) (Go.Operand.tmp 56) 77, type := 4, pos := "law.go:60", after := #[{ on := 8, ground := Go.Ground.data }, { on := 9, ground := Go.Ground.data }, { on := 6, ground := Go.Ground.guard }], guard := some (6, true) }) (v := ?_) rfl (by kernel_rfl) (by kernel_rfl) (by kernel_rfl) (fun _ _ _ h => h) (Or.inl ⟨by rfl, ?_⟩) (by assumption) ?_
    rotate_left
    · intro w hSw
      (try dsimp only at hSw)
      go_simp
      try with_reducible rfl
    (try simp only [Act.put, List.setIfInBounds_toArray, List.set_cons_zero, List.set_cons_succ])
    refine wpAnyH_take (i := 11) (oi := { dst := some 58, op := Go.Op.pick (Go.Operand.tmp 53) (Go.Operand.tmp 57) (Go.Operand.const (Go.Value.bool false)), type := 4, pos := "law.go:60", after := #[{ on := 6, ground := Go.Ground.data }, { on := 10, ground := Go.Ground.data }], guard := none }) (v := ?_) rfl (by kernel_rfl) (by kernel_rfl) (by kernel_rfl) (fun _ _ _ h => h) (Or.inl ⟨by rfl, ?_⟩) (by assumption) ?_
    rotate_left
    · intro w hSw
      (try dsimp only at hSw)
      go_simp
      try with_reducible rfl
    (try simp only [Act.put, List.setIfInBounds_toArray, List.set_cons_zero, List.set_cons_succ])
    refine wpAnyH_take (i := 12) (oi := { dst := some 59, op := Go.Op.move (Go.Operand.tmp 58), type := 4, pos := "law.go:60", after := #[{ on := 11, ground := Go.Ground.data }, { on := 8, ground := Go.Ground.chain }], guard := none }) (v := ?_) rfl (by kernel_rfl) (by kernel_rfl) (by kernel_rfl) (fun _ _ _ h => h) (Or.inl ⟨by rfl, ?_⟩) (by assumption) ?_
    rotate_left
    · intro w hSw
      (try dsimp only at hSw)
      go_simp
      try with_reducible rfl
    (try simp only [Act.put, List.setIfInBounds_toArray, List.set_cons_zero, List.set_cons_succ])
    refine wpAnyH_take (i := 13) (oi := { dst := some 60, op := Go.Op.move (Go.Operand.tmp 9), type := 4, pos := "law.go:60", after := #[{ on := 12, ground := Go.Ground.guard }], guard := some (12, true) }) (v := ?_) rfl (by kernel_rfl) (by kernel_rfl) (by kernel_rfl) (fun _ _ _ h => h) (Or.inl ⟨by rfl, ?_⟩) (by assumption) ?_
    rotate_left
    · intro w hSw
      (try dsimp only at hSw)
      go_simp
      try with_reducible rfl
    (try simp only [Act.put, List.setIfInBounds_toArray, List.set_cons_zero, List.set_cons_succ])
    refine wpAnyH_take (i := 14) (oi := { dst := some 61, op := Go.Op.unOp Go.UnOp.not 4 (Go.Operand.tmp 60), type := 4, pos := "law.go:60", after := #[{ on := 13, ground := Go.Ground.data }, { on := 12, ground := Go.Ground.guard }], guard := some (12, true) }) (v := ?_) rfl (by kernel_rfl) (by kernel_rfl) (by kernel_rfl) (fun _ _ _ h => h) (Or.inl ⟨by rfl, ?_⟩) (by assumption) ?_
    rotate_left
    · intro w hSw
      (try dsimp only at hSw)
      go_simp
      try with_reducible rfl
    (try simp only [Act.put, List.setIfInBounds_toArray, List.set_cons_zero, List.set_cons_succ])
    refine wpAnyH_take (i := 15) (oi := { dst := some 62, op := Go.Op.move (Go.Operand.tmp 61), type := 4, pos := "law.go:60", after := #[{ on := 14, ground := Go.Ground.data }, { on := 12, ground := Go.Ground.chain }, { on := 12, ground := Go.Ground.guard }], guard := some (12, true) }) (v := ?_) rfl (by kernel_rfl) (by kernel_rfl) (by kernel_rfl) (fun _ _ _ h => h) (Or.inl ⟨by rfl, ?_⟩) (by assumption) ?_
    rotate_left
    · intro w hSw
      (try dsimp only at hSw)
      go_simp
      try with_reducible rfl
    (try simp only [Act.put, List.setIfInBounds_toArray, List.set_cons_zero, List.set_cons_succ])
    refine wpAnyH_take (i := 16) (oi := { dst := some 63, op := Go.Op.load 81 (Go.Operand.tmp 8), type := 81, pos := "law.go:60", after := #[{ on := 15, ground := Go.Ground.guard }], guard := some (15, false) }) (v := undef) rfl (by kernel_rfl) (by kernel_rfl) (by kernel_rfl) (fun _ _ _ h => h) (Or.inr ⟨by rfl, rfl⟩) (by assumption) ?_
    (try simp only [Act.put, List.setIfInBounds_toArray, List.set_cons_zero, List.set_cons_succ])
    refine wpAnyH_take (i := 17) (oi := { dst := some 64, op := Go.Op.call { callee := Go.Callee.value (Go.Operand.func 55), args := #[Go.Operand.tmp 63], argTypes := #[81] }, type := 77, pos := "law.go:60", after := #[{ on := 16, ground := Go.Ground.data }, { on := 15, ground := Go.Ground.chain }, { on := 15, ground := Go.Ground.guard }], guard := some (15, false) }) (v := undef) rfl (by kernel_rfl) (by kernel_rfl) (by kernel_rfl) (fun _ _ _ h => h) (Or.inr ⟨by rfl, rfl⟩) (by assumption) ?_
    (try simp only [Act.put, List.setIfInBounds_toArray, List.set_cons_zero, List.set_cons_succ])
    refine wpAnyH_take (i := 18) (oi := { dst := some 65, op := Go.Op.load 77 (Go.Operand.tmp 2), type := 77, pos := "law.go:60", after := #[{ on := 15, ground := Go.Ground.guard }], guard := some (15, false) }) (v := undef) rfl (by kernel_rfl) (by kernel_rfl) (by kernel_rfl) (fun _ _ _ h => h) (Or.inr ⟨by rfl, rfl⟩) (by assumption) ?_
    (try simp only [Act.put, List.setIfInBounds_toArray, List.set_cons_zero, List.set_cons_succ])
    refine wpAnyH_take (i := 19) (oi := { dst := some 66, op := Go.Op.binOp Go.BinOp.neq 77 (Go.Operand.tmp 64) (Go.Operand.tmp 65) 77, type := 4, pos := "law.go:60", after := #[{ on := 17, ground := Go.Ground.data }, { on := 18, ground := Go.Ground.data }, { on := 15, ground := Go.Ground.guard }], guard := some (15, false) }) (v := undef) rfl (by kernel_rfl) (by kernel_rfl) (by kernel_rfl) (fun _ _ _ h => h) (Or.inr ⟨by rfl, rfl⟩) (by assumption) ?_
    (try simp only [Act.put, List.setIfInBounds_toArray, List.set_cons_zero, List.set_cons_succ])
    refine wpAnyH_take (i := 20) (oi := { dst := some 67, op := Go.Op.pick (Go.Operand.tmp 62) (Go.Operand.const (Go.Value.bool true)) (Go.Operand.tmp 66), type := 4, pos := "law.go:60", after := #[{ on := 15, ground := Go.Ground.data }, { on := 19, ground := Go.Ground.data }, { on := 12, ground := Go.Ground.guard }], guard := some (12, true) }) (v := ?_) rfl (by kernel_rfl) (by kernel_rfl) (by kernel_rfl) (fun _ _ _ h => h) (Or.inl ⟨by rfl, ?_⟩) (by assumption) ?_
    rotate_left
    · intro w hSw
      (try dsimp only at hSw)
      go_simp
      try with_reducible rfl
    (try simp only [Act.put, List.setIfInBounds_toArray, List.set_cons_zero, List.set_cons_succ])
    refine wpAnyH_take (i := 21) (oi := { dst := some 68, op := Go.Op.pick (Go.Operand.tmp 59) (Go.Operand.tmp 67) (Go.Operand.const (Go.Value.bool false)), type := 4, pos := "law.go:60", after := #[{ on := 12, ground := Go.Ground.data }, { on := 20, ground := Go.Ground.data }], guard := none }) (v := ?_) rfl (by kernel_rfl) (by kernel_rfl) (by kernel_rfl) (fun _ _ _ h => h) (Or.inl ⟨by rfl, ?_⟩) (by assumption) ?_
    rotate_left
    · intro w hSw
      (try dsimp only at hSw)
      go_simp
      try with_reducible rfl
    (try simp only [Act.put, List.setIfInBounds_toArray, List.set_cons_zero, List.set_cons_succ])
    refine wpAnyH_take (i := 22) (oi := { dst := some 4, op := Go.Op.assign (Go.Operand.tmp 68), type := 4, pos := "law.go:60", after := #[{ on := 21, ground := Go.Ground.data }, { on := 17, ground := Go.Ground.chain }, { on := 0, ground := Go.Ground.phase }, { on := 1, ground := Go.Ground.phase }, { on := 2, ground := Go.Ground.phase }, { on := 3, ground := Go.Ground.phase }, { on := 4, ground := Go.Ground.phase }, { on := 5, ground := Go.Ground.phase }, { on := 6, ground := Go.Ground.phase }, { on := 7, ground := Go.Ground.phase }, { on := 8, ground := Go.Ground.phase }, { on := 9, ground := Go.Ground.phase }, { on := 10, ground := Go.Ground.phase }, { on := 11, ground := Go.Ground.phase }, { on := 12, ground := Go.Ground.phase }, { on := 13, ground := Go.Ground.phase }, { on := 14, ground := Go.Ground.phase }, { on := 15, ground := Go.Ground.phase }, { on := 16, ground := Go.Ground.phase }, { on := 17, ground := Go.Ground.phase }, { on := 18, ground := Go.Ground.phase }, { on := 19, ground := Go.Ground.phase }, { on := 20, ground := Go.Ground.phase }, { on := 21, ground := Go.Ground.phase }], guard := none }) (v := ?_) rfl (by kernel_rfl) (by kernel_rfl) (by kernel_rfl) (fun _ _ _ h => h) (Or.inl ⟨by rfl, ?_⟩) (by assumption) ?_
    rotate_left
    · intro w hSw
      (try dsimp only at hSw)
      go_simp
      try with_reducible rfl
    (try simp only [Act.put, List.setIfInBounds_toArray, List.set_cons_zero, List.set_cons_succ])
    refine wpAnyH_done (by kernel_rfl) ?_ _
    all_goals
      go_wp2
      go_ret
      exact ⟨by first | (simp; done) | (simp_all; done), by assumption⟩
  · rw [slotT_yes hk] at hO hP
    have hd : ¬ ((vidW A : Int) = vx ∧ macW A = M ∧ (((B' % 256 : Nat)) : Int) = px ∧ decide (B' / 256 % 2 = 1) = s0 ∧ B' / 4294967296 = kn) := fun ⟨q1, q2, q3, q4, q5⟩ => hneB hk (by unfold entW; rw [q1, q2, q3, q4, q5])
    have HF := Lib.hid hFx
    have HT := Lib.hid hT
    have HW := Lib.hid hW
    have HR := Lib.hid fun W => law9_From (vidW A : Int) (macW A : Int) ((B' % 256 : Nat) : Int) (decide (B' / 256 % 2 = 1)) ((B' / 4294967296 : Nat) : Int) W
    have HO := Lib.hid hO
    have HP := Lib.hid hP
    clear hO hP hk hFx hT hW hneB
    generalize hgv : (vidW A : Int) = v at *
    generalize hgm : macW A = m1 at *
    generalize hgp : ((B' % 256 : Nat) : Int) = p at *
    generalize decide (B' / 256 % 2 = 1) = st at *
    generalize hgs : B' / 4294967296 = s1 at *
    have hd : ¬ (v = vx ∧ (m1 : Int) = (M : Int) ∧ p = px ∧ st = s0 ∧ (s1 : Int) = (kn : Int)) := fun ⟨q1, q2, q3, q4, q5⟩ => hd ⟨q1, by omega, q3, q4, by omega⟩
    clear hgv hgm hgp hgs
    generalize (m1 : Int) = m at *
    generalize (s1 : Int) = s at *
    generalize (M : Int) = mx at *
    generalize (kn : Int) = kx at *
    rcases (show ¬ v = vx ∨ (v = vx ∧ ¬ m = mx) ∨ (v = vx ∧ m = mx ∧ ¬ p = px) ∨ (v = vx ∧ m = mx ∧ p = px ∧ ¬ st = s0) ∨ (v = vx ∧ m = mx ∧ p = px ∧ st = s0 ∧ ¬ s = kx) by
      by_cases q1 : v = vx <;> by_cases q2 : m = mx <;> by_cases q3 : p = px <;> by_cases q4 : st = s0 <;> simp_all) with hd | ⟨rfl, hd⟩ | ⟨rfl, rfl, hd⟩ | ⟨rfl, rfl, rfl, hd⟩ | ⟨rfl, rfl, rfl, rfl, hd⟩
    · go_enter Try.func14, Try.ntmps14
      go_wp2_with fail
      refine (HF.out _).mono ?_
      rintro e w1 ⟨rfl, hb⟩
      obtain ⟨hc, hf⟩ := bcell hb
      have z0 : w1.cell? ⟨W.heap.size, 0, none⟩ = some (.int .i64 a0) := by rw [hc _ _ (by simp)]; simp [go_sem]
      have z1 : w1.cell? ⟨W.heap.size, 1, none⟩ = some (.int .u64 (e0 : Int)) := by rw [hc _ _ (by simp)]; simp [go_sem]
      have z2 : w1.cell? ⟨W.heap.size, 2, none⟩ = some (.int .i64 p0) := by rw [hc _ _ (by simp)]; simp [go_sem]
      have z3 : w1.cell? ⟨W.heap.size, 3, none⟩ = some (.bool s0) := by rw [hc _ _ (by simp)]; simp [go_sem]
      have z4 : w1.cell? ⟨W.heap.size, 4, none⟩ = some (.int .u32 (k0 : Int)) := by rw [hc _ _ (by simp)]; simp [go_sem]
      have g0 : ∀ o, w1.frozen? ⟨W.heap.size, o, none⟩ = false := fun o => by rw [hf _ _ (by simp)]; simp [go_sem]
      have hB1 : Below W.heap.size W w1 := Below.trans (by (repeat' (first | (with_reducible exact Below.refl _ _) | (with_reducible assumption) | (with_reducible refine Below.setCell ?_ ?_ _) | (with_reducible refine Below.alloc ?_ ?_ _) | (with_reducible refine below_drewN ?_ _) | (with_reducible refine Below.drew ?_) | go_size))) (hb.mono (by go_size))
      have hz1 : W.heap.size + 1 ≤ w1.heap.size := by have := hb.size; simp at this; omega
      clear hc hf hb
      go_wp2_with fail
      refine (HT.out _).mono ?_
      rintro e w2 ⟨rfl, hb⟩
      obtain ⟨hc, hf⟩ := bcell hb
      have x0 : w2.cell? ⟨W.heap.size, 0, none⟩ = some (.int .i64 vx) := by rw [hc _ _ (by first | (simp; done) | (simp; omega))]; simp [go_sem, z0]
      have x1 : w2.cell? ⟨W.heap.size, 1, none⟩ = some (.int .u64 mx) := by rw [hc _ _ (by first | (simp; done) | (simp; omega))]; simp [go_sem, z1]
      have x2 : w2.cell? ⟨W.heap.size, 2, none⟩ = some (.int .i64 px) := by rw [hc _ _ (by first | (simp; done) | (simp; omega))]; simp [go_sem, z2]
      have x3 : w2.cell? ⟨W.heap.size, 3, none⟩ = some (.bool s0) := by rw [hc _ _ (by first | (simp; done) | (simp; omega))]; simp [go_sem, z3]
      have x4 : w2.cell? ⟨W.heap.size, 4, none⟩ = some (.int .u32 kx) := by rw [hc _ _ (by first | (simp; done) | (simp; omega))]; simp [go_sem, z4]
      have hB2 : Below W.heap.size W w2 := Below.trans (by (repeat' (first | (with_reducible exact Below.refl _ _) | (with_reducible assumption) | (with_reducible refine Below.setCell ?_ ?_ _) | (with_reducible refine Below.alloc ?_ ?_ _) | (with_reducible refine below_drewN ?_ _) | (with_reducible refine Below.drew ?_) | go_size))) (hb.mono (by go_size))
      have hz2 : W.heap.size + 1 ≤ w2.heap.size := by have := hb.size; simp at this; omega
      clear hc hf hb hB1 z0 z1 z2 z3 z4 g0
      go_wp2_with fail
      refine (HW.out _).mono ?_
      rintro e w3 ⟨rfl, hb⟩
      obtain ⟨hc, hf⟩ := bcell hb
      have x0 := (hc W.heap.size 0 (by omega)).trans x0
      have x1 := (hc W.heap.size 1 (by omega)).trans x1
      have x2 := (hc W.heap.size 2 (by omega)).trans x2
      have x3 := (hc W.heap.size 3 (by omega)).trans x3
      have x4 := (hc W.heap.size 4 (by omega)).trans x4
      have hB3 := hB2.trans (hb.mono (by omega))
      have hz3 := Nat.le_trans hz2 hb.size
      clear hc hf hb hB2
      go_wp2_with fail
      refine (HO.out _).mono ?_
      rintro e w4 ⟨rfl, hb⟩
      obtain ⟨hc, hf⟩ := bcell hb
      have x0 := (hc W.heap.size 0 (by omega)).trans x0
      have x1 := (hc W.heap.size 1 (by omega)).trans x1
      have x2 := (hc W.heap.size 2 (by omega)).trans x2
      have x3 := (hc W.heap.size 3 (by omega)).trans x3
      have x4 := (hc W.heap.size 4 (by omega)).trans x4
      have hB4 := hB3.trans (hb.mono (by omega))
      have hz4 := Nat.le_trans hz3 hb.size
      clear hc hf hb hB3
      have x0 : ∀ o, (w4.alloc o).cell? ⟨W.heap.size, 0, none⟩ = some (.int .i64 vx) := fun o => by rw [World.cell?_alloc_lt _ _ _ (by show W.heap.size < _; omega)]; exact x0
      have x1 : ∀ o, (w4.alloc o).cell? ⟨W.heap.size, 1, none⟩ = some (.int .u64 mx) := fun o => by rw [World.cell?_alloc_lt _ _ _ (by show W.heap.size < _; omega)]; exact x1
      have x2 : ∀ o, (w4.alloc o).cell? ⟨W.heap.size, 2, none⟩ = some (.int .i64 px) := fun o => by rw [World.cell?_alloc_lt _ _ _ (by show W.heap.size < _; omega)]; exact x2
      have x3 : ∀ o, (w4.alloc o).cell? ⟨W.heap.size, 3, none⟩ = some (.bool s0) := fun o => by rw [World.cell?_alloc_lt _ _ _ (by show W.heap.size < _; omega)]; exact x3
      have x4 : ∀ o, (w4.alloc o).cell? ⟨W.heap.size, 4, none⟩ = some (.int .u32 kx) := fun o => by rw [World.cell?_alloc_lt _ _ _ (by show W.heap.size < _; omega)]; exact x4
      go_wp2_with fail
      refine (HP.out _).mono ?_
      rintro e w5 ⟨rfl, hb⟩
      obtain ⟨hc, hf⟩ := bcell hb
      have x0 : w5.cell? ⟨W.heap.size, 0, none⟩ = some (.int .i64 vx) := by rw [hc _ _ (by simp; omega)]; exact x0 _
      have x1 : w5.cell? ⟨W.heap.size, 1, none⟩ = some (.int .u64 mx) := by rw [hc _ _ (by simp; omega)]; exact x1 _
      have x2 : w5.cell? ⟨W.heap.size, 2, none⟩ = some (.int .i64 px) := by rw [hc _ _ (by simp; omega)]; exact x2 _
      have x3 : w5.cell? ⟨W.heap.size, 3, none⟩ = some (.bool s0) := by rw [hc _ _ (by simp; omega)]; exact x3 _
      have x4 : w5.cell? ⟨W.heap.size, 4, none⟩ = some (.int .u32 kx) := by rw [hc _ _ (by simp; omega)]; exact x4 _
      have q0 : w5.cell? ⟨w4.heap.size, 0, none⟩ = some (.int .i64 v) := by rw [hc _ _ (by simp)]; simp [go_sem]
      have q1 : w5.cell? ⟨w4.heap.size, 1, none⟩ = some (.int .u64 m) := by rw [hc _ _ (by simp)]; simp [go_sem]
      have q2 : w5.cell? ⟨w4.heap.size, 2, none⟩ = some (.int .i64 p) := by rw [hc _ _ (by simp)]; simp [go_sem]
      have q3 : w5.cell? ⟨w4.heap.size, 3, none⟩ = some (.bool st) := by rw [hc _ _ (by simp)]; simp [go_sem]
      have q4 : w5.cell? ⟨w4.heap.size, 4, none⟩ = some (.int .u32 s) := by rw [hc _ _ (by simp)]; simp [go_sem]
      have hB5 : Below W.heap.size W w5 := Below.trans (by (repeat' (first | (with_reducible exact Below.refl _ _) | (with_reducible assumption) | (with_reducible refine Below.setCell ?_ ?_ _) | (with_reducible refine Below.alloc ?_ ?_ _) | (with_reducible refine below_drewN ?_ _) | (with_reducible refine Below.drew ?_) | go_size))) (hb.mono (by go_size))
      have hz5 : w4.heap.size + 1 ≤ w5.heap.size := by have := hb.size; simp at this; omega
      clear hc hf hb hB4
      go_wp2_with fail
      obtain ⟨w6, hw6⟩ : ∃ w6, w6 = w5.alloc (.cells #[.int .i64 v, .int .u64 m, .int .i64 p, .bool st, .int .u32 s] 77) := ⟨_, rfl⟩
      rw [← hw6]
      have x0 : w6.cell? ⟨W.heap.size, 0, none⟩ = some (.int .i64 vx) := by rw [hw6, World.cell?_alloc_lt _ _ _ (by show W.heap.size < _; omega)]; exact x0
      have x1 : w6.cell? ⟨W.heap.size, 1, none⟩ = some (.int .u64 mx) := by rw [hw6, World.cell?_alloc_lt _ _ _ (by show W.heap.size < _; omega)]; exact x1
      have x2 : w6.cell? ⟨W.heap.size, 2, none⟩ = some (.int .i64 px) := by rw [hw6, World.cell?_alloc_lt _ _ _ (by show W.heap.size < _; omega)]; exact x2
      have x3 : w6.cell? ⟨W.heap.size, 3, none⟩ = some (.bool s0) := by rw [hw6, World.cell?_alloc_lt _ _ _ (by show W.heap.size < _; omega)]; exact x3
      have x4 : w6.cell? ⟨W.heap.size, 4, none⟩ = some (.int .u32 kx) := by rw [hw6, World.cell?_alloc_lt _ _ _ (by show W.heap.size < _; omega)]; exact x4
      have q0 : w6.cell? ⟨w4.heap.size, 0, none⟩ = some (.int .i64 v) := by rw [hw6, World.cell?_alloc_lt _ _ _ (by show w4.heap.size < _; omega)]; exact q0
      have q1 : w6.cell? ⟨w4.heap.size, 1, none⟩ = some (.int .u64 m) := by rw [hw6, World.cell?_alloc_lt _ _ _ (by show w4.heap.size < _; omega)]; exact q1
      have q2 : w6.cell? ⟨w4.heap.size, 2, none⟩ = some (.int .i64 p) := by rw [hw6, World.cell?_alloc_lt _ _ _ (by show w4.heap.size < _; omega)]; exact q2
      have q3 : w6.cell? ⟨w4.heap.size, 3, none⟩ = some (.bool st) := by rw [hw6, World.cell?_alloc_lt _ _ _ (by show w4.heap.size < _; omega)]; exact q3
      have q4 : w6.cell? ⟨w4.heap.size, 4, none⟩ = some (.int .u32 s) := by rw [hw6, World.cell?_alloc_lt _ _ _ (by show w4.heap.size < _; omega)]; exact q4
      have r0 : w6.cell? ⟨w5.heap.size, 0, none⟩ = some (.int .i64 v) := by rw [hw6]; simp [go_sem]
      have r1 : w6.cell? ⟨w5.heap.size, 1, none⟩ = some (.int .u64 m) := by rw [hw6]; simp [go_sem]
      have r2 : w6.cell? ⟨w5.heap.size, 2, none⟩ = some (.int .i64 p) := by rw [hw6]; simp [go_sem]
      have r3 : w6.cell? ⟨w5.heap.size, 3, none⟩ = some (.bool st) := by rw [hw6]; simp [go_sem]
      have r4 : w6.cell? ⟨w5.heap.size, 4, none⟩ = some (.int .u32 s) := by rw [hw6]; simp [go_sem]
      have hB6 : Below W.heap.size W w6 := by rw [hw6]; exact hB5.alloc (by omega) _
      have hz6 : w5.heap.size + 1 ≤ w6.heap.size := by rw [hw6]; simp
      clear hw6 hB5
      refine wp_region_held_drew (S := fun w' => w'.cell? ⟨W.heap.size, 0, none⟩ = some (.int .i64 vx) ∧ w'.cell? ⟨W.heap.size, 1, none⟩ = some (.int .u64 mx) ∧ w'.cell? ⟨W.heap.size, 2, none⟩ = some (.int .i64 px) ∧ w'.cell? ⟨W.heap.size, 3, none⟩ = some (.bool s0) ∧ w'.cell? ⟨W.heap.size, 4, none⟩ = some (.int .u32 kx) ∧ w'.cell? ⟨w4.heap.size, 0, none⟩ = some (.int .i64 v) ∧ w'.cell? ⟨w4.heap.size, 1, none⟩ = some (.int .u64 m) ∧ w'.cell? ⟨w4.heap.size, 2, none⟩ = some (.int .i64 p) ∧ w'.cell? ⟨w4.heap.size, 3, none⟩ = some (.bool st) ∧ w'.cell? ⟨w4.heap.size, 4, none⟩ = some (.int .u32 s) ∧ w'.cell? ⟨w5.heap.size, 0, none⟩ = some (.int .i64 v) ∧ w'.cell? ⟨w5.heap.size, 1, none⟩ = some (.int .u64 m) ∧ w'.cell? ⟨w5.heap.size, 2, none⟩ = some (.int .i64 p) ∧ w'.cell? ⟨w5.heap.size, 3, none⟩ = some (.bool st) ∧ w'.cell? ⟨w5.heap.size, 4, none⟩ = some (.int .u32 s)) (by kernel_rfl) ?_ (fun hHeld => ?_)
      · exact ⟨x0, x1, x2, x3, x4, q0, q1, q2, q3, q4, r0, r1, r2, r3, r4⟩
      refine wpAnyH_ready (rs := [0]) (by kernel_rfl) (by simp) ?_
      refine AllReadyH.cons (o := { dst := some 47, op := Go.Op.call { callee := Go.Callee.value (Go.Operand.func 50), args := #[], argTypes := #[] }, type := 4, pos := "law.go:60", after := #[], guard := none }) rfl (fun K hK => ?_) AllReadyH.nil
      go_simp
      refine Calls.mono (told09 _) ?_
      rintro e w7 ⟨rfl, hb⟩
      have hB7 : Below W.heap.size W w7 := Below.trans (by (repeat' (first | (with_reducible exact Below.refl _ _) | (with_reducible assumption) | (with_reducible refine Below.setCell ?_ ?_ _) | (with_reducible refine Below.alloc ?_ ?_ _) | (with_reducible refine below_drewN ?_ _) | (with_reducible refine Below.drew ?_) | go_size))) (hb.mono (by go_size))
      have hz7 : w5.heap.size + 1 ≤ w7.heap.size := (by have := hb.size; (try simp at this); omega)
      refine hK.out _ _ ?_ (fun hHeld => ?_)
      · (try dsimp only)
        exact keep555B (G := w5.heap.size + 1) (by omega) (by omega) (by omega) (by assumption) (fun p hp => hb.cell (Nat.lt_of_lt_of_le hp (by go_size)))
      clear hK K
      (try simp only [Act.put, List.setIfInBounds_toArray, List.set_cons_zero, List.set_cons_succ])
      refine wpAnyH_take (i := 1) (oi := { dst := some 48, op := Go.Op.move (Go.Operand.tmp 47), type := 4, pos := "law.go:60", after := #[{ on := 0, ground := Go.Ground.data }, { on := 0, ground := Go.Ground.chain }], guard := none }) (v := ?_) rfl (by kernel_rfl) (by kernel_rfl) (by kernel_rfl) (fun _ _ _ h => h) (Or.inl ⟨by rfl, ?_⟩) (by assumption) ?_
      rotate_left
      · intro w hSw
        (try dsimp only at hSw)
        go_simp
        try with_reducible rfl
      (try simp only [Act.put, List.setIfInBounds_toArray, List.set_cons_zero, List.set_cons_succ])
      refine wpAnyH_take (i := 2) (oi := { dst := some 49, op := Go.Op.move (Go.Operand.tmp 9), type := 4, pos := "law.go:60", after := #[{ on := 1, ground := Go.Ground.guard }], guard := some (1, true) }) (v := ?_) rfl (by kernel_rfl) (by kernel_rfl) (by kernel_rfl) (fun _ _ _ h => h) (Or.inl ⟨by rfl, ?_⟩) (by assumption) ?_
      rotate_left
      · intro w hSw
        (try dsimp only at hSw)
        go_simp
        try with_reducible rfl
      (try simp only [Act.put, List.setIfInBounds_toArray, List.set_cons_zero, List.set_cons_succ])
      refine wpAnyH_take (i := 3) (oi := { dst := some 50, op := Go.Op.move (Go.Operand.tmp 11), type := 4, pos := "law.go:60", after := #[{ on := 1, ground := Go.Ground.guard }], guard := some (1, true) }) (v := ?_) rfl (by kernel_rfl) (by kernel_rfl) (by kernel_rfl) (fun _ _ _ h => h) (Or.inl ⟨by rfl, ?_⟩) (by assumption) ?_
      rotate_left
      · intro w hSw
        (try dsimp only at hSw)
        go_simp
        try with_reducible rfl
      (try simp only [Act.put, List.setIfInBounds_toArray, List.set_cons_zero, List.set_cons_succ])
      refine wpAnyH_take (i := 4) (oi := { dst := some 51, op := Go.Op.binOp Go.BinOp.eql 4 (Go.Operand.tmp 49) (Go.Operand.tmp 50) 4, type := 4, pos := "law.go:60", after := #[{ on := 2, ground := Go.Ground.data }, { on := 3, ground := Go.Ground.data }, { on := 1, ground := Go.Ground.guard }], guard := some (1, true) }) (v := ?_) rfl (by kernel_rfl) (by kernel_rfl) (by kernel_rfl) (fun _ _ _ h => h) (Or.inl ⟨by rfl, ?_⟩) (by assumption) ?_
      rotate_left
      · intro w hSw
        (try dsimp only at hSw)
        go_simp
        try with_reducible rfl
      (try simp only [Act.put, List.setIfInBounds_toArray, List.set_cons_zero, List.set_cons_succ])
      refine wpAnyH_take (i := 5) (oi := { dst := some 52, op := Go.Op.pick (Go.Operand.tmp 48) (Go.Operand.tmp 51) (Go.Operand.const (Go.Value.bool false)), type := 4, pos := "law.go:60", after := #[{ on := 1, ground := Go.Ground.data }, { on := 4, ground := Go.Ground.data }], guard := none }) (v := ?_) rfl (by kernel_rfl) (by kernel_rfl) (by kernel_rfl) (fun _ _ _ h => h) (Or.inl ⟨by rfl, ?_⟩) (by assumption) ?_
      rotate_left
      · intro w hSw
        (try dsimp only at hSw)
        go_simp
        try with_reducible rfl
      (try simp only [Act.put, List.setIfInBounds_toArray, List.set_cons_zero, List.set_cons_succ])
      refine wpAnyH_take (i := 6) (oi := { dst := some 53, op := Go.Op.move (Go.Operand.tmp 52), type := 4, pos := "law.go:60", after := #[{ on := 5, ground := Go.Ground.data }, { on := 1, ground := Go.Ground.chain }], guard := none }) (v := ?_) rfl (by kernel_rfl) (by kernel_rfl) (by kernel_rfl) (fun _ _ _ h => h) (Or.inl ⟨by rfl, ?_⟩) (by assumption) ?_
      rotate_left
      · intro w hSw
        (try dsimp only at hSw)
        go_simp
        try with_reducible rfl
      (try simp only [Act.put, List.setIfInBounds_toArray, List.set_cons_zero, List.set_cons_succ])
      refine wpAnyH_take (i := 7) (oi := { dst := some 54, op := Go.Op.load 81 (Go.Operand.tmp 8), type := 81, pos := "law.go:60", after := #[{ on := 6, ground := Go.Ground.guard }], guard := some (6, true) }) (v := ?_) rfl (by kernel_rfl) (by kernel_rfl) (by kernel_rfl) (fun _ _ _ h => h) (Or.inl ⟨by rfl, ?_⟩) (by assumption) ?_
      rotate_left
      · intro w hSw
        (try dsimp only at hSw)
        go_simp
        try with_reducible rfl
      (try simp only [Act.put, List.setIfInBounds_toArray, List.set_cons_zero, List.set_cons_succ])
      refine wpAnyH_take (i := 9) (oi := { dst := some 56, op := Go.Op.load 77 (Go.Operand.tmp 10), type := 77, pos := "law.go:60", after := #[{ on := 6, ground := Go.Ground.guard }], guard := some (6, true) }) (v := ?_) rfl (by kernel_rfl) (by kernel_rfl) (by kernel_rfl) (fun _ _ _ h => h) (Or.inl ⟨by rfl, ?_⟩) (by assumption) ?_
      rotate_left
      · intro w hSw
        (try dsimp only at hSw)
        go_simp
        try with_reducible rfl
      (try simp only [Act.put, List.setIfInBounds_toArray, List.set_cons_zero, List.set_cons_succ])
      refine wpAnyH_ready (rs := [8]) (by kernel_rfl) (by simp) ?_
      refine AllReadyH.cons (o := { dst := some 55, op := Go.Op.call { callee := Go.Callee.value (Go.Operand.func 55), args := #[Go.Operand.tmp 54], argTypes := #[81] }, type := 77, pos := "law.go:60", after := #[{ on := 7, ground := Go.Ground.data }, { on := 6, ground := Go.Ground.chain }, { on := 6, ground := Go.Ground.guard }], guard := some (6, true) }) rfl (fun K hK => ?_) AllReadyH.nil
      go_simp
      refine Calls.mono (HR.out _) ?_
      rintro e w8 ⟨rfl, hb⟩
      have hB8 : Below W.heap.size W w8 := Below.trans (by (repeat' (first | (with_reducible exact Below.refl _ _) | (with_reducible assumption) | (with_reducible refine Below.setCell ?_ ?_ _) | (with_reducible refine Below.alloc ?_ ?_ _) | (with_reducible refine below_drewN ?_ _) | (with_reducible refine Below.drew ?_) | go_size))) (hb.mono (by go_size))
      have hz8 : w5.heap.size + 1 ≤ w8.heap.size := (by have := hb.size; (try simp at this); omega)
      refine hK.out _ _ ?_ (fun hHeld => ?_)
      · (try dsimp only)
        exact keep555B (G := w5.heap.size + 1) (by omega) (by omega) (by omega) (by assumption) (fun p hp => hb.cell (Nat.lt_of_lt_of_le hp (by go_size)))
      clear hK K
      (try simp only [Act.put, List.setIfInBounds_toArray, List.set_cons_zero, List.set_cons_succ])
      refine wpAnyH_take (i := 10) (oi := { dst := some 57, op := Go.Op.binOp Go.BinOp.eql 77 (Go.Operand.tmp 55) (Go.Operand.tmp 56) 77, type := 4, pos := "law.go:60", after := #[{ on := 8, ground := Go.Ground.data }, { on := 9, ground := Go.Ground.data }, { on := 6, ground := Go.Ground.guard }], guard := some (6, true) }) (v := ?_) rfl (by kernel_rfl) (by kernel_rfl) (by kernel_rfl) (fun _ _ _ h => h) (Or.inl ⟨by rfl, ?_⟩) (by assumption) ?_
      rotate_left
      · intro w hSw
        (try dsimp only at hSw)
        go_simp
        try with_reducible rfl
      (try simp only [Act.put, List.setIfInBounds_toArray, List.set_cons_zero, List.set_cons_succ])
      refine wpAnyH_take (i := 11) (oi := { dst := some 58, op := Go.Op.pick (Go.Operand.tmp 53) (Go.Operand.tmp 57) (Go.Operand.const (Go.Value.bool false)), type := 4, pos := "law.go:60", after := #[{ on := 6, ground := Go.Ground.data }, { on := 10, ground := Go.Ground.data }], guard := none }) (v := ?_) rfl (by kernel_rfl) (by kernel_rfl) (by kernel_rfl) (fun _ _ _ h => h) (Or.inl ⟨by rfl, ?_⟩) (by assumption) ?_
      rotate_left
      · intro w hSw
        (try dsimp only at hSw)
        go_simp
        try with_reducible rfl
      (try simp only [Act.put, List.setIfInBounds_toArray, List.set_cons_zero, List.set_cons_succ])
      refine wpAnyH_take (i := 12) (oi := { dst := some 59, op := Go.Op.move (Go.Operand.tmp 58), type := 4, pos := "law.go:60", after := #[{ on := 11, ground := Go.Ground.data }, { on := 8, ground := Go.Ground.chain }], guard := none }) (v := ?_) rfl (by kernel_rfl) (by kernel_rfl) (by kernel_rfl) (fun _ _ _ h => h) (Or.inl ⟨by rfl, ?_⟩) (by assumption) ?_
      rotate_left
      · intro w hSw
        (try dsimp only at hSw)
        go_simp
        try with_reducible rfl
      (try simp only [Act.put, List.setIfInBounds_toArray, List.set_cons_zero, List.set_cons_succ])
      refine wpAnyH_take (i := 13) (oi := { dst := some 60, op := Go.Op.move (Go.Operand.tmp 9), type := 4, pos := "law.go:60", after := #[{ on := 12, ground := Go.Ground.guard }], guard := some (12, true) }) (v := ?_) rfl (by kernel_rfl) (by kernel_rfl) (by kernel_rfl) (fun _ _ _ h => h) (Or.inl ⟨by rfl, ?_⟩) (by assumption) ?_
      rotate_left
      · intro w hSw
        (try dsimp only at hSw)
        go_simp
        try with_reducible rfl
      (try simp only [Act.put, List.setIfInBounds_toArray, List.set_cons_zero, List.set_cons_succ])
      refine wpAnyH_take (i := 14) (oi := { dst := some 61, op := Go.Op.unOp Go.UnOp.not 4 (Go.Operand.tmp 60), type := 4, pos := "law.go:60", after := #[{ on := 13, ground := Go.Ground.data }, { on := 12, ground := Go.Ground.guard }], guard := some (12, true) }) (v := ?_) rfl (by kernel_rfl) (by kernel_rfl) (by kernel_rfl) (fun _ _ _ h => h) (Or.inl ⟨by rfl, ?_⟩) (by assumption) ?_
      rotate_left
      · intro w hSw
        (try dsimp only at hSw)
        go_simp
        try with_reducible rfl
      (try simp only [Act.put, List.setIfInBounds_toArray, List.set_cons_zero, List.set_cons_succ])
      refine wpAnyH_take (i := 15) (oi := { dst := some 62, op := Go.Op.move (Go.Operand.tmp 61), type := 4, pos := "law.go:60", after := #[{ on := 14, ground := Go.Ground.data }, { on := 12, ground := Go.Ground.chain }, { on := 12, ground := Go.Ground.guard }], guard := some (12, true) }) (v := ?_) rfl (by kernel_rfl) (by kernel_rfl) (by kernel_rfl) (fun _ _ _ h => h) (Or.inl ⟨by rfl, ?_⟩) (by assumption) ?_
      rotate_left
      · intro w hSw
        (try dsimp only at hSw)
        go_simp
        try with_reducible rfl
      (try simp only [Act.put, List.setIfInBounds_toArray, List.set_cons_zero, List.set_cons_succ])
      refine wpAnyH_take (i := 16) (oi := { dst := some 63, op := Go.Op.load 81 (Go.Operand.tmp 8), type := 81, pos := "law.go:60", after := #[{ on := 15, ground := Go.Ground.guard }], guard := some (15, false) }) (v := ?_) rfl (by kernel_rfl) (by kernel_rfl) (by kernel_rfl) (fun _ _ _ h => h) (Or.inl ⟨by rfl, ?_⟩) (by assumption) ?_
      rotate_left
      · intro w hSw
        (try dsimp only at hSw)
        go_simp
        try with_reducible rfl
      (try simp only [Act.put, List.setIfInBounds_toArray, List.set_cons_zero, List.set_cons_succ])
      refine wpAnyH_take (i := 18) (oi := { dst := some 65, op := Go.Op.load 77 (Go.Operand.tmp 2), type := 77, pos := "law.go:60", after := #[{ on := 15, ground := Go.Ground.guard }], guard := some (15, false) }) (v := ?_) rfl (by kernel_rfl) (by kernel_rfl) (by kernel_rfl) (fun _ _ _ h => h) (Or.inl ⟨by rfl, ?_⟩) (by assumption) ?_
      rotate_left
      · intro w hSw
        (try dsimp only at hSw)
        go_simp
        try with_reducible rfl
      (try simp only [Act.put, List.setIfInBounds_toArray, List.set_cons_zero, List.set_cons_succ])
      refine wpAnyH_ready (rs := [17]) (by kernel_rfl) (by simp) ?_
      refine AllReadyH.cons (o := { dst := some 64, op := Go.Op.call { callee := Go.Callee.value (Go.Operand.func 55), args := #[Go.Operand.tmp 63], argTypes := #[81] }, type := 77, pos := "law.go:60", after := #[{ on := 16, ground := Go.Ground.data }, { on := 15, ground := Go.Ground.chain }, { on := 15, ground := Go.Ground.guard }], guard := some (15, false) }) rfl (fun K hK => ?_) AllReadyH.nil
      go_simp
      refine Calls.mono (HR.out _) ?_
      rintro e w9 ⟨rfl, hb⟩
      have hB9 : Below W.heap.size W w9 := Below.trans (by (repeat' (first | (with_reducible exact Below.refl _ _) | (with_reducible assumption) | (with_reducible refine Below.setCell ?_ ?_ _) | (with_reducible refine Below.alloc ?_ ?_ _) | (with_reducible refine below_drewN ?_ _) | (with_reducible refine Below.drew ?_) | go_size))) (hb.mono (by go_size))
      have hz9 : w5.heap.size + 1 ≤ w9.heap.size := (by have := hb.size; (try simp at this); omega)
      refine hK.out _ _ ?_ (fun hHeld => ?_)
      · (try dsimp only)
        exact keep555B (G := w5.heap.size + 1) (by omega) (by omega) (by omega) (by assumption) (fun p hp => hb.cell (Nat.lt_of_lt_of_le hp (by go_size)))
      clear hK K
      (try simp only [Act.put, List.setIfInBounds_toArray, List.set_cons_zero, List.set_cons_succ])
      refine wpAnyH_take (i := 19) (oi := { dst := some 66, op := Go.Op.binOp Go.BinOp.neq 77 (Go.Operand.tmp 64) (Go.Operand.tmp 65) 77, type := 4, pos := "law.go:60", after := #[{ on := 17, ground := Go.Ground.data }, { on := 18, ground := Go.Ground.data }, { on := 15, ground := Go.Ground.guard }], guard := some (15, false) }) (v := ?_) rfl (by kernel_rfl) (by kernel_rfl) (by kernel_rfl) (fun _ _ _ h => h) (Or.inl ⟨by rfl, ?_⟩) (by assumption) ?_
      rotate_left
      · intro w hSw
        (try dsimp only at hSw)
        go_simp
        try with_reducible rfl
      (try simp only [Act.put, List.setIfInBounds_toArray, List.set_cons_zero, List.set_cons_succ])
      refine wpAnyH_take (i := 20) (oi := { dst := some 67, op := Go.Op.pick (Go.Operand.tmp 62) (Go.Operand.const (Go.Value.bool true)) (Go.Operand.tmp 66), type := 4, pos := "law.go:60", after := #[{ on := 15, ground := Go.Ground.data }, { on := 19, ground := Go.Ground.data }, { on := 12, ground := Go.Ground.guard }], guard := some (12, true) }) (v := ?_) rfl (by kernel_rfl) (by kernel_rfl) (by kernel_rfl) (fun _ _ _ h => h) (Or.inl ⟨by rfl, ?_⟩) (by assumption) ?_
      rotate_left
      · intro w hSw
        (try dsimp only at hSw)
        go_simp
        try with_reducible rfl
      (try simp only [Act.put, List.setIfInBounds_toArray, List.set_cons_zero, List.set_cons_succ])
      refine wpAnyH_take (i := 21) (oi := { dst := some 68, op := Go.Op.pick (Go.Operand.tmp 59) (Go.Operand.tmp 67) (Go.Operand.const (Go.Value.bool false)), type := 4, pos := "law.go:60", after := #[{ on := 12, ground := Go.Ground.data }, { on := 20, ground := Go.Ground.data }], guard := none }) (v := ?_) rfl (by kernel_rfl) (by kernel_rfl) (by kernel_rfl) (fun _ _ _ h => h) (Or.inl ⟨by rfl, ?_⟩) (by assumption) ?_
      rotate_left
      · intro w hSw
        (try dsimp only at hSw)
        go_simp
        try with_reducible rfl
      (try simp only [Act.put, List.setIfInBounds_toArray, List.set_cons_zero, List.set_cons_succ])
      refine wpAnyH_take (i := 22) (oi := { dst := some 4, op := Go.Op.assign (Go.Operand.tmp 68), type := 4, pos := "law.go:60", after := #[{ on := 21, ground := Go.Ground.data }, { on := 17, ground := Go.Ground.chain }, { on := 0, ground := Go.Ground.phase }, { on := 1, ground := Go.Ground.phase }, { on := 2, ground := Go.Ground.phase }, { on := 3, ground := Go.Ground.phase }, { on := 4, ground := Go.Ground.phase }, { on := 5, ground := Go.Ground.phase }, { on := 6, ground := Go.Ground.phase }, { on := 7, ground := Go.Ground.phase }, { on := 8, ground := Go.Ground.phase }, { on := 9, ground := Go.Ground.phase }, { on := 10, ground := Go.Ground.phase }, { on := 11, ground := Go.Ground.phase }, { on := 12, ground := Go.Ground.phase }, { on := 13, ground := Go.Ground.phase }, { on := 14, ground := Go.Ground.phase }, { on := 15, ground := Go.Ground.phase }, { on := 16, ground := Go.Ground.phase }, { on := 17, ground := Go.Ground.phase }, { on := 18, ground := Go.Ground.phase }, { on := 19, ground := Go.Ground.phase }, { on := 20, ground := Go.Ground.phase }, { on := 21, ground := Go.Ground.phase }], guard := none }) (v := ?_) rfl (by kernel_rfl) (by kernel_rfl) (by kernel_rfl) (fun _ _ _ h => h) (Or.inl ⟨by rfl, ?_⟩) (by assumption) ?_
      rotate_left
      · intro w hSw
        (try dsimp only at hSw)
        go_simp
        try with_reducible rfl
      (try simp only [Act.put, List.setIfInBounds_toArray, List.set_cons_zero, List.set_cons_succ])
      refine wpAnyH_done (by kernel_rfl) ?_ _
      all_goals
        go_wp2
        go_ret
        exact ⟨by first | (simp; done) | (simp_all; done), by assumption⟩
    · go_enter Try.func14, Try.ntmps14
      go_wp2_with fail
      refine (HF.out _).mono ?_
      rintro e w1 ⟨rfl, hb⟩
      obtain ⟨hc, hf⟩ := bcell hb
      have z0 : w1.cell? ⟨W.heap.size, 0, none⟩ = some (.int .i64 a0) := by rw [hc _ _ (by simp)]; simp [go_sem]
      have z1 : w1.cell? ⟨W.heap.size, 1, none⟩ = some (.int .u64 (e0 : Int)) := by rw [hc _ _ (by simp)]; simp [go_sem]
      have z2 : w1.cell? ⟨W.heap.size, 2, none⟩ = some (.int .i64 p0) := by rw [hc _ _ (by simp)]; simp [go_sem]
      have z3 : w1.cell? ⟨W.heap.size, 3, none⟩ = some (.bool s0) := by rw [hc _ _ (by simp)]; simp [go_sem]
      have z4 : w1.cell? ⟨W.heap.size, 4, none⟩ = some (.int .u32 (k0 : Int)) := by rw [hc _ _ (by simp)]; simp [go_sem]
      have g0 : ∀ o, w1.frozen? ⟨W.heap.size, o, none⟩ = false := fun o => by rw [hf _ _ (by simp)]; simp [go_sem]
      have hB1 : Below W.heap.size W w1 := Below.trans (by (repeat' (first | (with_reducible exact Below.refl _ _) | (with_reducible assumption) | (with_reducible refine Below.setCell ?_ ?_ _) | (with_reducible refine Below.alloc ?_ ?_ _) | (with_reducible refine below_drewN ?_ _) | (with_reducible refine Below.drew ?_) | go_size))) (hb.mono (by go_size))
      have hz1 : W.heap.size + 1 ≤ w1.heap.size := by have := hb.size; simp at this; omega
      clear hc hf hb
      go_wp2_with fail
      refine (HT.out _).mono ?_
      rintro e w2 ⟨rfl, hb⟩
      obtain ⟨hc, hf⟩ := bcell hb
      have x0 : w2.cell? ⟨W.heap.size, 0, none⟩ = some (.int .i64 v) := by rw [hc _ _ (by first | (simp; done) | (simp; omega))]; simp [go_sem, z0]
      have x1 : w2.cell? ⟨W.heap.size, 1, none⟩ = some (.int .u64 mx) := by rw [hc _ _ (by first | (simp; done) | (simp; omega))]; simp [go_sem, z1]
      have x2 : w2.cell? ⟨W.heap.size, 2, none⟩ = some (.int .i64 px) := by rw [hc _ _ (by first | (simp; done) | (simp; omega))]; simp [go_sem, z2]
      have x3 : w2.cell? ⟨W.heap.size, 3, none⟩ = some (.bool s0) := by rw [hc _ _ (by first | (simp; done) | (simp; omega))]; simp [go_sem, z3]
      have x4 : w2.cell? ⟨W.heap.size, 4, none⟩ = some (.int .u32 kx) := by rw [hc _ _ (by first | (simp; done) | (simp; omega))]; simp [go_sem, z4]
      have hB2 : Below W.heap.size W w2 := Below.trans (by (repeat' (first | (with_reducible exact Below.refl _ _) | (with_reducible assumption) | (with_reducible refine Below.setCell ?_ ?_ _) | (with_reducible refine Below.alloc ?_ ?_ _) | (with_reducible refine below_drewN ?_ _) | (with_reducible refine Below.drew ?_) | go_size))) (hb.mono (by go_size))
      have hz2 : W.heap.size + 1 ≤ w2.heap.size := by have := hb.size; simp at this; omega
      clear hc hf hb hB1 z0 z1 z2 z3 z4 g0
      go_wp2_with fail
      refine (HW.out _).mono ?_
      rintro e w3 ⟨rfl, hb⟩
      obtain ⟨hc, hf⟩ := bcell hb
      have x0 := (hc W.heap.size 0 (by omega)).trans x0
      have x1 := (hc W.heap.size 1 (by omega)).trans x1
      have x2 := (hc W.heap.size 2 (by omega)).trans x2
      have x3 := (hc W.heap.size 3 (by omega)).trans x3
      have x4 := (hc W.heap.size 4 (by omega)).trans x4
      have hB3 := hB2.trans (hb.mono (by omega))
      have hz3 := Nat.le_trans hz2 hb.size
      clear hc hf hb hB2
      go_wp2_with fail
      refine (HO.out _).mono ?_
      rintro e w4 ⟨rfl, hb⟩
      obtain ⟨hc, hf⟩ := bcell hb
      have x0 := (hc W.heap.size 0 (by omega)).trans x0
      have x1 := (hc W.heap.size 1 (by omega)).trans x1
      have x2 := (hc W.heap.size 2 (by omega)).trans x2
      have x3 := (hc W.heap.size 3 (by omega)).trans x3
      have x4 := (hc W.heap.size 4 (by omega)).trans x4
      have hB4 := hB3.trans (hb.mono (by omega))
      have hz4 := Nat.le_trans hz3 hb.size
      clear hc hf hb hB3
      have x0 : ∀ o, (w4.alloc o).cell? ⟨W.heap.size, 0, none⟩ = some (.int .i64 v) := fun o => by rw [World.cell?_alloc_lt _ _ _ (by show W.heap.size < _; omega)]; exact x0
      have x1 : ∀ o, (w4.alloc o).cell? ⟨W.heap.size, 1, none⟩ = some (.int .u64 mx) := fun o => by rw [World.cell?_alloc_lt _ _ _ (by show W.heap.size < _; omega)]; exact x1
      have x2 : ∀ o, (w4.alloc o).cell? ⟨W.heap.size, 2, none⟩ = some (.int .i64 px) := fun o => by rw [World.cell?_alloc_lt _ _ _ (by show W.heap.size < _; omega)]; exact x2
      have x3 : ∀ o, (w4.alloc o).cell? ⟨W.heap.size, 3, none⟩ = some (.bool s0) := fun o => by rw [World.cell?_alloc_lt _ _ _ (by show W.heap.size < _; omega)]; exact x3
      have x4 : ∀ o, (w4.alloc o).cell? ⟨W.heap.size, 4, none⟩ = some (.int .u32 kx) := fun o => by rw [World.cell?_alloc_lt _ _ _ (by show W.heap.size < _; omega)]; exact x4
      go_wp2_with fail
      refine (HP.out _).mono ?_
      rintro e w5 ⟨rfl, hb⟩
      obtain ⟨hc, hf⟩ := bcell hb
      have x0 : w5.cell? ⟨W.heap.size, 0, none⟩ = some (.int .i64 v) := by rw [hc _ _ (by simp; omega)]; exact x0 _
      have x1 : w5.cell? ⟨W.heap.size, 1, none⟩ = some (.int .u64 mx) := by rw [hc _ _ (by simp; omega)]; exact x1 _
      have x2 : w5.cell? ⟨W.heap.size, 2, none⟩ = some (.int .i64 px) := by rw [hc _ _ (by simp; omega)]; exact x2 _
      have x3 : w5.cell? ⟨W.heap.size, 3, none⟩ = some (.bool s0) := by rw [hc _ _ (by simp; omega)]; exact x3 _
      have x4 : w5.cell? ⟨W.heap.size, 4, none⟩ = some (.int .u32 kx) := by rw [hc _ _ (by simp; omega)]; exact x4 _
      have q0 : w5.cell? ⟨w4.heap.size, 0, none⟩ = some (.int .i64 v) := by rw [hc _ _ (by simp)]; simp [go_sem]
      have q1 : w5.cell? ⟨w4.heap.size, 1, none⟩ = some (.int .u64 m) := by rw [hc _ _ (by simp)]; simp [go_sem]
      have q2 : w5.cell? ⟨w4.heap.size, 2, none⟩ = some (.int .i64 p) := by rw [hc _ _ (by simp)]; simp [go_sem]
      have q3 : w5.cell? ⟨w4.heap.size, 3, none⟩ = some (.bool st) := by rw [hc _ _ (by simp)]; simp [go_sem]
      have q4 : w5.cell? ⟨w4.heap.size, 4, none⟩ = some (.int .u32 s) := by rw [hc _ _ (by simp)]; simp [go_sem]
      have hB5 : Below W.heap.size W w5 := Below.trans (by (repeat' (first | (with_reducible exact Below.refl _ _) | (with_reducible assumption) | (with_reducible refine Below.setCell ?_ ?_ _) | (with_reducible refine Below.alloc ?_ ?_ _) | (with_reducible refine below_drewN ?_ _) | (with_reducible refine Below.drew ?_) | go_size))) (hb.mono (by go_size))
      have hz5 : w4.heap.size + 1 ≤ w5.heap.size := by have := hb.size; simp at this; omega
      clear hc hf hb hB4
      go_wp2_with fail
      obtain ⟨w6, hw6⟩ : ∃ w6, w6 = w5.alloc (.cells #[.int .i64 v, .int .u64 m, .int .i64 p, .bool st, .int .u32 s] 77) := ⟨_, rfl⟩
      rw [← hw6]
      have x0 : w6.cell? ⟨W.heap.size, 0, none⟩ = some (.int .i64 v) := by rw [hw6, World.cell?_alloc_lt _ _ _ (by show W.heap.size < _; omega)]; exact x0
      have x1 : w6.cell? ⟨W.heap.size, 1, none⟩ = some (.int .u64 mx) := by rw [hw6, World.cell?_alloc_lt _ _ _ (by show W.heap.size < _; omega)]; exact x1
      have x2 : w6.cell? ⟨W.heap.size, 2, none⟩ = some (.int .i64 px) := by rw [hw6, World.cell?_alloc_lt _ _ _ (by show W.heap.size < _; omega)]; exact x2
      have x3 : w6.cell? ⟨W.heap.size, 3, none⟩ = some (.bool s0) := by rw [hw6, World.cell?_alloc_lt _ _ _ (by show W.heap.size < _; omega)]; exact x3
      have x4 : w6.cell? ⟨W.heap.size, 4, none⟩ = some (.int .u32 kx) := by rw [hw6, World.cell?_alloc_lt _ _ _ (by show W.heap.size < _; omega)]; exact x4
      have q0 : w6.cell? ⟨w4.heap.size, 0, none⟩ = some (.int .i64 v) := by rw [hw6, World.cell?_alloc_lt _ _ _ (by show w4.heap.size < _; omega)]; exact q0
      have q1 : w6.cell? ⟨w4.heap.size, 1, none⟩ = some (.int .u64 m) := by rw [hw6, World.cell?_alloc_lt _ _ _ (by show w4.heap.size < _; omega)]; exact q1
      have q2 : w6.cell? ⟨w4.heap.size, 2, none⟩ = some (.int .i64 p) := by rw [hw6, World.cell?_alloc_lt _ _ _ (by show w4.heap.size < _; omega)]; exact q2
      have q3 : w6.cell? ⟨w4.heap.size, 3, none⟩ = some (.bool st) := by rw [hw6, World.cell?_alloc_lt _ _ _ (by show w4.heap.size < _; omega)]; exact q3
      have q4 : w6.cell? ⟨w4.heap.size, 4, none⟩ = some (.int .u32 s) := by rw [hw6, World.cell?_alloc_lt _ _ _ (by show w4.heap.size < _; omega)]; exact q4
      have r0 : w6.cell? ⟨w5.heap.size, 0, none⟩ = some (.int .i64 v) := by rw [hw6]; simp [go_sem]
      have r1 : w6.cell? ⟨w5.heap.size, 1, none⟩ = some (.int .u64 m) := by rw [hw6]; simp [go_sem]
      have r2 : w6.cell? ⟨w5.heap.size, 2, none⟩ = some (.int .i64 p) := by rw [hw6]; simp [go_sem]
      have r3 : w6.cell? ⟨w5.heap.size, 3, none⟩ = some (.bool st) := by rw [hw6]; simp [go_sem]
      have r4 : w6.cell? ⟨w5.heap.size, 4, none⟩ = some (.int .u32 s) := by rw [hw6]; simp [go_sem]
      have hB6 : Below W.heap.size W w6 := by rw [hw6]; exact hB5.alloc (by omega) _
      have hz6 : w5.heap.size + 1 ≤ w6.heap.size := by rw [hw6]; simp
      clear hw6 hB5
      refine wp_region_held_drew (S := fun w' => w'.cell? ⟨W.heap.size, 0, none⟩ = some (.int .i64 v) ∧ w'.cell? ⟨W.heap.size, 1, none⟩ = some (.int .u64 mx) ∧ w'.cell? ⟨W.heap.size, 2, none⟩ = some (.int .i64 px) ∧ w'.cell? ⟨W.heap.size, 3, none⟩ = some (.bool s0) ∧ w'.cell? ⟨W.heap.size, 4, none⟩ = some (.int .u32 kx) ∧ w'.cell? ⟨w4.heap.size, 0, none⟩ = some (.int .i64 v) ∧ w'.cell? ⟨w4.heap.size, 1, none⟩ = some (.int .u64 m) ∧ w'.cell? ⟨w4.heap.size, 2, none⟩ = some (.int .i64 p) ∧ w'.cell? ⟨w4.heap.size, 3, none⟩ = some (.bool st) ∧ w'.cell? ⟨w4.heap.size, 4, none⟩ = some (.int .u32 s) ∧ w'.cell? ⟨w5.heap.size, 0, none⟩ = some (.int .i64 v) ∧ w'.cell? ⟨w5.heap.size, 1, none⟩ = some (.int .u64 m) ∧ w'.cell? ⟨w5.heap.size, 2, none⟩ = some (.int .i64 p) ∧ w'.cell? ⟨w5.heap.size, 3, none⟩ = some (.bool st) ∧ w'.cell? ⟨w5.heap.size, 4, none⟩ = some (.int .u32 s)) (by kernel_rfl) ?_ (fun hHeld => ?_)
      · exact ⟨x0, x1, x2, x3, x4, q0, q1, q2, q3, q4, r0, r1, r2, r3, r4⟩
      refine wpAnyH_ready (rs := [0]) (by kernel_rfl) (by simp) ?_
      refine AllReadyH.cons (o := { dst := some 47, op := Go.Op.call { callee := Go.Callee.value (Go.Operand.func 50), args := #[], argTypes := #[] }, type := 4, pos := "law.go:60", after := #[], guard := none }) rfl (fun K hK => ?_) AllReadyH.nil
      go_simp
      refine Calls.mono (told09 _) ?_
      rintro e w7 ⟨rfl, hb⟩
      have hB7 : Below W.heap.size W w7 := Below.trans (by (repeat' (first | (with_reducible exact Below.refl _ _) | (with_reducible assumption) | (with_reducible refine Below.setCell ?_ ?_ _) | (with_reducible refine Below.alloc ?_ ?_ _) | (with_reducible refine below_drewN ?_ _) | (with_reducible refine Below.drew ?_) | go_size))) (hb.mono (by go_size))
      have hz7 : w5.heap.size + 1 ≤ w7.heap.size := (by have := hb.size; (try simp at this); omega)
      refine hK.out _ _ ?_ (fun hHeld => ?_)
      · (try dsimp only)
        exact keep555B (G := w5.heap.size + 1) (by omega) (by omega) (by omega) (by assumption) (fun p hp => hb.cell (Nat.lt_of_lt_of_le hp (by go_size)))
      clear hK K
      (try simp only [Act.put, List.setIfInBounds_toArray, List.set_cons_zero, List.set_cons_succ])
      refine wpAnyH_take (i := 1) (oi := { dst := some 48, op := Go.Op.move (Go.Operand.tmp 47), type := 4, pos := "law.go:60", after := #[{ on := 0, ground := Go.Ground.data }, { on := 0, ground := Go.Ground.chain }], guard := none }) (v := ?_) rfl (by kernel_rfl) (by kernel_rfl) (by kernel_rfl) (fun _ _ _ h => h) (Or.inl ⟨by rfl, ?_⟩) (by assumption) ?_
      rotate_left
      · intro w hSw
        (try dsimp only at hSw)
        go_simp
        try with_reducible rfl
      (try simp only [Act.put, List.setIfInBounds_toArray, List.set_cons_zero, List.set_cons_succ])
      refine wpAnyH_take (i := 2) (oi := { dst := some 49, op := Go.Op.move (Go.Operand.tmp 9), type := 4, pos := "law.go:60", after := #[{ on := 1, ground := Go.Ground.guard }], guard := some (1, true) }) (v := ?_) rfl (by kernel_rfl) (by kernel_rfl) (by kernel_rfl) (fun _ _ _ h => h) (Or.inl ⟨by rfl, ?_⟩) (by assumption) ?_
      rotate_left
      · intro w hSw
        (try dsimp only at hSw)
        go_simp
        try with_reducible rfl
      (try simp only [Act.put, List.setIfInBounds_toArray, List.set_cons_zero, List.set_cons_succ])
      refine wpAnyH_take (i := 3) (oi := { dst := some 50, op := Go.Op.move (Go.Operand.tmp 11), type := 4, pos := "law.go:60", after := #[{ on := 1, ground := Go.Ground.guard }], guard := some (1, true) }) (v := ?_) rfl (by kernel_rfl) (by kernel_rfl) (by kernel_rfl) (fun _ _ _ h => h) (Or.inl ⟨by rfl, ?_⟩) (by assumption) ?_
      rotate_left
      · intro w hSw
        (try dsimp only at hSw)
        go_simp
        try with_reducible rfl
      (try simp only [Act.put, List.setIfInBounds_toArray, List.set_cons_zero, List.set_cons_succ])
      refine wpAnyH_take (i := 4) (oi := { dst := some 51, op := Go.Op.binOp Go.BinOp.eql 4 (Go.Operand.tmp 49) (Go.Operand.tmp 50) 4, type := 4, pos := "law.go:60", after := #[{ on := 2, ground := Go.Ground.data }, { on := 3, ground := Go.Ground.data }, { on := 1, ground := Go.Ground.guard }], guard := some (1, true) }) (v := ?_) rfl (by kernel_rfl) (by kernel_rfl) (by kernel_rfl) (fun _ _ _ h => h) (Or.inl ⟨by rfl, ?_⟩) (by assumption) ?_
      rotate_left
      · intro w hSw
        (try dsimp only at hSw)
        go_simp
        try with_reducible rfl
      (try simp only [Act.put, List.setIfInBounds_toArray, List.set_cons_zero, List.set_cons_succ])
      refine wpAnyH_take (i := 5) (oi := { dst := some 52, op := Go.Op.pick (Go.Operand.tmp 48) (Go.Operand.tmp 51) (Go.Operand.const (Go.Value.bool false)), type := 4, pos := "law.go:60", after := #[{ on := 1, ground := Go.Ground.data }, { on := 4, ground := Go.Ground.data }], guard := none }) (v := ?_) rfl (by kernel_rfl) (by kernel_rfl) (by kernel_rfl) (fun _ _ _ h => h) (Or.inl ⟨by rfl, ?_⟩) (by assumption) ?_
      rotate_left
      · intro w hSw
        (try dsimp only at hSw)
        go_simp
        try with_reducible rfl
      (try simp only [Act.put, List.setIfInBounds_toArray, List.set_cons_zero, List.set_cons_succ])
      refine wpAnyH_take (i := 6) (oi := { dst := some 53, op := Go.Op.move (Go.Operand.tmp 52), type := 4, pos := "law.go:60", after := #[{ on := 5, ground := Go.Ground.data }, { on := 1, ground := Go.Ground.chain }], guard := none }) (v := ?_) rfl (by kernel_rfl) (by kernel_rfl) (by kernel_rfl) (fun _ _ _ h => h) (Or.inl ⟨by rfl, ?_⟩) (by assumption) ?_
      rotate_left
      · intro w hSw
        (try dsimp only at hSw)
        go_simp
        try with_reducible rfl
      (try simp only [Act.put, List.setIfInBounds_toArray, List.set_cons_zero, List.set_cons_succ])
      refine wpAnyH_take (i := 7) (oi := { dst := some 54, op := Go.Op.load 81 (Go.Operand.tmp 8), type := 81, pos := "law.go:60", after := #[{ on := 6, ground := Go.Ground.guard }], guard := some (6, true) }) (v := ?_) rfl (by kernel_rfl) (by kernel_rfl) (by kernel_rfl) (fun _ _ _ h => h) (Or.inl ⟨by rfl, ?_⟩) (by assumption) ?_
      rotate_left
      · intro w hSw
        (try dsimp only at hSw)
        go_simp
        try with_reducible rfl
      (try simp only [Act.put, List.setIfInBounds_toArray, List.set_cons_zero, List.set_cons_succ])
      refine wpAnyH_take (i := 9) (oi := { dst := some 56, op := Go.Op.load 77 (Go.Operand.tmp 10), type := 77, pos := "law.go:60", after := #[{ on := 6, ground := Go.Ground.guard }], guard := some (6, true) }) (v := ?_) rfl (by kernel_rfl) (by kernel_rfl) (by kernel_rfl) (fun _ _ _ h => h) (Or.inl ⟨by rfl, ?_⟩) (by assumption) ?_
      rotate_left
      · intro w hSw
        (try dsimp only at hSw)
        go_simp
        try with_reducible rfl
      (try simp only [Act.put, List.setIfInBounds_toArray, List.set_cons_zero, List.set_cons_succ])
      refine wpAnyH_ready (rs := [8]) (by kernel_rfl) (by simp) ?_
      refine AllReadyH.cons (o := { dst := some 55, op := Go.Op.call { callee := Go.Callee.value (Go.Operand.func 55), args := #[Go.Operand.tmp 54], argTypes := #[81] }, type := 77, pos := "law.go:60", after := #[{ on := 7, ground := Go.Ground.data }, { on := 6, ground := Go.Ground.chain }, { on := 6, ground := Go.Ground.guard }], guard := some (6, true) }) rfl (fun K hK => ?_) AllReadyH.nil
      go_simp
      refine Calls.mono (HR.out _) ?_
      rintro e w8 ⟨rfl, hb⟩
      have hB8 : Below W.heap.size W w8 := Below.trans (by (repeat' (first | (with_reducible exact Below.refl _ _) | (with_reducible assumption) | (with_reducible refine Below.setCell ?_ ?_ _) | (with_reducible refine Below.alloc ?_ ?_ _) | (with_reducible refine below_drewN ?_ _) | (with_reducible refine Below.drew ?_) | go_size))) (hb.mono (by go_size))
      have hz8 : w5.heap.size + 1 ≤ w8.heap.size := (by have := hb.size; (try simp at this); omega)
      refine hK.out _ _ ?_ (fun hHeld => ?_)
      · (try dsimp only)
        exact keep555B (G := w5.heap.size + 1) (by omega) (by omega) (by omega) (by assumption) (fun p hp => hb.cell (Nat.lt_of_lt_of_le hp (by go_size)))
      clear hK K
      (try simp only [Act.put, List.setIfInBounds_toArray, List.set_cons_zero, List.set_cons_succ])
      refine wpAnyH_take (i := 10) (oi := { dst := some 57, op := Go.Op.binOp Go.BinOp.eql 77 (Go.Operand.tmp 55) (Go.Operand.tmp 56) 77, type := 4, pos := "law.go:60", after := #[{ on := 8, ground := Go.Ground.data }, { on := 9, ground := Go.Ground.data }, { on := 6, ground := Go.Ground.guard }], guard := some (6, true) }) (v := ?_) rfl (by kernel_rfl) (by kernel_rfl) (by kernel_rfl) (fun _ _ _ h => h) (Or.inl ⟨by rfl, ?_⟩) (by assumption) ?_
      rotate_left
      · intro w hSw
        (try dsimp only at hSw)
        go_simp
        try with_reducible rfl
      (try simp only [Act.put, List.setIfInBounds_toArray, List.set_cons_zero, List.set_cons_succ])
      refine wpAnyH_take (i := 11) (oi := { dst := some 58, op := Go.Op.pick (Go.Operand.tmp 53) (Go.Operand.tmp 57) (Go.Operand.const (Go.Value.bool false)), type := 4, pos := "law.go:60", after := #[{ on := 6, ground := Go.Ground.data }, { on := 10, ground := Go.Ground.data }], guard := none }) (v := ?_) rfl (by kernel_rfl) (by kernel_rfl) (by kernel_rfl) (fun _ _ _ h => h) (Or.inl ⟨by rfl, ?_⟩) (by assumption) ?_
      rotate_left
      · intro w hSw
        (try dsimp only at hSw)
        go_simp
        try with_reducible rfl
      (try simp only [Act.put, List.setIfInBounds_toArray, List.set_cons_zero, List.set_cons_succ])
      refine wpAnyH_take (i := 12) (oi := { dst := some 59, op := Go.Op.move (Go.Operand.tmp 58), type := 4, pos := "law.go:60", after := #[{ on := 11, ground := Go.Ground.data }, { on := 8, ground := Go.Ground.chain }], guard := none }) (v := ?_) rfl (by kernel_rfl) (by kernel_rfl) (by kernel_rfl) (fun _ _ _ h => h) (Or.inl ⟨by rfl, ?_⟩) (by assumption) ?_
      rotate_left
      · intro w hSw
        (try dsimp only at hSw)
        go_simp
        try with_reducible rfl
      (try simp only [Act.put, List.setIfInBounds_toArray, List.set_cons_zero, List.set_cons_succ])
      refine wpAnyH_take (i := 13) (oi := { dst := some 60, op := Go.Op.move (Go.Operand.tmp 9), type := 4, pos := "law.go:60", after := #[{ on := 12, ground := Go.Ground.guard }], guard := some (12, true) }) (v := ?_) rfl (by kernel_rfl) (by kernel_rfl) (by kernel_rfl) (fun _ _ _ h => h) (Or.inl ⟨by rfl, ?_⟩) (by assumption) ?_
      rotate_left
      · intro w hSw
        (try dsimp only at hSw)
        go_simp
        try with_reducible rfl
      (try simp only [Act.put, List.setIfInBounds_toArray, List.set_cons_zero, List.set_cons_succ])
      refine wpAnyH_take (i := 14) (oi := { dst := some 61, op := Go.Op.unOp Go.UnOp.not 4 (Go.Operand.tmp 60), type := 4, pos := "law.go:60", after := #[{ on := 13, ground := Go.Ground.data }, { on := 12, ground := Go.Ground.guard }], guard := some (12, true) }) (v := ?_) rfl (by kernel_rfl) (by kernel_rfl) (by kernel_rfl) (fun _ _ _ h => h) (Or.inl ⟨by rfl, ?_⟩) (by assumption) ?_
      rotate_left
      · intro w hSw
        (try dsimp only at hSw)
        go_simp
        try with_reducible rfl
      (try simp only [Act.put, List.setIfInBounds_toArray, List.set_cons_zero, List.set_cons_succ])
      refine wpAnyH_take (i := 15) (oi := { dst := some 62, op := Go.Op.move (Go.Operand.tmp 61), type := 4, pos := "law.go:60", after := #[{ on := 14, ground := Go.Ground.data }, { on := 12, ground := Go.Ground.chain }, { on := 12, ground := Go.Ground.guard }], guard := some (12, true) }) (v := ?_) rfl (by kernel_rfl) (by kernel_rfl) (by kernel_rfl) (fun _ _ _ h => h) (Or.inl ⟨by rfl, ?_⟩) (by assumption) ?_
      rotate_left
      · intro w hSw
        (try dsimp only at hSw)
        go_simp
        try with_reducible rfl
      (try simp only [Act.put, List.setIfInBounds_toArray, List.set_cons_zero, List.set_cons_succ])
      refine wpAnyH_take (i := 16) (oi := { dst := some 63, op := Go.Op.load 81 (Go.Operand.tmp 8), type := 81, pos := "law.go:60", after := #[{ on := 15, ground := Go.Ground.guard }], guard := some (15, false) }) (v := ?_) rfl (by kernel_rfl) (by kernel_rfl) (by kernel_rfl) (fun _ _ _ h => h) (Or.inl ⟨by rfl, ?_⟩) (by assumption) ?_
      rotate_left
      · intro w hSw
        (try dsimp only at hSw)
        go_simp
        try with_reducible rfl
      (try simp only [Act.put, List.setIfInBounds_toArray, List.set_cons_zero, List.set_cons_succ])
      refine wpAnyH_take (i := 18) (oi := { dst := some 65, op := Go.Op.load 77 (Go.Operand.tmp 2), type := 77, pos := "law.go:60", after := #[{ on := 15, ground := Go.Ground.guard }], guard := some (15, false) }) (v := ?_) rfl (by kernel_rfl) (by kernel_rfl) (by kernel_rfl) (fun _ _ _ h => h) (Or.inl ⟨by rfl, ?_⟩) (by assumption) ?_
      rotate_left
      · intro w hSw
        (try dsimp only at hSw)
        go_simp
        try with_reducible rfl
      (try simp only [Act.put, List.setIfInBounds_toArray, List.set_cons_zero, List.set_cons_succ])
      refine wpAnyH_ready (rs := [17]) (by kernel_rfl) (by simp) ?_
      refine AllReadyH.cons (o := { dst := some 64, op := Go.Op.call { callee := Go.Callee.value (Go.Operand.func 55), args := #[Go.Operand.tmp 63], argTypes := #[81] }, type := 77, pos := "law.go:60", after := #[{ on := 16, ground := Go.Ground.data }, { on := 15, ground := Go.Ground.chain }, { on := 15, ground := Go.Ground.guard }], guard := some (15, false) }) rfl (fun K hK => ?_) AllReadyH.nil
      go_simp
      refine Calls.mono (HR.out _) ?_
      rintro e w9 ⟨rfl, hb⟩
      have hB9 : Below W.heap.size W w9 := Below.trans (by (repeat' (first | (with_reducible exact Below.refl _ _) | (with_reducible assumption) | (with_reducible refine Below.setCell ?_ ?_ _) | (with_reducible refine Below.alloc ?_ ?_ _) | (with_reducible refine below_drewN ?_ _) | (with_reducible refine Below.drew ?_) | go_size))) (hb.mono (by go_size))
      have hz9 : w5.heap.size + 1 ≤ w9.heap.size := (by have := hb.size; (try simp at this); omega)
      refine hK.out _ _ ?_ (fun hHeld => ?_)
      · (try dsimp only)
        exact keep555B (G := w5.heap.size + 1) (by omega) (by omega) (by omega) (by assumption) (fun p hp => hb.cell (Nat.lt_of_lt_of_le hp (by go_size)))
      clear hK K
      (try simp only [Act.put, List.setIfInBounds_toArray, List.set_cons_zero, List.set_cons_succ])
      refine wpAnyH_take (i := 19) (oi := { dst := some 66, op := Go.Op.binOp Go.BinOp.neq 77 (Go.Operand.tmp 64) (Go.Operand.tmp 65) 77, type := 4, pos := "law.go:60", after := #[{ on := 17, ground := Go.Ground.data }, { on := 18, ground := Go.Ground.data }, { on := 15, ground := Go.Ground.guard }], guard := some (15, false) }) (v := ?_) rfl (by kernel_rfl) (by kernel_rfl) (by kernel_rfl) (fun _ _ _ h => h) (Or.inl ⟨by rfl, ?_⟩) (by assumption) ?_
      rotate_left
      · intro w hSw
        (try dsimp only at hSw)
        go_simp
        try with_reducible rfl
      (try simp only [Act.put, List.setIfInBounds_toArray, List.set_cons_zero, List.set_cons_succ])
      refine wpAnyH_take (i := 20) (oi := { dst := some 67, op := Go.Op.pick (Go.Operand.tmp 62) (Go.Operand.const (Go.Value.bool true)) (Go.Operand.tmp 66), type := 4, pos := "law.go:60", after := #[{ on := 15, ground := Go.Ground.data }, { on := 19, ground := Go.Ground.data }, { on := 12, ground := Go.Ground.guard }], guard := some (12, true) }) (v := ?_) rfl (by kernel_rfl) (by kernel_rfl) (by kernel_rfl) (fun _ _ _ h => h) (Or.inl ⟨by rfl, ?_⟩) (by assumption) ?_
      rotate_left
      · intro w hSw
        (try dsimp only at hSw)
        go_simp
        try with_reducible rfl
      (try simp only [Act.put, List.setIfInBounds_toArray, List.set_cons_zero, List.set_cons_succ])
      refine wpAnyH_take (i := 21) (oi := { dst := some 68, op := Go.Op.pick (Go.Operand.tmp 59) (Go.Operand.tmp 67) (Go.Operand.const (Go.Value.bool false)), type := 4, pos := "law.go:60", after := #[{ on := 12, ground := Go.Ground.data }, { on := 20, ground := Go.Ground.data }], guard := none }) (v := ?_) rfl (by kernel_rfl) (by kernel_rfl) (by kernel_rfl) (fun _ _ _ h => h) (Or.inl ⟨by rfl, ?_⟩) (by assumption) ?_
      rotate_left
      · intro w hSw
        (try dsimp only at hSw)
        go_simp
        try with_reducible rfl
      (try simp only [Act.put, List.setIfInBounds_toArray, List.set_cons_zero, List.set_cons_succ])
      refine wpAnyH_take (i := 22) (oi := { dst := some 4, op := Go.Op.assign (Go.Operand.tmp 68), type := 4, pos := "law.go:60", after := #[{ on := 21, ground := Go.Ground.data }, { on := 17, ground := Go.Ground.chain }, { on := 0, ground := Go.Ground.phase }, { on := 1, ground := Go.Ground.phase }, { on := 2, ground := Go.Ground.phase }, { on := 3, ground := Go.Ground.phase }, { on := 4, ground := Go.Ground.phase }, { on := 5, ground := Go.Ground.phase }, { on := 6, ground := Go.Ground.phase }, { on := 7, ground := Go.Ground.phase }, { on := 8, ground := Go.Ground.phase }, { on := 9, ground := Go.Ground.phase }, { on := 10, ground := Go.Ground.phase }, { on := 11, ground := Go.Ground.phase }, { on := 12, ground := Go.Ground.phase }, { on := 13, ground := Go.Ground.phase }, { on := 14, ground := Go.Ground.phase }, { on := 15, ground := Go.Ground.phase }, { on := 16, ground := Go.Ground.phase }, { on := 17, ground := Go.Ground.phase }, { on := 18, ground := Go.Ground.phase }, { on := 19, ground := Go.Ground.phase }, { on := 20, ground := Go.Ground.phase }, { on := 21, ground := Go.Ground.phase }], guard := none }) (v := ?_) rfl (by kernel_rfl) (by kernel_rfl) (by kernel_rfl) (fun _ _ _ h => h) (Or.inl ⟨by rfl, ?_⟩) (by assumption) ?_
      rotate_left
      · intro w hSw
        (try dsimp only at hSw)
        go_simp
        try with_reducible rfl
      (try simp only [Act.put, List.setIfInBounds_toArray, List.set_cons_zero, List.set_cons_succ])
      refine wpAnyH_done (by kernel_rfl) ?_ _
      all_goals
        go_wp2
        go_ret
        exact ⟨by first | (simp; done) | (simp_all; done), by assumption⟩
    · go_enter Try.func14, Try.ntmps14
      go_wp2_with fail
      refine (HF.out _).mono ?_
      rintro e w1 ⟨rfl, hb⟩
      obtain ⟨hc, hf⟩ := bcell hb
      have z0 : w1.cell? ⟨W.heap.size, 0, none⟩ = some (.int .i64 a0) := by rw [hc _ _ (by simp)]; simp [go_sem]
      have z1 : w1.cell? ⟨W.heap.size, 1, none⟩ = some (.int .u64 (e0 : Int)) := by rw [hc _ _ (by simp)]; simp [go_sem]
      have z2 : w1.cell? ⟨W.heap.size, 2, none⟩ = some (.int .i64 p0) := by rw [hc _ _ (by simp)]; simp [go_sem]
      have z3 : w1.cell? ⟨W.heap.size, 3, none⟩ = some (.bool s0) := by rw [hc _ _ (by simp)]; simp [go_sem]
      have z4 : w1.cell? ⟨W.heap.size, 4, none⟩ = some (.int .u32 (k0 : Int)) := by rw [hc _ _ (by simp)]; simp [go_sem]
      have g0 : ∀ o, w1.frozen? ⟨W.heap.size, o, none⟩ = false := fun o => by rw [hf _ _ (by simp)]; simp [go_sem]
      have hB1 : Below W.heap.size W w1 := Below.trans (by (repeat' (first | (with_reducible exact Below.refl _ _) | (with_reducible assumption) | (with_reducible refine Below.setCell ?_ ?_ _) | (with_reducible refine Below.alloc ?_ ?_ _) | (with_reducible refine below_drewN ?_ _) | (with_reducible refine Below.drew ?_) | go_size))) (hb.mono (by go_size))
      have hz1 : W.heap.size + 1 ≤ w1.heap.size := by have := hb.size; simp at this; omega
      clear hc hf hb
      go_wp2_with fail
      refine (HT.out _).mono ?_
      rintro e w2 ⟨rfl, hb⟩
      obtain ⟨hc, hf⟩ := bcell hb
      have x0 : w2.cell? ⟨W.heap.size, 0, none⟩ = some (.int .i64 v) := by rw [hc _ _ (by first | (simp; done) | (simp; omega))]; simp [go_sem, z0]
      have x1 : w2.cell? ⟨W.heap.size, 1, none⟩ = some (.int .u64 m) := by rw [hc _ _ (by first | (simp; done) | (simp; omega))]; simp [go_sem, z1]
      have x2 : w2.cell? ⟨W.heap.size, 2, none⟩ = some (.int .i64 px) := by rw [hc _ _ (by first | (simp; done) | (simp; omega))]; simp [go_sem, z2]
      have x3 : w2.cell? ⟨W.heap.size, 3, none⟩ = some (.bool s0) := by rw [hc _ _ (by first | (simp; done) | (simp; omega))]; simp [go_sem, z3]
      have x4 : w2.cell? ⟨W.heap.size, 4, none⟩ = some (.int .u32 kx) := by rw [hc _ _ (by first | (simp; done) | (simp; omega))]; simp [go_sem, z4]
      have hB2 : Below W.heap.size W w2 := Below.trans (by (repeat' (first | (with_reducible exact Below.refl _ _) | (with_reducible assumption) | (with_reducible refine Below.setCell ?_ ?_ _) | (with_reducible refine Below.alloc ?_ ?_ _) | (with_reducible refine below_drewN ?_ _) | (with_reducible refine Below.drew ?_) | go_size))) (hb.mono (by go_size))
      have hz2 : W.heap.size + 1 ≤ w2.heap.size := by have := hb.size; simp at this; omega
      clear hc hf hb hB1 z0 z1 z2 z3 z4 g0
      go_wp2_with fail
      refine (HW.out _).mono ?_
      rintro e w3 ⟨rfl, hb⟩
      obtain ⟨hc, hf⟩ := bcell hb
      have x0 := (hc W.heap.size 0 (by omega)).trans x0
      have x1 := (hc W.heap.size 1 (by omega)).trans x1
      have x2 := (hc W.heap.size 2 (by omega)).trans x2
      have x3 := (hc W.heap.size 3 (by omega)).trans x3
      have x4 := (hc W.heap.size 4 (by omega)).trans x4
      have hB3 := hB2.trans (hb.mono (by omega))
      have hz3 := Nat.le_trans hz2 hb.size
      clear hc hf hb hB2
      go_wp2_with fail
      refine (HO.out _).mono ?_
      rintro e w4 ⟨rfl, hb⟩
      obtain ⟨hc, hf⟩ := bcell hb
      have x0 := (hc W.heap.size 0 (by omega)).trans x0
      have x1 := (hc W.heap.size 1 (by omega)).trans x1
      have x2 := (hc W.heap.size 2 (by omega)).trans x2
      have x3 := (hc W.heap.size 3 (by omega)).trans x3
      have x4 := (hc W.heap.size 4 (by omega)).trans x4
      have hB4 := hB3.trans (hb.mono (by omega))
      have hz4 := Nat.le_trans hz3 hb.size
      clear hc hf hb hB3
      have x0 : ∀ o, (w4.alloc o).cell? ⟨W.heap.size, 0, none⟩ = some (.int .i64 v) := fun o => by rw [World.cell?_alloc_lt _ _ _ (by show W.heap.size < _; omega)]; exact x0
      have x1 : ∀ o, (w4.alloc o).cell? ⟨W.heap.size, 1, none⟩ = some (.int .u64 m) := fun o => by rw [World.cell?_alloc_lt _ _ _ (by show W.heap.size < _; omega)]; exact x1
      have x2 : ∀ o, (w4.alloc o).cell? ⟨W.heap.size, 2, none⟩ = some (.int .i64 px) := fun o => by rw [World.cell?_alloc_lt _ _ _ (by show W.heap.size < _; omega)]; exact x2
      have x3 : ∀ o, (w4.alloc o).cell? ⟨W.heap.size, 3, none⟩ = some (.bool s0) := fun o => by rw [World.cell?_alloc_lt _ _ _ (by show W.heap.size < _; omega)]; exact x3
      have x4 : ∀ o, (w4.alloc o).cell? ⟨W.heap.size, 4, none⟩ = some (.int .u32 kx) := fun o => by rw [World.cell?_alloc_lt _ _ _ (by show W.heap.size < _; omega)]; exact x4
      go_wp2_with fail
      refine (HP.out _).mono ?_
      rintro e w5 ⟨rfl, hb⟩
      obtain ⟨hc, hf⟩ := bcell hb
      have x0 : w5.cell? ⟨W.heap.size, 0, none⟩ = some (.int .i64 v) := by rw [hc _ _ (by simp; omega)]; exact x0 _
      have x1 : w5.cell? ⟨W.heap.size, 1, none⟩ = some (.int .u64 m) := by rw [hc _ _ (by simp; omega)]; exact x1 _
      have x2 : w5.cell? ⟨W.heap.size, 2, none⟩ = some (.int .i64 px) := by rw [hc _ _ (by simp; omega)]; exact x2 _
      have x3 : w5.cell? ⟨W.heap.size, 3, none⟩ = some (.bool s0) := by rw [hc _ _ (by simp; omega)]; exact x3 _
      have x4 : w5.cell? ⟨W.heap.size, 4, none⟩ = some (.int .u32 kx) := by rw [hc _ _ (by simp; omega)]; exact x4 _
      have q0 : w5.cell? ⟨w4.heap.size, 0, none⟩ = some (.int .i64 v) := by rw [hc _ _ (by simp)]; simp [go_sem]
      have q1 : w5.cell? ⟨w4.heap.size, 1, none⟩ = some (.int .u64 m) := by rw [hc _ _ (by simp)]; simp [go_sem]
      have q2 : w5.cell? ⟨w4.heap.size, 2, none⟩ = some (.int .i64 p) := by rw [hc _ _ (by simp)]; simp [go_sem]
      have q3 : w5.cell? ⟨w4.heap.size, 3, none⟩ = some (.bool st) := by rw [hc _ _ (by simp)]; simp [go_sem]
      have q4 : w5.cell? ⟨w4.heap.size, 4, none⟩ = some (.int .u32 s) := by rw [hc _ _ (by simp)]; simp [go_sem]
      have hB5 : Below W.heap.size W w5 := Below.trans (by (repeat' (first | (with_reducible exact Below.refl _ _) | (with_reducible assumption) | (with_reducible refine Below.setCell ?_ ?_ _) | (with_reducible refine Below.alloc ?_ ?_ _) | (with_reducible refine below_drewN ?_ _) | (with_reducible refine Below.drew ?_) | go_size))) (hb.mono (by go_size))
      have hz5 : w4.heap.size + 1 ≤ w5.heap.size := by have := hb.size; simp at this; omega
      clear hc hf hb hB4
      go_wp2_with fail
      obtain ⟨w6, hw6⟩ : ∃ w6, w6 = w5.alloc (.cells #[.int .i64 v, .int .u64 m, .int .i64 p, .bool st, .int .u32 s] 77) := ⟨_, rfl⟩
      rw [← hw6]
      have x0 : w6.cell? ⟨W.heap.size, 0, none⟩ = some (.int .i64 v) := by rw [hw6, World.cell?_alloc_lt _ _ _ (by show W.heap.size < _; omega)]; exact x0
      have x1 : w6.cell? ⟨W.heap.size, 1, none⟩ = some (.int .u64 m) := by rw [hw6, World.cell?_alloc_lt _ _ _ (by show W.heap.size < _; omega)]; exact x1
      have x2 : w6.cell? ⟨W.heap.size, 2, none⟩ = some (.int .i64 px) := by rw [hw6, World.cell?_alloc_lt _ _ _ (by show W.heap.size < _; omega)]; exact x2
      have x3 : w6.cell? ⟨W.heap.size, 3, none⟩ = some (.bool s0) := by rw [hw6, World.cell?_alloc_lt _ _ _ (by show W.heap.size < _; omega)]; exact x3
      have x4 : w6.cell? ⟨W.heap.size, 4, none⟩ = some (.int .u32 kx) := by rw [hw6, World.cell?_alloc_lt _ _ _ (by show W.heap.size < _; omega)]; exact x4
      have q0 : w6.cell? ⟨w4.heap.size, 0, none⟩ = some (.int .i64 v) := by rw [hw6, World.cell?_alloc_lt _ _ _ (by show w4.heap.size < _; omega)]; exact q0
      have q1 : w6.cell? ⟨w4.heap.size, 1, none⟩ = some (.int .u64 m) := by rw [hw6, World.cell?_alloc_lt _ _ _ (by show w4.heap.size < _; omega)]; exact q1
      have q2 : w6.cell? ⟨w4.heap.size, 2, none⟩ = some (.int .i64 p) := by rw [hw6, World.cell?_alloc_lt _ _ _ (by show w4.heap.size < _; omega)]; exact q2
      have q3 : w6.cell? ⟨w4.heap.size, 3, none⟩ = some (.bool st) := by rw [hw6, World.cell?_alloc_lt _ _ _ (by show w4.heap.size < _; omega)]; exact q3
      have q4 : w6.cell? ⟨w4.heap.size, 4, none⟩ = some (.int .u32 s) := by rw [hw6, World.cell?_alloc_lt _ _ _ (by show w4.heap.size < _; omega)]; exact q4
      have r0 : w6.cell? ⟨w5.heap.size, 0, none⟩ = some (.int .i64 v) := by rw [hw6]; simp [go_sem]
      have r1 : w6.cell? ⟨w5.heap.size, 1, none⟩ = some (.int .u64 m) := by rw [hw6]; simp [go_sem]
      have r2 : w6.cell? ⟨w5.heap.size, 2, none⟩ = some (.int .i64 p) := by rw [hw6]; simp [go_sem]
      have r3 : w6.cell? ⟨w5.heap.size, 3, none⟩ = some (.bool st) := by rw [hw6]; simp [go_sem]
      have r4 : w6.cell? ⟨w5.heap.size, 4, none⟩ = some (.int .u32 s) := by rw [hw6]; simp [go_sem]
      have hB6 : Below W.heap.size W w6 := by rw [hw6]; exact hB5.alloc (by omega) _
      have hz6 : w5.heap.size + 1 ≤ w6.heap.size := by rw [hw6]; simp
      clear hw6 hB5
      refine wp_region_held_drew (S := fun w' => w'.cell? ⟨W.heap.size, 0, none⟩ = some (.int .i64 v) ∧ w'.cell? ⟨W.heap.size, 1, none⟩ = some (.int .u64 m) ∧ w'.cell? ⟨W.heap.size, 2, none⟩ = some (.int .i64 px) ∧ w'.cell? ⟨W.heap.size, 3, none⟩ = some (.bool s0) ∧ w'.cell? ⟨W.heap.size, 4, none⟩ = some (.int .u32 kx) ∧ w'.cell? ⟨w4.heap.size, 0, none⟩ = some (.int .i64 v) ∧ w'.cell? ⟨w4.heap.size, 1, none⟩ = some (.int .u64 m) ∧ w'.cell? ⟨w4.heap.size, 2, none⟩ = some (.int .i64 p) ∧ w'.cell? ⟨w4.heap.size, 3, none⟩ = some (.bool st) ∧ w'.cell? ⟨w4.heap.size, 4, none⟩ = some (.int .u32 s) ∧ w'.cell? ⟨w5.heap.size, 0, none⟩ = some (.int .i64 v) ∧ w'.cell? ⟨w5.heap.size, 1, none⟩ = some (.int .u64 m) ∧ w'.cell? ⟨w5.heap.size, 2, none⟩ = some (.int .i64 p) ∧ w'.cell? ⟨w5.heap.size, 3, none⟩ = some (.bool st) ∧ w'.cell? ⟨w5.heap.size, 4, none⟩ = some (.int .u32 s)) (by kernel_rfl) ?_ (fun hHeld => ?_)
      · exact ⟨x0, x1, x2, x3, x4, q0, q1, q2, q3, q4, r0, r1, r2, r3, r4⟩
      refine wpAnyH_ready (rs := [0]) (by kernel_rfl) (by simp) ?_
      refine AllReadyH.cons (o := { dst := some 47, op := Go.Op.call { callee := Go.Callee.value (Go.Operand.func 50), args := #[], argTypes := #[] }, type := 4, pos := "law.go:60", after := #[], guard := none }) rfl (fun K hK => ?_) AllReadyH.nil
      go_simp
      refine Calls.mono (told09 _) ?_
      rintro e w7 ⟨rfl, hb⟩
      have hB7 : Below W.heap.size W w7 := Below.trans (by (repeat' (first | (with_reducible exact Below.refl _ _) | (with_reducible assumption) | (with_reducible refine Below.setCell ?_ ?_ _) | (with_reducible refine Below.alloc ?_ ?_ _) | (with_reducible refine below_drewN ?_ _) | (with_reducible refine Below.drew ?_) | go_size))) (hb.mono (by go_size))
      have hz7 : w5.heap.size + 1 ≤ w7.heap.size := (by have := hb.size; (try simp at this); omega)
      refine hK.out _ _ ?_ (fun hHeld => ?_)
      · (try dsimp only)
        exact keep555B (G := w5.heap.size + 1) (by omega) (by omega) (by omega) (by assumption) (fun p hp => hb.cell (Nat.lt_of_lt_of_le hp (by go_size)))
      clear hK K
      (try simp only [Act.put, List.setIfInBounds_toArray, List.set_cons_zero, List.set_cons_succ])
      refine wpAnyH_take (i := 1) (oi := { dst := some 48, op := Go.Op.move (Go.Operand.tmp 47), type := 4, pos := "law.go:60", after := #[{ on := 0, ground := Go.Ground.data }, { on := 0, ground := Go.Ground.chain }], guard := none }) (v := ?_) rfl (by kernel_rfl) (by kernel_rfl) (by kernel_rfl) (fun _ _ _ h => h) (Or.inl ⟨by rfl, ?_⟩) (by assumption) ?_
      rotate_left
      · intro w hSw
        (try dsimp only at hSw)
        go_simp
        try with_reducible rfl
      (try simp only [Act.put, List.setIfInBounds_toArray, List.set_cons_zero, List.set_cons_succ])
      refine wpAnyH_take (i := 2) (oi := { dst := some 49, op := Go.Op.move (Go.Operand.tmp 9), type := 4, pos := "law.go:60", after := #[{ on := 1, ground := Go.Ground.guard }], guard := some (1, true) }) (v := ?_) rfl (by kernel_rfl) (by kernel_rfl) (by kernel_rfl) (fun _ _ _ h => h) (Or.inl ⟨by rfl, ?_⟩) (by assumption) ?_
      rotate_left
      · intro w hSw
        (try dsimp only at hSw)
        go_simp
        try with_reducible rfl
      (try simp only [Act.put, List.setIfInBounds_toArray, List.set_cons_zero, List.set_cons_succ])
      refine wpAnyH_take (i := 3) (oi := { dst := some 50, op := Go.Op.move (Go.Operand.tmp 11), type := 4, pos := "law.go:60", after := #[{ on := 1, ground := Go.Ground.guard }], guard := some (1, true) }) (v := ?_) rfl (by kernel_rfl) (by kernel_rfl) (by kernel_rfl) (fun _ _ _ h => h) (Or.inl ⟨by rfl, ?_⟩) (by assumption) ?_
      rotate_left
      · intro w hSw
        (try dsimp only at hSw)
        go_simp
        try with_reducible rfl
      (try simp only [Act.put, List.setIfInBounds_toArray, List.set_cons_zero, List.set_cons_succ])
      refine wpAnyH_take (i := 4) (oi := { dst := some 51, op := Go.Op.binOp Go.BinOp.eql 4 (Go.Operand.tmp 49) (Go.Operand.tmp 50) 4, type := 4, pos := "law.go:60", after := #[{ on := 2, ground := Go.Ground.data }, { on := 3, ground := Go.Ground.data }, { on := 1, ground := Go.Ground.guard }], guard := some (1, true) }) (v := ?_) rfl (by kernel_rfl) (by kernel_rfl) (by kernel_rfl) (fun _ _ _ h => h) (Or.inl ⟨by rfl, ?_⟩) (by assumption) ?_
      rotate_left
      · intro w hSw
        (try dsimp only at hSw)
        go_simp
        try with_reducible rfl
      (try simp only [Act.put, List.setIfInBounds_toArray, List.set_cons_zero, List.set_cons_succ])
      refine wpAnyH_take (i := 5) (oi := { dst := some 52, op := Go.Op.pick (Go.Operand.tmp 48) (Go.Operand.tmp 51) (Go.Operand.const (Go.Value.bool false)), type := 4, pos := "law.go:60", after := #[{ on := 1, ground := Go.Ground.data }, { on := 4, ground := Go.Ground.data }], guard := none }) (v := ?_) rfl (by kernel_rfl) (by kernel_rfl) (by kernel_rfl) (fun _ _ _ h => h) (Or.inl ⟨by rfl, ?_⟩) (by assumption) ?_
      rotate_left
      · intro w hSw
        (try dsimp only at hSw)
        go_simp
        try with_reducible rfl
      (try simp only [Act.put, List.setIfInBounds_toArray, List.set_cons_zero, List.set_cons_succ])
      refine wpAnyH_take (i := 6) (oi := { dst := some 53, op := Go.Op.move (Go.Operand.tmp 52), type := 4, pos := "law.go:60", after := #[{ on := 5, ground := Go.Ground.data }, { on := 1, ground := Go.Ground.chain }], guard := none }) (v := ?_) rfl (by kernel_rfl) (by kernel_rfl) (by kernel_rfl) (fun _ _ _ h => h) (Or.inl ⟨by rfl, ?_⟩) (by assumption) ?_
      rotate_left
      · intro w hSw
        (try dsimp only at hSw)
        go_simp
        try with_reducible rfl
      (try simp only [Act.put, List.setIfInBounds_toArray, List.set_cons_zero, List.set_cons_succ])
      refine wpAnyH_take (i := 7) (oi := { dst := some 54, op := Go.Op.load 81 (Go.Operand.tmp 8), type := 81, pos := "law.go:60", after := #[{ on := 6, ground := Go.Ground.guard }], guard := some (6, true) }) (v := ?_) rfl (by kernel_rfl) (by kernel_rfl) (by kernel_rfl) (fun _ _ _ h => h) (Or.inl ⟨by rfl, ?_⟩) (by assumption) ?_
      rotate_left
      · intro w hSw
        (try dsimp only at hSw)
        go_simp
        try with_reducible rfl
      (try simp only [Act.put, List.setIfInBounds_toArray, List.set_cons_zero, List.set_cons_succ])
      refine wpAnyH_take (i := 9) (oi := { dst := some 56, op := Go.Op.load 77 (Go.Operand.tmp 10), type := 77, pos := "law.go:60", after := #[{ on := 6, ground := Go.Ground.guard }], guard := some (6, true) }) (v := ?_) rfl (by kernel_rfl) (by kernel_rfl) (by kernel_rfl) (fun _ _ _ h => h) (Or.inl ⟨by rfl, ?_⟩) (by assumption) ?_
      rotate_left
      · intro w hSw
        (try dsimp only at hSw)
        go_simp
        try with_reducible rfl
      (try simp only [Act.put, List.setIfInBounds_toArray, List.set_cons_zero, List.set_cons_succ])
      refine wpAnyH_ready (rs := [8]) (by kernel_rfl) (by simp) ?_
      refine AllReadyH.cons (o := { dst := some 55, op := Go.Op.call { callee := Go.Callee.value (Go.Operand.func 55), args := #[Go.Operand.tmp 54], argTypes := #[81] }, type := 77, pos := "law.go:60", after := #[{ on := 7, ground := Go.Ground.data }, { on := 6, ground := Go.Ground.chain }, { on := 6, ground := Go.Ground.guard }], guard := some (6, true) }) rfl (fun K hK => ?_) AllReadyH.nil
      go_simp
      refine Calls.mono (HR.out _) ?_
      rintro e w8 ⟨rfl, hb⟩
      have hB8 : Below W.heap.size W w8 := Below.trans (by (repeat' (first | (with_reducible exact Below.refl _ _) | (with_reducible assumption) | (with_reducible refine Below.setCell ?_ ?_ _) | (with_reducible refine Below.alloc ?_ ?_ _) | (with_reducible refine below_drewN ?_ _) | (with_reducible refine Below.drew ?_) | go_size))) (hb.mono (by go_size))
      have hz8 : w5.heap.size + 1 ≤ w8.heap.size := (by have := hb.size; (try simp at this); omega)
      refine hK.out _ _ ?_ (fun hHeld => ?_)
      · (try dsimp only)
        exact keep555B (G := w5.heap.size + 1) (by omega) (by omega) (by omega) (by assumption) (fun p hp => hb.cell (Nat.lt_of_lt_of_le hp (by go_size)))
      clear hK K
      (try simp only [Act.put, List.setIfInBounds_toArray, List.set_cons_zero, List.set_cons_succ])
      refine wpAnyH_take (i := 10) (oi := { dst := some 57, op := Go.Op.binOp Go.BinOp.eql 77 (Go.Operand.tmp 55) (Go.Operand.tmp 56) 77, type := 4, pos := "law.go:60", after := #[{ on := 8, ground := Go.Ground.data }, { on := 9, ground := Go.Ground.data }, { on := 6, ground := Go.Ground.guard }], guard := some (6, true) }) (v := ?_) rfl (by kernel_rfl) (by kernel_rfl) (by kernel_rfl) (fun _ _ _ h => h) (Or.inl ⟨by rfl, ?_⟩) (by assumption) ?_
      rotate_left
      · intro w hSw
        (try dsimp only at hSw)
        go_simp
        try with_reducible rfl
      (try simp only [Act.put, List.setIfInBounds_toArray, List.set_cons_zero, List.set_cons_succ])
      refine wpAnyH_take (i := 11) (oi := { dst := some 58, op := Go.Op.pick (Go.Operand.tmp 53) (Go.Operand.tmp 57) (Go.Operand.const (Go.Value.bool false)), type := 4, pos := "law.go:60", after := #[{ on := 6, ground := Go.Ground.data }, { on := 10, ground := Go.Ground.data }], guard := none }) (v := ?_) rfl (by kernel_rfl) (by kernel_rfl) (by kernel_rfl) (fun _ _ _ h => h) (Or.inl ⟨by rfl, ?_⟩) (by assumption) ?_
      rotate_left
      · intro w hSw
        (try dsimp only at hSw)
        go_simp
        try with_reducible rfl
      (try simp only [Act.put, List.setIfInBounds_toArray, List.set_cons_zero, List.set_cons_succ])
      refine wpAnyH_take (i := 12) (oi := { dst := some 59, op := Go.Op.move (Go.Operand.tmp 58), type := 4, pos := "law.go:60", after := #[{ on := 11, ground := Go.Ground.data }, { on := 8, ground := Go.Ground.chain }], guard := none }) (v := ?_) rfl (by kernel_rfl) (by kernel_rfl) (by kernel_rfl) (fun _ _ _ h => h) (Or.inl ⟨by rfl, ?_⟩) (by assumption) ?_
      rotate_left
      · intro w hSw
        (try dsimp only at hSw)
        go_simp
        try with_reducible rfl
      (try simp only [Act.put, List.setIfInBounds_toArray, List.set_cons_zero, List.set_cons_succ])
      refine wpAnyH_take (i := 13) (oi := { dst := some 60, op := Go.Op.move (Go.Operand.tmp 9), type := 4, pos := "law.go:60", after := #[{ on := 12, ground := Go.Ground.guard }], guard := some (12, true) }) (v := ?_) rfl (by kernel_rfl) (by kernel_rfl) (by kernel_rfl) (fun _ _ _ h => h) (Or.inl ⟨by rfl, ?_⟩) (by assumption) ?_
      rotate_left
      · intro w hSw
        (try dsimp only at hSw)
        go_simp
        try with_reducible rfl
      (try simp only [Act.put, List.setIfInBounds_toArray, List.set_cons_zero, List.set_cons_succ])
      refine wpAnyH_take (i := 14) (oi := { dst := some 61, op := Go.Op.unOp Go.UnOp.not 4 (Go.Operand.tmp 60), type := 4, pos := "law.go:60", after := #[{ on := 13, ground := Go.Ground.data }, { on := 12, ground := Go.Ground.guard }], guard := some (12, true) }) (v := ?_) rfl (by kernel_rfl) (by kernel_rfl) (by kernel_rfl) (fun _ _ _ h => h) (Or.inl ⟨by rfl, ?_⟩) (by assumption) ?_
      rotate_left
      · intro w hSw
        (try dsimp only at hSw)
        go_simp
        try with_reducible rfl
      (try simp only [Act.put, List.setIfInBounds_toArray, List.set_cons_zero, List.set_cons_succ])
      refine wpAnyH_take (i := 15) (oi := { dst := some 62, op := Go.Op.move (Go.Operand.tmp 61), type := 4, pos := "law.go:60", after := #[{ on := 14, ground := Go.Ground.data }, { on := 12, ground := Go.Ground.chain }, { on := 12, ground := Go.Ground.guard }], guard := some (12, true) }) (v := ?_) rfl (by kernel_rfl) (by kernel_rfl) (by kernel_rfl) (fun _ _ _ h => h) (Or.inl ⟨by rfl, ?_⟩) (by assumption) ?_
      rotate_left
      · intro w hSw
        (try dsimp only at hSw)
        go_simp
        try with_reducible rfl
      (try simp only [Act.put, List.setIfInBounds_toArray, List.set_cons_zero, List.set_cons_succ])
      refine wpAnyH_take (i := 16) (oi := { dst := some 63, op := Go.Op.load 81 (Go.Operand.tmp 8), type := 81, pos := "law.go:60", after := #[{ on := 15, ground := Go.Ground.guard }], guard := some (15, false) }) (v := ?_) rfl (by kernel_rfl) (by kernel_rfl) (by kernel_rfl) (fun _ _ _ h => h) (Or.inl ⟨by rfl, ?_⟩) (by assumption) ?_
      rotate_left
      · intro w hSw
        (try dsimp only at hSw)
        go_simp
        try with_reducible rfl
      (try simp only [Act.put, List.setIfInBounds_toArray, List.set_cons_zero, List.set_cons_succ])
      refine wpAnyH_take (i := 18) (oi := { dst := some 65, op := Go.Op.load 77 (Go.Operand.tmp 2), type := 77, pos := "law.go:60", after := #[{ on := 15, ground := Go.Ground.guard }], guard := some (15, false) }) (v := ?_) rfl (by kernel_rfl) (by kernel_rfl) (by kernel_rfl) (fun _ _ _ h => h) (Or.inl ⟨by rfl, ?_⟩) (by assumption) ?_
      rotate_left
      · intro w hSw
        (try dsimp only at hSw)
        go_simp
        try with_reducible rfl
      (try simp only [Act.put, List.setIfInBounds_toArray, List.set_cons_zero, List.set_cons_succ])
      refine wpAnyH_ready (rs := [17]) (by kernel_rfl) (by simp) ?_
      refine AllReadyH.cons (o := { dst := some 64, op := Go.Op.call { callee := Go.Callee.value (Go.Operand.func 55), args := #[Go.Operand.tmp 63], argTypes := #[81] }, type := 77, pos := "law.go:60", after := #[{ on := 16, ground := Go.Ground.data }, { on := 15, ground := Go.Ground.chain }, { on := 15, ground := Go.Ground.guard }], guard := some (15, false) }) rfl (fun K hK => ?_) AllReadyH.nil
      go_simp
      refine Calls.mono (HR.out _) ?_
      rintro e w9 ⟨rfl, hb⟩
      have hB9 : Below W.heap.size W w9 := Below.trans (by (repeat' (first | (with_reducible exact Below.refl _ _) | (with_reducible assumption) | (with_reducible refine Below.setCell ?_ ?_ _) | (with_reducible refine Below.alloc ?_ ?_ _) | (with_reducible refine below_drewN ?_ _) | (with_reducible refine Below.drew ?_) | go_size))) (hb.mono (by go_size))
      have hz9 : w5.heap.size + 1 ≤ w9.heap.size := (by have := hb.size; (try simp at this); omega)
      refine hK.out _ _ ?_ (fun hHeld => ?_)
      · (try dsimp only)
        exact keep555B (G := w5.heap.size + 1) (by omega) (by omega) (by omega) (by assumption) (fun p hp => hb.cell (Nat.lt_of_lt_of_le hp (by go_size)))
      clear hK K
      (try simp only [Act.put, List.setIfInBounds_toArray, List.set_cons_zero, List.set_cons_succ])
      refine wpAnyH_take (i := 19) (oi := { dst := some 66, op := Go.Op.binOp Go.BinOp.neq 77 (Go.Operand.tmp 64) (Go.Operand.tmp 65) 77, type := 4, pos := "law.go:60", after := #[{ on := 17, ground := Go.Ground.data }, { on := 18, ground := Go.Ground.data }, { on := 15, ground := Go.Ground.guard }], guard := some (15, false) }) (v := ?_) rfl (by kernel_rfl) (by kernel_rfl) (by kernel_rfl) (fun _ _ _ h => h) (Or.inl ⟨by rfl, ?_⟩) (by assumption) ?_
      rotate_left
      · intro w hSw
        (try dsimp only at hSw)
        go_simp
        try with_reducible rfl
      (try simp only [Act.put, List.setIfInBounds_toArray, List.set_cons_zero, List.set_cons_succ])
      refine wpAnyH_take (i := 20) (oi := { dst := some 67, op := Go.Op.pick (Go.Operand.tmp 62) (Go.Operand.const (Go.Value.bool true)) (Go.Operand.tmp 66), type := 4, pos := "law.go:60", after := #[{ on := 15, ground := Go.Ground.data }, { on := 19, ground := Go.Ground.data }, { on := 12, ground := Go.Ground.guard }], guard := some (12, true) }) (v := ?_) rfl (by kernel_rfl) (by kernel_rfl) (by kernel_rfl) (fun _ _ _ h => h) (Or.inl ⟨by rfl, ?_⟩) (by assumption) ?_
      rotate_left
      · intro w hSw
        (try dsimp only at hSw)
        go_simp
        try with_reducible rfl
      (try simp only [Act.put, List.setIfInBounds_toArray, List.set_cons_zero, List.set_cons_succ])
      refine wpAnyH_take (i := 21) (oi := { dst := some 68, op := Go.Op.pick (Go.Operand.tmp 59) (Go.Operand.tmp 67) (Go.Operand.const (Go.Value.bool false)), type := 4, pos := "law.go:60", after := #[{ on := 12, ground := Go.Ground.data }, { on := 20, ground := Go.Ground.data }], guard := none }) (v := ?_) rfl (by kernel_rfl) (by kernel_rfl) (by kernel_rfl) (fun _ _ _ h => h) (Or.inl ⟨by rfl, ?_⟩) (by assumption) ?_
      rotate_left
      · intro w hSw
        (try dsimp only at hSw)
        go_simp
        try with_reducible rfl
      (try simp only [Act.put, List.setIfInBounds_toArray, List.set_cons_zero, List.set_cons_succ])
      refine wpAnyH_take (i := 22) (oi := { dst := some 4, op := Go.Op.assign (Go.Operand.tmp 68), type := 4, pos := "law.go:60", after := #[{ on := 21, ground := Go.Ground.data }, { on := 17, ground := Go.Ground.chain }, { on := 0, ground := Go.Ground.phase }, { on := 1, ground := Go.Ground.phase }, { on := 2, ground := Go.Ground.phase }, { on := 3, ground := Go.Ground.phase }, { on := 4, ground := Go.Ground.phase }, { on := 5, ground := Go.Ground.phase }, { on := 6, ground := Go.Ground.phase }, { on := 7, ground := Go.Ground.phase }, { on := 8, ground := Go.Ground.phase }, { on := 9, ground := Go.Ground.phase }, { on := 10, ground := Go.Ground.phase }, { on := 11, ground := Go.Ground.phase }, { on := 12, ground := Go.Ground.phase }, { on := 13, ground := Go.Ground.phase }, { on := 14, ground := Go.Ground.phase }, { on := 15, ground := Go.Ground.phase }, { on := 16, ground := Go.Ground.phase }, { on := 17, ground := Go.Ground.phase }, { on := 18, ground := Go.Ground.phase }, { on := 19, ground := Go.Ground.phase }, { on := 20, ground := Go.Ground.phase }, { on := 21, ground := Go.Ground.phase }], guard := none }) (v := ?_) rfl (by kernel_rfl) (by kernel_rfl) (by kernel_rfl) (fun _ _ _ h => h) (Or.inl ⟨by rfl, ?_⟩) (by assumption) ?_
      rotate_left
      · intro w hSw
        (try dsimp only at hSw)
        go_simp
        try with_reducible rfl
      (try simp only [Act.put, List.setIfInBounds_toArray, List.set_cons_zero, List.set_cons_succ])
      refine wpAnyH_done (by kernel_rfl) ?_ _
      all_goals
        go_wp2
        go_ret
        exact ⟨by first | (simp; done) | (simp_all; done), by assumption⟩
    · go_enter Try.func14, Try.ntmps14
      go_wp2_with fail
      refine (HF.out _).mono ?_
      rintro e w1 ⟨rfl, hb⟩
      obtain ⟨hc, hf⟩ := bcell hb
      have z0 : w1.cell? ⟨W.heap.size, 0, none⟩ = some (.int .i64 a0) := by rw [hc _ _ (by simp)]; simp [go_sem]
      have z1 : w1.cell? ⟨W.heap.size, 1, none⟩ = some (.int .u64 (e0 : Int)) := by rw [hc _ _ (by simp)]; simp [go_sem]
      have z2 : w1.cell? ⟨W.heap.size, 2, none⟩ = some (.int .i64 p0) := by rw [hc _ _ (by simp)]; simp [go_sem]
      have z3 : w1.cell? ⟨W.heap.size, 3, none⟩ = some (.bool s0) := by rw [hc _ _ (by simp)]; simp [go_sem]
      have z4 : w1.cell? ⟨W.heap.size, 4, none⟩ = some (.int .u32 (k0 : Int)) := by rw [hc _ _ (by simp)]; simp [go_sem]
      have g0 : ∀ o, w1.frozen? ⟨W.heap.size, o, none⟩ = false := fun o => by rw [hf _ _ (by simp)]; simp [go_sem]
      have hB1 : Below W.heap.size W w1 := Below.trans (by (repeat' (first | (with_reducible exact Below.refl _ _) | (with_reducible assumption) | (with_reducible refine Below.setCell ?_ ?_ _) | (with_reducible refine Below.alloc ?_ ?_ _) | (with_reducible refine below_drewN ?_ _) | (with_reducible refine Below.drew ?_) | go_size))) (hb.mono (by go_size))
      have hz1 : W.heap.size + 1 ≤ w1.heap.size := by have := hb.size; simp at this; omega
      clear hc hf hb
      go_wp2_with fail
      refine (HT.out _).mono ?_
      rintro e w2 ⟨rfl, hb⟩
      obtain ⟨hc, hf⟩ := bcell hb
      have x0 : w2.cell? ⟨W.heap.size, 0, none⟩ = some (.int .i64 v) := by rw [hc _ _ (by first | (simp; done) | (simp; omega))]; simp [go_sem, z0]
      have x1 : w2.cell? ⟨W.heap.size, 1, none⟩ = some (.int .u64 m) := by rw [hc _ _ (by first | (simp; done) | (simp; omega))]; simp [go_sem, z1]
      have x2 : w2.cell? ⟨W.heap.size, 2, none⟩ = some (.int .i64 p) := by rw [hc _ _ (by first | (simp; done) | (simp; omega))]; simp [go_sem, z2]
      have x3 : w2.cell? ⟨W.heap.size, 3, none⟩ = some (.bool s0) := by rw [hc _ _ (by first | (simp; done) | (simp; omega))]; simp [go_sem, z3]
      have x4 : w2.cell? ⟨W.heap.size, 4, none⟩ = some (.int .u32 kx) := by rw [hc _ _ (by first | (simp; done) | (simp; omega))]; simp [go_sem, z4]
      have hB2 : Below W.heap.size W w2 := Below.trans (by (repeat' (first | (with_reducible exact Below.refl _ _) | (with_reducible assumption) | (with_reducible refine Below.setCell ?_ ?_ _) | (with_reducible refine Below.alloc ?_ ?_ _) | (with_reducible refine below_drewN ?_ _) | (with_reducible refine Below.drew ?_) | go_size))) (hb.mono (by go_size))
      have hz2 : W.heap.size + 1 ≤ w2.heap.size := by have := hb.size; simp at this; omega
      clear hc hf hb hB1 z0 z1 z2 z3 z4 g0
      go_wp2_with fail
      refine (HW.out _).mono ?_
      rintro e w3 ⟨rfl, hb⟩
      obtain ⟨hc, hf⟩ := bcell hb
      have x0 := (hc W.heap.size 0 (by omega)).trans x0
      have x1 := (hc W.heap.size 1 (by omega)).trans x1
      have x2 := (hc W.heap.size 2 (by omega)).trans x2
      have x3 := (hc W.heap.size 3 (by omega)).trans x3
      have x4 := (hc W.heap.size 4 (by omega)).trans x4
      have hB3 := hB2.trans (hb.mono (by omega))
      have hz3 := Nat.le_trans hz2 hb.size
      clear hc hf hb hB2
      go_wp2_with fail
      refine (HO.out _).mono ?_
      rintro e w4 ⟨rfl, hb⟩
      obtain ⟨hc, hf⟩ := bcell hb
      have x0 := (hc W.heap.size 0 (by omega)).trans x0
      have x1 := (hc W.heap.size 1 (by omega)).trans x1
      have x2 := (hc W.heap.size 2 (by omega)).trans x2
      have x3 := (hc W.heap.size 3 (by omega)).trans x3
      have x4 := (hc W.heap.size 4 (by omega)).trans x4
      have hB4 := hB3.trans (hb.mono (by omega))
      have hz4 := Nat.le_trans hz3 hb.size
      clear hc hf hb hB3
      have x0 : ∀ o, (w4.alloc o).cell? ⟨W.heap.size, 0, none⟩ = some (.int .i64 v) := fun o => by rw [World.cell?_alloc_lt _ _ _ (by show W.heap.size < _; omega)]; exact x0
      have x1 : ∀ o, (w4.alloc o).cell? ⟨W.heap.size, 1, none⟩ = some (.int .u64 m) := fun o => by rw [World.cell?_alloc_lt _ _ _ (by show W.heap.size < _; omega)]; exact x1
      have x2 : ∀ o, (w4.alloc o).cell? ⟨W.heap.size, 2, none⟩ = some (.int .i64 p) := fun o => by rw [World.cell?_alloc_lt _ _ _ (by show W.heap.size < _; omega)]; exact x2
      have x3 : ∀ o, (w4.alloc o).cell? ⟨W.heap.size, 3, none⟩ = some (.bool s0) := fun o => by rw [World.cell?_alloc_lt _ _ _ (by show W.heap.size < _; omega)]; exact x3
      have x4 : ∀ o, (w4.alloc o).cell? ⟨W.heap.size, 4, none⟩ = some (.int .u32 kx) := fun o => by rw [World.cell?_alloc_lt _ _ _ (by show W.heap.size < _; omega)]; exact x4
      go_wp2_with fail
      refine (HP.out _).mono ?_
      rintro e w5 ⟨rfl, hb⟩
      obtain ⟨hc, hf⟩ := bcell hb
      have x0 : w5.cell? ⟨W.heap.size, 0, none⟩ = some (.int .i64 v) := by rw [hc _ _ (by simp; omega)]; exact x0 _
      have x1 : w5.cell? ⟨W.heap.size, 1, none⟩ = some (.int .u64 m) := by rw [hc _ _ (by simp; omega)]; exact x1 _
      have x2 : w5.cell? ⟨W.heap.size, 2, none⟩ = some (.int .i64 p) := by rw [hc _ _ (by simp; omega)]; exact x2 _
      have x3 : w5.cell? ⟨W.heap.size, 3, none⟩ = some (.bool s0) := by rw [hc _ _ (by simp; omega)]; exact x3 _
      have x4 : w5.cell? ⟨W.heap.size, 4, none⟩ = some (.int .u32 kx) := by rw [hc _ _ (by simp; omega)]; exact x4 _
      have q0 : w5.cell? ⟨w4.heap.size, 0, none⟩ = some (.int .i64 v) := by rw [hc _ _ (by simp)]; simp [go_sem]
      have q1 : w5.cell? ⟨w4.heap.size, 1, none⟩ = some (.int .u64 m) := by rw [hc _ _ (by simp)]; simp [go_sem]
      have q2 : w5.cell? ⟨w4.heap.size, 2, none⟩ = some (.int .i64 p) := by rw [hc _ _ (by simp)]; simp [go_sem]
      have q3 : w5.cell? ⟨w4.heap.size, 3, none⟩ = some (.bool st) := by rw [hc _ _ (by simp)]; simp [go_sem]
      have q4 : w5.cell? ⟨w4.heap.size, 4, none⟩ = some (.int .u32 s) := by rw [hc _ _ (by simp)]; simp [go_sem]
      have hB5 : Below W.heap.size W w5 := Below.trans (by (repeat' (first | (with_reducible exact Below.refl _ _) | (with_reducible assumption) | (with_reducible refine Below.setCell ?_ ?_ _) | (with_reducible refine Below.alloc ?_ ?_ _) | (with_reducible refine below_drewN ?_ _) | (with_reducible refine Below.drew ?_) | go_size))) (hb.mono (by go_size))
      have hz5 : w4.heap.size + 1 ≤ w5.heap.size := by have := hb.size; simp at this; omega
      clear hc hf hb hB4
      go_wp2_with fail
      obtain ⟨w6, hw6⟩ : ∃ w6, w6 = w5.alloc (.cells #[.int .i64 v, .int .u64 m, .int .i64 p, .bool st, .int .u32 s] 77) := ⟨_, rfl⟩
      rw [← hw6]
      have x0 : w6.cell? ⟨W.heap.size, 0, none⟩ = some (.int .i64 v) := by rw [hw6, World.cell?_alloc_lt _ _ _ (by show W.heap.size < _; omega)]; exact x0
      have x1 : w6.cell? ⟨W.heap.size, 1, none⟩ = some (.int .u64 m) := by rw [hw6, World.cell?_alloc_lt _ _ _ (by show W.heap.size < _; omega)]; exact x1
      have x2 : w6.cell? ⟨W.heap.size, 2, none⟩ = some (.int .i64 p) := by rw [hw6, World.cell?_alloc_lt _ _ _ (by show W.heap.size < _; omega)]; exact x2
      have x3 : w6.cell? ⟨W.heap.size, 3, none⟩ = some (.bool s0) := by rw [hw6, World.cell?_alloc_lt _ _ _ (by show W.heap.size < _; omega)]; exact x3
      have x4 : w6.cell? ⟨W.heap.size, 4, none⟩ = some (.int .u32 kx) := by rw [hw6, World.cell?_alloc_lt _ _ _ (by show W.heap.size < _; omega)]; exact x4
      have q0 : w6.cell? ⟨w4.heap.size, 0, none⟩ = some (.int .i64 v) := by rw [hw6, World.cell?_alloc_lt _ _ _ (by show w4.heap.size < _; omega)]; exact q0
      have q1 : w6.cell? ⟨w4.heap.size, 1, none⟩ = some (.int .u64 m) := by rw [hw6, World.cell?_alloc_lt _ _ _ (by show w4.heap.size < _; omega)]; exact q1
      have q2 : w6.cell? ⟨w4.heap.size, 2, none⟩ = some (.int .i64 p) := by rw [hw6, World.cell?_alloc_lt _ _ _ (by show w4.heap.size < _; omega)]; exact q2
      have q3 : w6.cell? ⟨w4.heap.size, 3, none⟩ = some (.bool st) := by rw [hw6, World.cell?_alloc_lt _ _ _ (by show w4.heap.size < _; omega)]; exact q3
      have q4 : w6.cell? ⟨w4.heap.size, 4, none⟩ = some (.int .u32 s) := by rw [hw6, World.cell?_alloc_lt _ _ _ (by show w4.heap.size < _; omega)]; exact q4
      have r0 : w6.cell? ⟨w5.heap.size, 0, none⟩ = some (.int .i64 v) := by rw [hw6]; simp [go_sem]
      have r1 : w6.cell? ⟨w5.heap.size, 1, none⟩ = some (.int .u64 m) := by rw [hw6]; simp [go_sem]
      have r2 : w6.cell? ⟨w5.heap.size, 2, none⟩ = some (.int .i64 p) := by rw [hw6]; simp [go_sem]
      have r3 : w6.cell? ⟨w5.heap.size, 3, none⟩ = some (.bool st) := by rw [hw6]; simp [go_sem]
      have r4 : w6.cell? ⟨w5.heap.size, 4, none⟩ = some (.int .u32 s) := by rw [hw6]; simp [go_sem]
      have hB6 : Below W.heap.size W w6 := by rw [hw6]; exact hB5.alloc (by omega) _
      have hz6 : w5.heap.size + 1 ≤ w6.heap.size := by rw [hw6]; simp
      clear hw6 hB5
      refine wp_region_held_drew (S := fun w' => w'.cell? ⟨W.heap.size, 0, none⟩ = some (.int .i64 v) ∧ w'.cell? ⟨W.heap.size, 1, none⟩ = some (.int .u64 m) ∧ w'.cell? ⟨W.heap.size, 2, none⟩ = some (.int .i64 p) ∧ w'.cell? ⟨W.heap.size, 3, none⟩ = some (.bool s0) ∧ w'.cell? ⟨W.heap.size, 4, none⟩ = some (.int .u32 kx) ∧ w'.cell? ⟨w4.heap.size, 0, none⟩ = some (.int .i64 v) ∧ w'.cell? ⟨w4.heap.size, 1, none⟩ = some (.int .u64 m) ∧ w'.cell? ⟨w4.heap.size, 2, none⟩ = some (.int .i64 p) ∧ w'.cell? ⟨w4.heap.size, 3, none⟩ = some (.bool st) ∧ w'.cell? ⟨w4.heap.size, 4, none⟩ = some (.int .u32 s) ∧ w'.cell? ⟨w5.heap.size, 0, none⟩ = some (.int .i64 v) ∧ w'.cell? ⟨w5.heap.size, 1, none⟩ = some (.int .u64 m) ∧ w'.cell? ⟨w5.heap.size, 2, none⟩ = some (.int .i64 p) ∧ w'.cell? ⟨w5.heap.size, 3, none⟩ = some (.bool st) ∧ w'.cell? ⟨w5.heap.size, 4, none⟩ = some (.int .u32 s)) (by kernel_rfl) ?_ (fun hHeld => ?_)
      · exact ⟨x0, x1, x2, x3, x4, q0, q1, q2, q3, q4, r0, r1, r2, r3, r4⟩
      refine wpAnyH_ready (rs := [0]) (by kernel_rfl) (by simp) ?_
      refine AllReadyH.cons (o := { dst := some 47, op := Go.Op.call { callee := Go.Callee.value (Go.Operand.func 50), args := #[], argTypes := #[] }, type := 4, pos := "law.go:60", after := #[], guard := none }) rfl (fun K hK => ?_) AllReadyH.nil
      go_simp
      refine Calls.mono (told09 _) ?_
      rintro e w7 ⟨rfl, hb⟩
      have hB7 : Below W.heap.size W w7 := Below.trans (by (repeat' (first | (with_reducible exact Below.refl _ _) | (with_reducible assumption) | (with_reducible refine Below.setCell ?_ ?_ _) | (with_reducible refine Below.alloc ?_ ?_ _) | (with_reducible refine below_drewN ?_ _) | (with_reducible refine Below.drew ?_) | go_size))) (hb.mono (by go_size))
      have hz7 : w5.heap.size + 1 ≤ w7.heap.size := (by have := hb.size; (try simp at this); omega)
      refine hK.out _ _ ?_ (fun hHeld => ?_)
      · (try dsimp only)
        exact keep555B (G := w5.heap.size + 1) (by omega) (by omega) (by omega) (by assumption) (fun p hp => hb.cell (Nat.lt_of_lt_of_le hp (by go_size)))
      clear hK K
      (try simp only [Act.put, List.setIfInBounds_toArray, List.set_cons_zero, List.set_cons_succ])
      refine wpAnyH_take (i := 1) (oi := { dst := some 48, op := Go.Op.move (Go.Operand.tmp 47), type := 4, pos := "law.go:60", after := #[{ on := 0, ground := Go.Ground.data }, { on := 0, ground := Go.Ground.chain }], guard := none }) (v := ?_) rfl (by kernel_rfl) (by kernel_rfl) (by kernel_rfl) (fun _ _ _ h => h) (Or.inl ⟨by rfl, ?_⟩) (by assumption) ?_
      rotate_left
      · intro w hSw
        (try dsimp only at hSw)
        go_simp
        try with_reducible rfl
      (try simp only [Act.put, List.setIfInBounds_toArray, List.set_cons_zero, List.set_cons_succ])
      refine wpAnyH_take (i := 2) (oi := { dst := some 49, op := Go.Op.move (Go.Operand.tmp 9), type := 4, pos := "law.go:60", after := #[{ on := 1, ground := Go.Ground.guard }], guard := some (1, true) }) (v := ?_) rfl (by kernel_rfl) (by kernel_rfl) (by kernel_rfl) (fun _ _ _ h => h) (Or.inl ⟨by rfl, ?_⟩) (by assumption) ?_
      rotate_left
      · intro w hSw
        (try dsimp only at hSw)
        go_simp
        try with_reducible rfl
      (try simp only [Act.put, List.setIfInBounds_toArray, List.set_cons_zero, List.set_cons_succ])
      refine wpAnyH_take (i := 3) (oi := { dst := some 50, op := Go.Op.move (Go.Operand.tmp 11), type := 4, pos := "law.go:60", after := #[{ on := 1, ground := Go.Ground.guard }], guard := some (1, true) }) (v := ?_) rfl (by kernel_rfl) (by kernel_rfl) (by kernel_rfl) (fun _ _ _ h => h) (Or.inl ⟨by rfl, ?_⟩) (by assumption) ?_
      rotate_left
      · intro w hSw
        (try dsimp only at hSw)
        go_simp
        try with_reducible rfl
      (try simp only [Act.put, List.setIfInBounds_toArray, List.set_cons_zero, List.set_cons_succ])
      refine wpAnyH_take (i := 4) (oi := { dst := some 51, op := Go.Op.binOp Go.BinOp.eql 4 (Go.Operand.tmp 49) (Go.Operand.tmp 50) 4, type := 4, pos := "law.go:60", after := #[{ on := 2, ground := Go.Ground.data }, { on := 3, ground := Go.Ground.data }, { on := 1, ground := Go.Ground.guard }], guard := some (1, true) }) (v := ?_) rfl (by kernel_rfl) (by kernel_rfl) (by kernel_rfl) (fun _ _ _ h => h) (Or.inl ⟨by rfl, ?_⟩) (by assumption) ?_
      rotate_left
      · intro w hSw
        (try dsimp only at hSw)
        go_simp
        try with_reducible rfl
      (try simp only [Act.put, List.setIfInBounds_toArray, List.set_cons_zero, List.set_cons_succ])
      refine wpAnyH_take (i := 5) (oi := { dst := some 52, op := Go.Op.pick (Go.Operand.tmp 48) (Go.Operand.tmp 51) (Go.Operand.const (Go.Value.bool false)), type := 4, pos := "law.go:60", after := #[{ on := 1, ground := Go.Ground.data }, { on := 4, ground := Go.Ground.data }], guard := none }) (v := ?_) rfl (by kernel_rfl) (by kernel_rfl) (by kernel_rfl) (fun _ _ _ h => h) (Or.inl ⟨by rfl, ?_⟩) (by assumption) ?_
      rotate_left
      · intro w hSw
        (try dsimp only at hSw)
        go_simp
        try with_reducible rfl
      (try simp only [Act.put, List.setIfInBounds_toArray, List.set_cons_zero, List.set_cons_succ])
      refine wpAnyH_take (i := 6) (oi := { dst := some 53, op := Go.Op.move (Go.Operand.tmp 52), type := 4, pos := "law.go:60", after := #[{ on := 5, ground := Go.Ground.data }, { on := 1, ground := Go.Ground.chain }], guard := none }) (v := ?_) rfl (by kernel_rfl) (by kernel_rfl) (by kernel_rfl) (fun _ _ _ h => h) (Or.inl ⟨by rfl, ?_⟩) (by assumption) ?_
      rotate_left
      · intro w hSw
        (try dsimp only at hSw)
        go_simp
        try with_reducible rfl
      (try simp only [Act.put, List.setIfInBounds_toArray, List.set_cons_zero, List.set_cons_succ])
      refine wpAnyH_take (i := 7) (oi := { dst := some 54, op := Go.Op.load 81 (Go.Operand.tmp 8), type := 81, pos := "law.go:60", after := #[{ on := 6, ground := Go.Ground.guard }], guard := some (6, true) }) (v := ?_) rfl (by kernel_rfl) (by kernel_rfl) (by kernel_rfl) (fun _ _ _ h => h) (Or.inl ⟨by rfl, ?_⟩) (by assumption) ?_
      rotate_left
      · intro w hSw
        (try dsimp only at hSw)
        go_simp
        try with_reducible rfl
      (try simp only [Act.put, List.setIfInBounds_toArray, List.set_cons_zero, List.set_cons_succ])
      refine wpAnyH_take (i := 9) (oi := { dst := some 56, op := Go.Op.load 77 (Go.Operand.tmp 10), type := 77, pos := "law.go:60", after := #[{ on := 6, ground := Go.Ground.guard }], guard := some (6, true) }) (v := ?_) rfl (by kernel_rfl) (by kernel_rfl) (by kernel_rfl) (fun _ _ _ h => h) (Or.inl ⟨by rfl, ?_⟩) (by assumption) ?_
      rotate_left
      · intro w hSw
        (try dsimp only at hSw)
        go_simp
        try with_reducible rfl
      (try simp only [Act.put, List.setIfInBounds_toArray, List.set_cons_zero, List.set_cons_succ])
      refine wpAnyH_ready (rs := [8]) (by kernel_rfl) (by simp) ?_
      refine AllReadyH.cons (o := { dst := some 55, op := Go.Op.call { callee := Go.Callee.value (Go.Operand.func 55), args := #[Go.Operand.tmp 54], argTypes := #[81] }, type := 77, pos := "law.go:60", after := #[{ on := 7, ground := Go.Ground.data }, { on := 6, ground := Go.Ground.chain }, { on := 6, ground := Go.Ground.guard }], guard := some (6, true) }) rfl (fun K hK => ?_) AllReadyH.nil
      go_simp
      refine Calls.mono (HR.out _) ?_
      rintro e w8 ⟨rfl, hb⟩
      have hB8 : Below W.heap.size W w8 := Below.trans (by (repeat' (first | (with_reducible exact Below.refl _ _) | (with_reducible assumption) | (with_reducible refine Below.setCell ?_ ?_ _) | (with_reducible refine Below.alloc ?_ ?_ _) | (with_reducible refine below_drewN ?_ _) | (with_reducible refine Below.drew ?_) | go_size))) (hb.mono (by go_size))
      have hz8 : w5.heap.size + 1 ≤ w8.heap.size := (by have := hb.size; (try simp at this); omega)
      refine hK.out _ _ ?_ (fun hHeld => ?_)
      · (try dsimp only)
        exact keep555B (G := w5.heap.size + 1) (by omega) (by omega) (by omega) (by assumption) (fun p hp => hb.cell (Nat.lt_of_lt_of_le hp (by go_size)))
      clear hK K
      (try simp only [Act.put, List.setIfInBounds_toArray, List.set_cons_zero, List.set_cons_succ])
      refine wpAnyH_take (i := 10) (oi := { dst := some 57, op := Go.Op.binOp Go.BinOp.eql 77 (Go.Operand.tmp 55) (Go.Operand.tmp 56) 77, type := 4, pos := "law.go:60", after := #[{ on := 8, ground := Go.Ground.data }, { on := 9, ground := Go.Ground.data }, { on := 6, ground := Go.Ground.guard }], guard := some (6, true) }) (v := ?_) rfl (by kernel_rfl) (by kernel_rfl) (by kernel_rfl) (fun _ _ _ h => h) (Or.inl ⟨by rfl, ?_⟩) (by assumption) ?_
      rotate_left
      · intro w hSw
        (try dsimp only at hSw)
        go_simp
        try with_reducible rfl
      (try simp only [Act.put, List.setIfInBounds_toArray, List.set_cons_zero, List.set_cons_succ])
      refine wpAnyH_take (i := 11) (oi := { dst := some 58, op := Go.Op.pick (Go.Operand.tmp 53) (Go.Operand.tmp 57) (Go.Operand.const (Go.Value.bool false)), type := 4, pos := "law.go:60", after := #[{ on := 6, ground := Go.Ground.data }, { on := 10, ground := Go.Ground.data }], guard := none }) (v := ?_) rfl (by kernel_rfl) (by kernel_rfl) (by kernel_rfl) (fun _ _ _ h => h) (Or.inl ⟨by rfl, ?_⟩) (by assumption) ?_
      rotate_left
      · intro w hSw
        (try dsimp only at hSw)
        go_simp
        try with_reducible rfl
      (try simp only [Act.put, List.setIfInBounds_toArray, List.set_cons_zero, List.set_cons_succ])
      refine wpAnyH_take (i := 12) (oi := { dst := some 59, op := Go.Op.move (Go.Operand.tmp 58), type := 4, pos := "law.go:60", after := #[{ on := 11, ground := Go.Ground.data }, { on := 8, ground := Go.Ground.chain }], guard := none }) (v := ?_) rfl (by kernel_rfl) (by kernel_rfl) (by kernel_rfl) (fun _ _ _ h => h) (Or.inl ⟨by rfl, ?_⟩) (by assumption) ?_
      rotate_left
      · intro w hSw
        (try dsimp only at hSw)
        go_simp
        try with_reducible rfl
      (try simp only [Act.put, List.setIfInBounds_toArray, List.set_cons_zero, List.set_cons_succ])
      refine wpAnyH_take (i := 13) (oi := { dst := some 60, op := Go.Op.move (Go.Operand.tmp 9), type := 4, pos := "law.go:60", after := #[{ on := 12, ground := Go.Ground.guard }], guard := some (12, true) }) (v := ?_) rfl (by kernel_rfl) (by kernel_rfl) (by kernel_rfl) (fun _ _ _ h => h) (Or.inl ⟨by rfl, ?_⟩) (by assumption) ?_
      rotate_left
      · intro w hSw
        (try dsimp only at hSw)
        go_simp
        try with_reducible rfl
      (try simp only [Act.put, List.setIfInBounds_toArray, List.set_cons_zero, List.set_cons_succ])
      refine wpAnyH_take (i := 14) (oi := { dst := some 61, op := Go.Op.unOp Go.UnOp.not 4 (Go.Operand.tmp 60), type := 4, pos := "law.go:60", after := #[{ on := 13, ground := Go.Ground.data }, { on := 12, ground := Go.Ground.guard }], guard := some (12, true) }) (v := ?_) rfl (by kernel_rfl) (by kernel_rfl) (by kernel_rfl) (fun _ _ _ h => h) (Or.inl ⟨by rfl, ?_⟩) (by assumption) ?_
      rotate_left
      · intro w hSw
        (try dsimp only at hSw)
        go_simp
        try with_reducible rfl
      (try simp only [Act.put, List.setIfInBounds_toArray, List.set_cons_zero, List.set_cons_succ])
      refine wpAnyH_take (i := 15) (oi := { dst := some 62, op := Go.Op.move (Go.Operand.tmp 61), type := 4, pos := "law.go:60", after := #[{ on := 14, ground := Go.Ground.data }, { on := 12, ground := Go.Ground.chain }, { on := 12, ground := Go.Ground.guard }], guard := some (12, true) }) (v := ?_) rfl (by kernel_rfl) (by kernel_rfl) (by kernel_rfl) (fun _ _ _ h => h) (Or.inl ⟨by rfl, ?_⟩) (by assumption) ?_
      rotate_left
      · intro w hSw
        (try dsimp only at hSw)
        go_simp
        try with_reducible rfl
      (try simp only [Act.put, List.setIfInBounds_toArray, List.set_cons_zero, List.set_cons_succ])
      refine wpAnyH_take (i := 16) (oi := { dst := some 63, op := Go.Op.load 81 (Go.Operand.tmp 8), type := 81, pos := "law.go:60", after := #[{ on := 15, ground := Go.Ground.guard }], guard := some (15, false) }) (v := ?_) rfl (by kernel_rfl) (by kernel_rfl) (by kernel_rfl) (fun _ _ _ h => h) (Or.inl ⟨by rfl, ?_⟩) (by assumption) ?_
      rotate_left
      · intro w hSw
        (try dsimp only at hSw)
        go_simp
        try with_reducible rfl
      (try simp only [Act.put, List.setIfInBounds_toArray, List.set_cons_zero, List.set_cons_succ])
      refine wpAnyH_take (i := 18) (oi := { dst := some 65, op := Go.Op.load 77 (Go.Operand.tmp 2), type := 77, pos := "law.go:60", after := #[{ on := 15, ground := Go.Ground.guard }], guard := some (15, false) }) (v := ?_) rfl (by kernel_rfl) (by kernel_rfl) (by kernel_rfl) (fun _ _ _ h => h) (Or.inl ⟨by rfl, ?_⟩) (by assumption) ?_
      rotate_left
      · intro w hSw
        (try dsimp only at hSw)
        go_simp
        try with_reducible rfl
      (try simp only [Act.put, List.setIfInBounds_toArray, List.set_cons_zero, List.set_cons_succ])
      refine wpAnyH_ready (rs := [17]) (by kernel_rfl) (by simp) ?_
      refine AllReadyH.cons (o := { dst := some 64, op := Go.Op.call { callee := Go.Callee.value (Go.Operand.func 55), args := #[Go.Operand.tmp 63], argTypes := #[81] }, type := 77, pos := "law.go:60", after := #[{ on := 16, ground := Go.Ground.data }, { on := 15, ground := Go.Ground.chain }, { on := 15, ground := Go.Ground.guard }], guard := some (15, false) }) rfl (fun K hK => ?_) AllReadyH.nil
      go_simp
      refine Calls.mono (HR.out _) ?_
      rintro e w9 ⟨rfl, hb⟩
      have hB9 : Below W.heap.size W w9 := Below.trans (by (repeat' (first | (with_reducible exact Below.refl _ _) | (with_reducible assumption) | (with_reducible refine Below.setCell ?_ ?_ _) | (with_reducible refine Below.alloc ?_ ?_ _) | (with_reducible refine below_drewN ?_ _) | (with_reducible refine Below.drew ?_) | go_size))) (hb.mono (by go_size))
      have hz9 : w5.heap.size + 1 ≤ w9.heap.size := (by have := hb.size; (try simp at this); omega)
      refine hK.out _ _ ?_ (fun hHeld => ?_)
      · (try dsimp only)
        exact keep555B (G := w5.heap.size + 1) (by omega) (by omega) (by omega) (by assumption) (fun p hp => hb.cell (Nat.lt_of_lt_of_le hp (by go_size)))
      clear hK K
      (try simp only [Act.put, List.setIfInBounds_toArray, List.set_cons_zero, List.set_cons_succ])
      refine wpAnyH_take (i := 19) (oi := { dst := some 66, op := Go.Op.binOp Go.BinOp.neq 77 (Go.Operand.tmp 64) (Go.Operand.tmp 65) 77, type := 4, pos := "law.go:60", after := #[{ on := 17, ground := Go.Ground.data }, { on := 18, ground := Go.Ground.data }, { on := 15, ground := Go.Ground.guard }], guard := some (15, false) }) (v := ?_) rfl (by kernel_rfl) (by kernel_rfl) (by kernel_rfl) (fun _ _ _ h => h) (Or.inl ⟨by rfl, ?_⟩) (by assumption) ?_
      rotate_left
      · intro w hSw
        (try dsimp only at hSw)
        go_simp
        try with_reducible rfl
      (try simp only [Act.put, List.setIfInBounds_toArray, List.set_cons_zero, List.set_cons_succ])
      refine wpAnyH_take (i := 20) (oi := { dst := some 67, op := Go.Op.pick (Go.Operand.tmp 62) (Go.Operand.const (Go.Value.bool true)) (Go.Operand.tmp 66), type := 4, pos := "law.go:60", after := #[{ on := 15, ground := Go.Ground.data }, { on := 19, ground := Go.Ground.data }, { on := 12, ground := Go.Ground.guard }], guard := some (12, true) }) (v := ?_) rfl (by kernel_rfl) (by kernel_rfl) (by kernel_rfl) (fun _ _ _ h => h) (Or.inl ⟨by rfl, ?_⟩) (by assumption) ?_
      rotate_left
      · intro w hSw
        (try dsimp only at hSw)
        go_simp
        try with_reducible rfl
      (try simp only [Act.put, List.setIfInBounds_toArray, List.set_cons_zero, List.set_cons_succ])
      refine wpAnyH_take (i := 21) (oi := { dst := some 68, op := Go.Op.pick (Go.Operand.tmp 59) (Go.Operand.tmp 67) (Go.Operand.const (Go.Value.bool false)), type := 4, pos := "law.go:60", after := #[{ on := 12, ground := Go.Ground.data }, { on := 20, ground := Go.Ground.data }], guard := none }) (v := ?_) rfl (by kernel_rfl) (by kernel_rfl) (by kernel_rfl) (fun _ _ _ h => h) (Or.inl ⟨by rfl, ?_⟩) (by assumption) ?_
      rotate_left
      · intro w hSw
        (try dsimp only at hSw)
        go_simp
        try with_reducible rfl
      (try simp only [Act.put, List.setIfInBounds_toArray, List.set_cons_zero, List.set_cons_succ])
      refine wpAnyH_take (i := 22) (oi := { dst := some 4, op := Go.Op.assign (Go.Operand.tmp 68), type := 4, pos := "law.go:60", after := #[{ on := 21, ground := Go.Ground.data }, { on := 17, ground := Go.Ground.chain }, { on := 0, ground := Go.Ground.phase }, { on := 1, ground := Go.Ground.phase }, { on := 2, ground := Go.Ground.phase }, { on := 3, ground := Go.Ground.phase }, { on := 4, ground := Go.Ground.phase }, { on := 5, ground := Go.Ground.phase }, { on := 6, ground := Go.Ground.phase }, { on := 7, ground := Go.Ground.phase }, { on := 8, ground := Go.Ground.phase }, { on := 9, ground := Go.Ground.phase }, { on := 10, ground := Go.Ground.phase }, { on := 11, ground := Go.Ground.phase }, { on := 12, ground := Go.Ground.phase }, { on := 13, ground := Go.Ground.phase }, { on := 14, ground := Go.Ground.phase }, { on := 15, ground := Go.Ground.phase }, { on := 16, ground := Go.Ground.phase }, { on := 17, ground := Go.Ground.phase }, { on := 18, ground := Go.Ground.phase }, { on := 19, ground := Go.Ground.phase }, { on := 20, ground := Go.Ground.phase }, { on := 21, ground := Go.Ground.phase }], guard := none }) (v := ?_) rfl (by kernel_rfl) (by kernel_rfl) (by kernel_rfl) (fun _ _ _ h => h) (Or.inl ⟨by rfl, ?_⟩) (by assumption) ?_
      rotate_left
      · intro w hSw
        (try dsimp only at hSw)
        go_simp
        try with_reducible rfl
      (try simp only [Act.put, List.setIfInBounds_toArray, List.set_cons_zero, List.set_cons_succ])
      refine wpAnyH_done (by kernel_rfl) ?_ _
      all_goals
        go_wp2
        go_ret
        exact ⟨by first | (simp; done) | (simp_all; done), by assumption⟩
    · go_enter Try.func14, Try.ntmps14
      go_wp2_with fail
      refine (HF.out _).mono ?_
      rintro e w1 ⟨rfl, hb⟩
      obtain ⟨hc, hf⟩ := bcell hb
      have z0 : w1.cell? ⟨W.heap.size, 0, none⟩ = some (.int .i64 a0) := by rw [hc _ _ (by simp)]; simp [go_sem]
      have z1 : w1.cell? ⟨W.heap.size, 1, none⟩ = some (.int .u64 (e0 : Int)) := by rw [hc _ _ (by simp)]; simp [go_sem]
      have z2 : w1.cell? ⟨W.heap.size, 2, none⟩ = some (.int .i64 p0) := by rw [hc _ _ (by simp)]; simp [go_sem]
      have z3 : w1.cell? ⟨W.heap.size, 3, none⟩ = some (.bool st) := by rw [hc _ _ (by simp)]; simp [go_sem]
      have z4 : w1.cell? ⟨W.heap.size, 4, none⟩ = some (.int .u32 (k0 : Int)) := by rw [hc _ _ (by simp)]; simp [go_sem]
      have g0 : ∀ o, w1.frozen? ⟨W.heap.size, o, none⟩ = false := fun o => by rw [hf _ _ (by simp)]; simp [go_sem]
      have hB1 : Below W.heap.size W w1 := Below.trans (by (repeat' (first | (with_reducible exact Below.refl _ _) | (with_reducible assumption) | (with_reducible refine Below.setCell ?_ ?_ _) | (with_reducible refine Below.alloc ?_ ?_ _) | (with_reducible refine below_drewN ?_ _) | (with_reducible refine Below.drew ?_) | go_size))) (hb.mono (by go_size))
      have hz1 : W.heap.size + 1 ≤ w1.heap.size := by have := hb.size; simp at this; omega
      clear hc hf hb
      go_wp2_with fail
      refine (HT.out _).mono ?_
      rintro e w2 ⟨rfl, hb⟩
      obtain ⟨hc, hf⟩ := bcell hb
      have x0 : w2.cell? ⟨W.heap.size, 0, none⟩ = some (.int .i64 v) := by rw [hc _ _ (by first | (simp; done) | (simp; omega))]; simp [go_sem, z0]
      have x1 : w2.cell? ⟨W.heap.size, 1, none⟩ = some (.int .u64 m) := by rw [hc _ _ (by first | (simp; done) | (simp; omega))]; simp [go_sem, z1]
      have x2 : w2.cell? ⟨W.heap.size, 2, none⟩ = some (.int .i64 p) := by rw [hc _ _ (by first | (simp; done) | (simp; omega))]; simp [go_sem, z2]
      have x3 : w2.cell? ⟨W.heap.size, 3, none⟩ = some (.bool st) := by rw [hc _ _ (by first | (simp; done) | (simp; omega))]; simp [go_sem, z3]
      have x4 : w2.cell? ⟨W.heap.size, 4, none⟩ = some (.int .u32 kx) := by rw [hc _ _ (by first | (simp; done) | (simp; omega))]; simp [go_sem, z4]
      have hB2 : Below W.heap.size W w2 := Below.trans (by (repeat' (first | (with_reducible exact Below.refl _ _) | (with_reducible assumption) | (with_reducible refine Below.setCell ?_ ?_ _) | (with_reducible refine Below.alloc ?_ ?_ _) | (with_reducible refine below_drewN ?_ _) | (with_reducible refine Below.drew ?_) | go_size))) (hb.mono (by go_size))
      have hz2 : W.heap.size + 1 ≤ w2.heap.size := by have := hb.size; simp at this; omega
      clear hc hf hb hB1 z0 z1 z2 z3 z4 g0
      go_wp2_with fail
      refine (HW.out _).mono ?_
      rintro e w3 ⟨rfl, hb⟩
      obtain ⟨hc, hf⟩ := bcell hb
      have x0 := (hc W.heap.size 0 (by omega)).trans x0
      have x1 := (hc W.heap.size 1 (by omega)).trans x1
      have x2 := (hc W.heap.size 2 (by omega)).trans x2
      have x3 := (hc W.heap.size 3 (by omega)).trans x3
      have x4 := (hc W.heap.size 4 (by omega)).trans x4
      have hB3 := hB2.trans (hb.mono (by omega))
      have hz3 := Nat.le_trans hz2 hb.size
      clear hc hf hb hB2
      go_wp2_with fail
      refine (HO.out _).mono ?_
      rintro e w4 ⟨rfl, hb⟩
      obtain ⟨hc, hf⟩ := bcell hb
      have x0 := (hc W.heap.size 0 (by omega)).trans x0
      have x1 := (hc W.heap.size 1 (by omega)).trans x1
      have x2 := (hc W.heap.size 2 (by omega)).trans x2
      have x3 := (hc W.heap.size 3 (by omega)).trans x3
      have x4 := (hc W.heap.size 4 (by omega)).trans x4
      have hB4 := hB3.trans (hb.mono (by omega))
      have hz4 := Nat.le_trans hz3 hb.size
      clear hc hf hb hB3
      have x0 : ∀ o, (w4.alloc o).cell? ⟨W.heap.size, 0, none⟩ = some (.int .i64 v) := fun o => by rw [World.cell?_alloc_lt _ _ _ (by show W.heap.size < _; omega)]; exact x0
      have x1 : ∀ o, (w4.alloc o).cell? ⟨W.heap.size, 1, none⟩ = some (.int .u64 m) := fun o => by rw [World.cell?_alloc_lt _ _ _ (by show W.heap.size < _; omega)]; exact x1
      have x2 : ∀ o, (w4.alloc o).cell? ⟨W.heap.size, 2, none⟩ = some (.int .i64 p) := fun o => by rw [World.cell?_alloc_lt _ _ _ (by show W.heap.size < _; omega)]; exact x2
      have x3 : ∀ o, (w4.alloc o).cell? ⟨W.heap.size, 3, none⟩ = some (.bool st) := fun o => by rw [World.cell?_alloc_lt _ _ _ (by show W.heap.size < _; omega)]; exact x3
      have x4 : ∀ o, (w4.alloc o).cell? ⟨W.heap.size, 4, none⟩ = some (.int .u32 kx) := fun o => by rw [World.cell?_alloc_lt _ _ _ (by show W.heap.size < _; omega)]; exact x4
      go_wp2_with fail
      refine (HP.out _).mono ?_
      rintro e w5 ⟨rfl, hb⟩
      obtain ⟨hc, hf⟩ := bcell hb
      have x0 : w5.cell? ⟨W.heap.size, 0, none⟩ = some (.int .i64 v) := by rw [hc _ _ (by simp; omega)]; exact x0 _
      have x1 : w5.cell? ⟨W.heap.size, 1, none⟩ = some (.int .u64 m) := by rw [hc _ _ (by simp; omega)]; exact x1 _
      have x2 : w5.cell? ⟨W.heap.size, 2, none⟩ = some (.int .i64 p) := by rw [hc _ _ (by simp; omega)]; exact x2 _
      have x3 : w5.cell? ⟨W.heap.size, 3, none⟩ = some (.bool st) := by rw [hc _ _ (by simp; omega)]; exact x3 _
      have x4 : w5.cell? ⟨W.heap.size, 4, none⟩ = some (.int .u32 kx) := by rw [hc _ _ (by simp; omega)]; exact x4 _
      have q0 : w5.cell? ⟨w4.heap.size, 0, none⟩ = some (.int .i64 v) := by rw [hc _ _ (by simp)]; simp [go_sem]
      have q1 : w5.cell? ⟨w4.heap.size, 1, none⟩ = some (.int .u64 m) := by rw [hc _ _ (by simp)]; simp [go_sem]
      have q2 : w5.cell? ⟨w4.heap.size, 2, none⟩ = some (.int .i64 p) := by rw [hc _ _ (by simp)]; simp [go_sem]
      have q3 : w5.cell? ⟨w4.heap.size, 3, none⟩ = some (.bool st) := by rw [hc _ _ (by simp)]; simp [go_sem]
      have q4 : w5.cell? ⟨w4.heap.size, 4, none⟩ = some (.int .u32 s) := by rw [hc _ _ (by simp)]; simp [go_sem]
      have hB5 : Below W.heap.size W w5 := Below.trans (by (repeat' (first | (with_reducible exact Below.refl _ _) | (with_reducible assumption) | (with_reducible refine Below.setCell ?_ ?_ _) | (with_reducible refine Below.alloc ?_ ?_ _) | (with_reducible refine below_drewN ?_ _) | (with_reducible refine Below.drew ?_) | go_size))) (hb.mono (by go_size))
      have hz5 : w4.heap.size + 1 ≤ w5.heap.size := by have := hb.size; simp at this; omega
      clear hc hf hb hB4
      go_wp2_with fail
      obtain ⟨w6, hw6⟩ : ∃ w6, w6 = w5.alloc (.cells #[.int .i64 v, .int .u64 m, .int .i64 p, .bool st, .int .u32 s] 77) := ⟨_, rfl⟩
      rw [← hw6]
      have x0 : w6.cell? ⟨W.heap.size, 0, none⟩ = some (.int .i64 v) := by rw [hw6, World.cell?_alloc_lt _ _ _ (by show W.heap.size < _; omega)]; exact x0
      have x1 : w6.cell? ⟨W.heap.size, 1, none⟩ = some (.int .u64 m) := by rw [hw6, World.cell?_alloc_lt _ _ _ (by show W.heap.size < _; omega)]; exact x1
      have x2 : w6.cell? ⟨W.heap.size, 2, none⟩ = some (.int .i64 p) := by rw [hw6, World.cell?_alloc_lt _ _ _ (by show W.heap.size < _; omega)]; exact x2
      have x3 : w6.cell? ⟨W.heap.size, 3, none⟩ = some (.bool st) := by rw [hw6, World.cell?_alloc_lt _ _ _ (by show W.heap.size < _; omega)]; exact x3
      have x4 : w6.cell? ⟨W.heap.size, 4, none⟩ = some (.int .u32 kx) := by rw [hw6, World.cell?_alloc_lt _ _ _ (by show W.heap.size < _; omega)]; exact x4
      have q0 : w6.cell? ⟨w4.heap.size, 0, none⟩ = some (.int .i64 v) := by rw [hw6, World.cell?_alloc_lt _ _ _ (by show w4.heap.size < _; omega)]; exact q0
      have q1 : w6.cell? ⟨w4.heap.size, 1, none⟩ = some (.int .u64 m) := by rw [hw6, World.cell?_alloc_lt _ _ _ (by show w4.heap.size < _; omega)]; exact q1
      have q2 : w6.cell? ⟨w4.heap.size, 2, none⟩ = some (.int .i64 p) := by rw [hw6, World.cell?_alloc_lt _ _ _ (by show w4.heap.size < _; omega)]; exact q2
      have q3 : w6.cell? ⟨w4.heap.size, 3, none⟩ = some (.bool st) := by rw [hw6, World.cell?_alloc_lt _ _ _ (by show w4.heap.size < _; omega)]; exact q3
      have q4 : w6.cell? ⟨w4.heap.size, 4, none⟩ = some (.int .u32 s) := by rw [hw6, World.cell?_alloc_lt _ _ _ (by show w4.heap.size < _; omega)]; exact q4
      have r0 : w6.cell? ⟨w5.heap.size, 0, none⟩ = some (.int .i64 v) := by rw [hw6]; simp [go_sem]
      have r1 : w6.cell? ⟨w5.heap.size, 1, none⟩ = some (.int .u64 m) := by rw [hw6]; simp [go_sem]
      have r2 : w6.cell? ⟨w5.heap.size, 2, none⟩ = some (.int .i64 p) := by rw [hw6]; simp [go_sem]
      have r3 : w6.cell? ⟨w5.heap.size, 3, none⟩ = some (.bool st) := by rw [hw6]; simp [go_sem]
      have r4 : w6.cell? ⟨w5.heap.size, 4, none⟩ = some (.int .u32 s) := by rw [hw6]; simp [go_sem]
      have hB6 : Below W.heap.size W w6 := by rw [hw6]; exact hB5.alloc (by omega) _
      have hz6 : w5.heap.size + 1 ≤ w6.heap.size := by rw [hw6]; simp
      clear hw6 hB5
      refine wp_region_held_drew (S := fun w' => w'.cell? ⟨W.heap.size, 0, none⟩ = some (.int .i64 v) ∧ w'.cell? ⟨W.heap.size, 1, none⟩ = some (.int .u64 m) ∧ w'.cell? ⟨W.heap.size, 2, none⟩ = some (.int .i64 p) ∧ w'.cell? ⟨W.heap.size, 3, none⟩ = some (.bool st) ∧ w'.cell? ⟨W.heap.size, 4, none⟩ = some (.int .u32 kx) ∧ w'.cell? ⟨w4.heap.size, 0, none⟩ = some (.int .i64 v) ∧ w'.cell? ⟨w4.heap.size, 1, none⟩ = some (.int .u64 m) ∧ w'.cell? ⟨w4.heap.size, 2, none⟩ = some (.int .i64 p) ∧ w'.cell? ⟨w4.heap.size, 3, none⟩ = some (.bool st) ∧ w'.cell? ⟨w4.heap.size, 4, none⟩ = some (.int .u32 s) ∧ w'.cell? ⟨w5.heap.size, 0, none⟩ = some (.int .i64 v) ∧ w'.cell? ⟨w5.heap.size, 1, none⟩ = some (.int .u64 m) ∧ w'.cell? ⟨w5.heap.size, 2, none⟩ = some (.int .i64 p) ∧ w'.cell? ⟨w5.heap.size, 3, none⟩ = some (.bool st) ∧ w'.cell? ⟨w5.heap.size, 4, none⟩ = some (.int .u32 s)) (by kernel_rfl) ?_ (fun hHeld => ?_)
      · exact ⟨x0, x1, x2, x3, x4, q0, q1, q2, q3, q4, r0, r1, r2, r3, r4⟩
      refine wpAnyH_ready (rs := [0]) (by kernel_rfl) (by simp) ?_
      refine AllReadyH.cons (o := { dst := some 47, op := Go.Op.call { callee := Go.Callee.value (Go.Operand.func 50), args := #[], argTypes := #[] }, type := 4, pos := "law.go:60", after := #[], guard := none }) rfl (fun K hK => ?_) AllReadyH.nil
      go_simp
      refine Calls.mono (told09 _) ?_
      rintro e w7 ⟨rfl, hb⟩
      have hB7 : Below W.heap.size W w7 := Below.trans (by (repeat' (first | (with_reducible exact Below.refl _ _) | (with_reducible assumption) | (with_reducible refine Below.setCell ?_ ?_ _) | (with_reducible refine Below.alloc ?_ ?_ _) | (with_reducible refine below_drewN ?_ _) | (with_reducible refine Below.drew ?_) | go_size))) (hb.mono (by go_size))
      have hz7 : w5.heap.size + 1 ≤ w7.heap.size := (by have := hb.size; (try simp at this); omega)
      refine hK.out _ _ ?_ (fun hHeld => ?_)
      · (try dsimp only)
        exact keep555B (G := w5.heap.size + 1) (by omega) (by omega) (by omega) (by assumption) (fun p hp => hb.cell (Nat.lt_of_lt_of_le hp (by go_size)))
      clear hK K
      (try simp only [Act.put, List.setIfInBounds_toArray, List.set_cons_zero, List.set_cons_succ])
      refine wpAnyH_take (i := 1) (oi := { dst := some 48, op := Go.Op.move (Go.Operand.tmp 47), type := 4, pos := "law.go:60", after := #[{ on := 0, ground := Go.Ground.data }, { on := 0, ground := Go.Ground.chain }], guard := none }) (v := ?_) rfl (by kernel_rfl) (by kernel_rfl) (by kernel_rfl) (fun _ _ _ h => h) (Or.inl ⟨by rfl, ?_⟩) (by assumption) ?_
      rotate_left
      · intro w hSw
        (try dsimp only at hSw)
        go_simp
        try with_reducible rfl
      (try simp only [Act.put, List.setIfInBounds_toArray, List.set_cons_zero, List.set_cons_succ])
      refine wpAnyH_take (i := 2) (oi := { dst := some 49, op := Go.Op.move (Go.Operand.tmp 9), type := 4, pos := "law.go:60", after := #[{ on := 1, ground := Go.Ground.guard }], guard := some (1, true) }) (v := ?_) rfl (by kernel_rfl) (by kernel_rfl) (by kernel_rfl) (fun _ _ _ h => h) (Or.inl ⟨by rfl, ?_⟩) (by assumption) ?_
      rotate_left
      · intro w hSw
        (try dsimp only at hSw)
        go_simp
        try with_reducible rfl
      (try simp only [Act.put, List.setIfInBounds_toArray, List.set_cons_zero, List.set_cons_succ])
      refine wpAnyH_take (i := 3) (oi := { dst := some 50, op := Go.Op.move (Go.Operand.tmp 11), type := 4, pos := "law.go:60", after := #[{ on := 1, ground := Go.Ground.guard }], guard := some (1, true) }) (v := ?_) rfl (by kernel_rfl) (by kernel_rfl) (by kernel_rfl) (fun _ _ _ h => h) (Or.inl ⟨by rfl, ?_⟩) (by assumption) ?_
      rotate_left
      · intro w hSw
        (try dsimp only at hSw)
        go_simp
        try with_reducible rfl
      (try simp only [Act.put, List.setIfInBounds_toArray, List.set_cons_zero, List.set_cons_succ])
      refine wpAnyH_take (i := 4) (oi := { dst := some 51, op := Go.Op.binOp Go.BinOp.eql 4 (Go.Operand.tmp 49) (Go.Operand.tmp 50) 4, type := 4, pos := "law.go:60", after := #[{ on := 2, ground := Go.Ground.data }, { on := 3, ground := Go.Ground.data }, { on := 1, ground := Go.Ground.guard }], guard := some (1, true) }) (v := ?_) rfl (by kernel_rfl) (by kernel_rfl) (by kernel_rfl) (fun _ _ _ h => h) (Or.inl ⟨by rfl, ?_⟩) (by assumption) ?_
      rotate_left
      · intro w hSw
        (try dsimp only at hSw)
        go_simp
        try with_reducible rfl
      (try simp only [Act.put, List.setIfInBounds_toArray, List.set_cons_zero, List.set_cons_succ])
      refine wpAnyH_take (i := 5) (oi := { dst := some 52, op := Go.Op.pick (Go.Operand.tmp 48) (Go.Operand.tmp 51) (Go.Operand.const (Go.Value.bool false)), type := 4, pos := "law.go:60", after := #[{ on := 1, ground := Go.Ground.data }, { on := 4, ground := Go.Ground.data }], guard := none }) (v := ?_) rfl (by kernel_rfl) (by kernel_rfl) (by kernel_rfl) (fun _ _ _ h => h) (Or.inl ⟨by rfl, ?_⟩) (by assumption) ?_
      rotate_left
      · intro w hSw
        (try dsimp only at hSw)
        go_simp
        try with_reducible rfl
      (try simp only [Act.put, List.setIfInBounds_toArray, List.set_cons_zero, List.set_cons_succ])
      refine wpAnyH_take (i := 6) (oi := { dst := some 53, op := Go.Op.move (Go.Operand.tmp 52), type := 4, pos := "law.go:60", after := #[{ on := 5, ground := Go.Ground.data }, { on := 1, ground := Go.Ground.chain }], guard := none }) (v := ?_) rfl (by kernel_rfl) (by kernel_rfl) (by kernel_rfl) (fun _ _ _ h => h) (Or.inl ⟨by rfl, ?_⟩) (by assumption) ?_
      rotate_left
      · intro w hSw
        (try dsimp only at hSw)
        go_simp
        try with_reducible rfl
      (try simp only [Act.put, List.setIfInBounds_toArray, List.set_cons_zero, List.set_cons_succ])
      refine wpAnyH_take (i := 7) (oi := { dst := some 54, op := Go.Op.load 81 (Go.Operand.tmp 8), type := 81, pos := "law.go:60", after := #[{ on := 6, ground := Go.Ground.guard }], guard := some (6, true) }) (v := ?_) rfl (by kernel_rfl) (by kernel_rfl) (by kernel_rfl) (fun _ _ _ h => h) (Or.inl ⟨by rfl, ?_⟩) (by assumption) ?_
      rotate_left
      · intro w hSw
        (try dsimp only at hSw)
        go_simp
        try with_reducible rfl
      (try simp only [Act.put, List.setIfInBounds_toArray, List.set_cons_zero, List.set_cons_succ])
      refine wpAnyH_take (i := 9) (oi := { dst := some 56, op := Go.Op.load 77 (Go.Operand.tmp 10), type := 77, pos := "law.go:60", after := #[{ on := 6, ground := Go.Ground.guard }], guard := some (6, true) }) (v := ?_) rfl (by kernel_rfl) (by kernel_rfl) (by kernel_rfl) (fun _ _ _ h => h) (Or.inl ⟨by rfl, ?_⟩) (by assumption) ?_
      rotate_left
      · intro w hSw
        (try dsimp only at hSw)
        go_simp
        try with_reducible rfl
      (try simp only [Act.put, List.setIfInBounds_toArray, List.set_cons_zero, List.set_cons_succ])
      refine wpAnyH_ready (rs := [8]) (by kernel_rfl) (by simp) ?_
      refine AllReadyH.cons (o := { dst := some 55, op := Go.Op.call { callee := Go.Callee.value (Go.Operand.func 55), args := #[Go.Operand.tmp 54], argTypes := #[81] }, type := 77, pos := "law.go:60", after := #[{ on := 7, ground := Go.Ground.data }, { on := 6, ground := Go.Ground.chain }, { on := 6, ground := Go.Ground.guard }], guard := some (6, true) }) rfl (fun K hK => ?_) AllReadyH.nil
      go_simp
      refine Calls.mono (HR.out _) ?_
      rintro e w8 ⟨rfl, hb⟩
      have hB8 : Below W.heap.size W w8 := Below.trans (by (repeat' (first | (with_reducible exact Below.refl _ _) | (with_reducible assumption) | (with_reducible refine Below.setCell ?_ ?_ _) | (with_reducible refine Below.alloc ?_ ?_ _) | (with_reducible refine below_drewN ?_ _) | (with_reducible refine Below.drew ?_) | go_size))) (hb.mono (by go_size))
      have hz8 : w5.heap.size + 1 ≤ w8.heap.size := (by have := hb.size; (try simp at this); omega)
      refine hK.out _ _ ?_ (fun hHeld => ?_)
      · (try dsimp only)
        exact keep555B (G := w5.heap.size + 1) (by omega) (by omega) (by omega) (by assumption) (fun p hp => hb.cell (Nat.lt_of_lt_of_le hp (by go_size)))
      clear hK K
      (try simp only [Act.put, List.setIfInBounds_toArray, List.set_cons_zero, List.set_cons_succ])
      refine wpAnyH_take (i := 10) (oi := { dst := some 57, op := Go.Op.binOp Go.BinOp.eql 77 (Go.Operand.tmp 55) (Go.Operand.tmp 56) 77, type := 4, pos := "law.go:60", after := #[{ on := 8, ground := Go.Ground.data }, { on := 9, ground := Go.Ground.data }, { on := 6, ground := Go.Ground.guard }], guard := some (6, true) }) (v := ?_) rfl (by kernel_rfl) (by kernel_rfl) (by kernel_rfl) (fun _ _ _ h => h) (Or.inl ⟨by rfl, ?_⟩) (by assumption) ?_
      rotate_left
      · intro w hSw
        (try dsimp only at hSw)
        go_simp
        try with_reducible rfl
      (try simp only [Act.put, List.setIfInBounds_toArray, List.set_cons_zero, List.set_cons_succ])
      refine wpAnyH_take (i := 11) (oi := { dst := some 58, op := Go.Op.pick (Go.Operand.tmp 53) (Go.Operand.tmp 57) (Go.Operand.const (Go.Value.bool false)), type := 4, pos := "law.go:60", after := #[{ on := 6, ground := Go.Ground.data }, { on := 10, ground := Go.Ground.data }], guard := none }) (v := ?_) rfl (by kernel_rfl) (by kernel_rfl) (by kernel_rfl) (fun _ _ _ h => h) (Or.inl ⟨by rfl, ?_⟩) (by assumption) ?_
      rotate_left
      · intro w hSw
        (try dsimp only at hSw)
        go_simp
        try with_reducible rfl
      (try simp only [Act.put, List.setIfInBounds_toArray, List.set_cons_zero, List.set_cons_succ])
      refine wpAnyH_take (i := 12) (oi := { dst := some 59, op := Go.Op.move (Go.Operand.tmp 58), type := 4, pos := "law.go:60", after := #[{ on := 11, ground := Go.Ground.data }, { on := 8, ground := Go.Ground.chain }], guard := none }) (v := ?_) rfl (by kernel_rfl) (by kernel_rfl) (by kernel_rfl) (fun _ _ _ h => h) (Or.inl ⟨by rfl, ?_⟩) (by assumption) ?_
      rotate_left
      · intro w hSw
        (try dsimp only at hSw)
        go_simp
        try with_reducible rfl
      (try simp only [Act.put, List.setIfInBounds_toArray, List.set_cons_zero, List.set_cons_succ])
      refine wpAnyH_take (i := 13) (oi := { dst := some 60, op := Go.Op.move (Go.Operand.tmp 9), type := 4, pos := "law.go:60", after := #[{ on := 12, ground := Go.Ground.guard }], guard := some (12, true) }) (v := ?_) rfl (by kernel_rfl) (by kernel_rfl) (by kernel_rfl) (fun _ _ _ h => h) (Or.inl ⟨by rfl, ?_⟩) (by assumption) ?_
      rotate_left
      · intro w hSw
        (try dsimp only at hSw)
        go_simp
        try with_reducible rfl
      (try simp only [Act.put, List.setIfInBounds_toArray, List.set_cons_zero, List.set_cons_succ])
      refine wpAnyH_take (i := 14) (oi := { dst := some 61, op := Go.Op.unOp Go.UnOp.not 4 (Go.Operand.tmp 60), type := 4, pos := "law.go:60", after := #[{ on := 13, ground := Go.Ground.data }, { on := 12, ground := Go.Ground.guard }], guard := some (12, true) }) (v := ?_) rfl (by kernel_rfl) (by kernel_rfl) (by kernel_rfl) (fun _ _ _ h => h) (Or.inl ⟨by rfl, ?_⟩) (by assumption) ?_
      rotate_left
      · intro w hSw
        (try dsimp only at hSw)
        go_simp
        try with_reducible rfl
      (try simp only [Act.put, List.setIfInBounds_toArray, List.set_cons_zero, List.set_cons_succ])
      refine wpAnyH_take (i := 15) (oi := { dst := some 62, op := Go.Op.move (Go.Operand.tmp 61), type := 4, pos := "law.go:60", after := #[{ on := 14, ground := Go.Ground.data }, { on := 12, ground := Go.Ground.chain }, { on := 12, ground := Go.Ground.guard }], guard := some (12, true) }) (v := ?_) rfl (by kernel_rfl) (by kernel_rfl) (by kernel_rfl) (fun _ _ _ h => h) (Or.inl ⟨by rfl, ?_⟩) (by assumption) ?_
      rotate_left
      · intro w hSw
        (try dsimp only at hSw)
        go_simp
        try with_reducible rfl
      (try simp only [Act.put, List.setIfInBounds_toArray, List.set_cons_zero, List.set_cons_succ])
      refine wpAnyH_take (i := 16) (oi := { dst := some 63, op := Go.Op.load 81 (Go.Operand.tmp 8), type := 81, pos := "law.go:60", after := #[{ on := 15, ground := Go.Ground.guard }], guard := some (15, false) }) (v := ?_) rfl (by kernel_rfl) (by kernel_rfl) (by kernel_rfl) (fun _ _ _ h => h) (Or.inl ⟨by rfl, ?_⟩) (by assumption) ?_
      rotate_left
      · intro w hSw
        (try dsimp only at hSw)
        go_simp
        try with_reducible rfl
      (try simp only [Act.put, List.setIfInBounds_toArray, List.set_cons_zero, List.set_cons_succ])
      refine wpAnyH_take (i := 18) (oi := { dst := some 65, op := Go.Op.load 77 (Go.Operand.tmp 2), type := 77, pos := "law.go:60", after := #[{ on := 15, ground := Go.Ground.guard }], guard := some (15, false) }) (v := ?_) rfl (by kernel_rfl) (by kernel_rfl) (by kernel_rfl) (fun _ _ _ h => h) (Or.inl ⟨by rfl, ?_⟩) (by assumption) ?_
      rotate_left
      · intro w hSw
        (try dsimp only at hSw)
        go_simp
        try with_reducible rfl
      (try simp only [Act.put, List.setIfInBounds_toArray, List.set_cons_zero, List.set_cons_succ])
      refine wpAnyH_ready (rs := [17]) (by kernel_rfl) (by simp) ?_
      refine AllReadyH.cons (o := { dst := some 64, op := Go.Op.call { callee := Go.Callee.value (Go.Operand.func 55), args := #[Go.Operand.tmp 63], argTypes := #[81] }, type := 77, pos := "law.go:60", after := #[{ on := 16, ground := Go.Ground.data }, { on := 15, ground := Go.Ground.chain }, { on := 15, ground := Go.Ground.guard }], guard := some (15, false) }) rfl (fun K hK => ?_) AllReadyH.nil
      go_simp
      refine Calls.mono (HR.out _) ?_
      rintro e w9 ⟨rfl, hb⟩
      have hB9 : Below W.heap.size W w9 := Below.trans (by (repeat' (first | (with_reducible exact Below.refl _ _) | (with_reducible assumption) | (with_reducible refine Below.setCell ?_ ?_ _) | (with_reducible refine Below.alloc ?_ ?_ _) | (with_reducible refine below_drewN ?_ _) | (with_reducible refine Below.drew ?_) | go_size))) (hb.mono (by go_size))
      have hz9 : w5.heap.size + 1 ≤ w9.heap.size := (by have := hb.size; (try simp at this); omega)
      refine hK.out _ _ ?_ (fun hHeld => ?_)
      · (try dsimp only)
        exact keep555B (G := w5.heap.size + 1) (by omega) (by omega) (by omega) (by assumption) (fun p hp => hb.cell (Nat.lt_of_lt_of_le hp (by go_size)))
      clear hK K
      (try simp only [Act.put, List.setIfInBounds_toArray, List.set_cons_zero, List.set_cons_succ])
      refine wpAnyH_take (i := 19) (oi := { dst := some 66, op := Go.Op.binOp Go.BinOp.neq 77 (Go.Operand.tmp 64) (Go.Operand.tmp 65) 77, type := 4, pos := "law.go:60", after := #[{ on := 17, ground := Go.Ground.data }, { on := 18, ground := Go.Ground.data }, { on := 15, ground := Go.Ground.guard }], guard := some (15, false) }) (v := ?_) rfl (by kernel_rfl) (by kernel_rfl) (by kernel_rfl) (fun _ _ _ h => h) (Or.inl ⟨by rfl, ?_⟩) (by assumption) ?_
      rotate_left
      · intro w hSw
        (try dsimp only at hSw)
        go_simp
        try with_reducible rfl
      (try simp only [Act.put, List.setIfInBounds_toArray, List.set_cons_zero, List.set_cons_succ])
      refine wpAnyH_take (i := 20) (oi := { dst := some 67, op := Go.Op.pick (Go.Operand.tmp 62) (Go.Operand.const (Go.Value.bool true)) (Go.Operand.tmp 66), type := 4, pos := "law.go:60", after := #[{ on := 15, ground := Go.Ground.data }, { on := 19, ground := Go.Ground.data }, { on := 12, ground := Go.Ground.guard }], guard := some (12, true) }) (v := ?_) rfl (by kernel_rfl) (by kernel_rfl) (by kernel_rfl) (fun _ _ _ h => h) (Or.inl ⟨by rfl, ?_⟩) (by assumption) ?_
      rotate_left
      · intro w hSw
        (try dsimp only at hSw)
        go_simp
        try with_reducible rfl
      (try simp only [Act.put, List.setIfInBounds_toArray, List.set_cons_zero, List.set_cons_succ])
      refine wpAnyH_take (i := 21) (oi := { dst := some 68, op := Go.Op.pick (Go.Operand.tmp 59) (Go.Operand.tmp 67) (Go.Operand.const (Go.Value.bool false)), type := 4, pos := "law.go:60", after := #[{ on := 12, ground := Go.Ground.data }, { on := 20, ground := Go.Ground.data }], guard := none }) (v := ?_) rfl (by kernel_rfl) (by kernel_rfl) (by kernel_rfl) (fun _ _ _ h => h) (Or.inl ⟨by rfl, ?_⟩) (by assumption) ?_
      rotate_left
      · intro w hSw
        (try dsimp only at hSw)
        go_simp
        try with_reducible rfl
      (try simp only [Act.put, List.setIfInBounds_toArray, List.set_cons_zero, List.set_cons_succ])
      refine wpAnyH_take (i := 22) (oi := { dst := some 4, op := Go.Op.assign (Go.Operand.tmp 68), type := 4, pos := "law.go:60", after := #[{ on := 21, ground := Go.Ground.data }, { on := 17, ground := Go.Ground.chain }, { on := 0, ground := Go.Ground.phase }, { on := 1, ground := Go.Ground.phase }, { on := 2, ground := Go.Ground.phase }, { on := 3, ground := Go.Ground.phase }, { on := 4, ground := Go.Ground.phase }, { on := 5, ground := Go.Ground.phase }, { on := 6, ground := Go.Ground.phase }, { on := 7, ground := Go.Ground.phase }, { on := 8, ground := Go.Ground.phase }, { on := 9, ground := Go.Ground.phase }, { on := 10, ground := Go.Ground.phase }, { on := 11, ground := Go.Ground.phase }, { on := 12, ground := Go.Ground.phase }, { on := 13, ground := Go.Ground.phase }, { on := 14, ground := Go.Ground.phase }, { on := 15, ground := Go.Ground.phase }, { on := 16, ground := Go.Ground.phase }, { on := 17, ground := Go.Ground.phase }, { on := 18, ground := Go.Ground.phase }, { on := 19, ground := Go.Ground.phase }, { on := 20, ground := Go.Ground.phase }, { on := 21, ground := Go.Ground.phase }], guard := none }) (v := ?_) rfl (by kernel_rfl) (by kernel_rfl) (by kernel_rfl) (fun _ _ _ h => h) (Or.inl ⟨by rfl, ?_⟩) (by assumption) ?_
      rotate_left
      · intro w hSw
        (try dsimp only at hSw)
        go_simp
        try with_reducible rfl
      (try simp only [Act.put, List.setIfInBounds_toArray, List.set_cons_zero, List.set_cons_succ])
      refine wpAnyH_done (by kernel_rfl) ?_ _
      all_goals
        go_wp2
        go_ret
        exact ⟨by first | (simp; done) | (simp_all; done), by assumption⟩
end Go.Proofs.Ytlkajgkcadbboaa.slotAlters
