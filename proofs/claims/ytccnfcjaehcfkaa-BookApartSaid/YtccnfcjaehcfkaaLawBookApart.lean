/-
  What is done to a key, but a Flush and an Age, changes nothing but its bucket. No condition.
-/
import Derived.Test.YtccnfcjaehcfkaaRows
import Derived.Test.YtccnfcjaehcfkaaBkO
import Derived.Test.YtccnfcjaehcfkaaBuN
import Derived.Test.YtccnfcjaehcfkaaOpenBk
import Derived.Deep.RegionHeld3
import Derived.WalkKit
import Derived.ProofKit
import Derived.OpenShut
namespace Go.Proofs.Ytccnfcjaehcfkaa.bookApart
open Go.ChangeShapes Go.WideShapes Go.ChangeAt Go.RowKit
open Go.ChangeMaps (open_string)
set_option linter.unusedVariables false

theorem own : ownKnob Try.prog.godebug = none := by kernel_rfl
theorem fix_size (x : Int) (k : Nat) (hk : 1 ≤ k) (hk2 : k ≤ 16) : ∃ S : Nat, 1 ≤ S ∧ S ≤ k ∧ wrap64 (1 + wrap64 ((IntKind.u64.wrap x).tmod (k : Int))) = (S : Int) := by
  have h1 : 0 ≤ IntKind.u64.wrap x := by rw [IntKind.wrap_u64]; omega
  rw [Int.tmod_eq_emod_of_nonneg h1]
  have a1 := Int.emod_nonneg (IntKind.u64.wrap x) (show (k : Int) ≠ 0 by omega)
  have a2 := Int.emod_lt_of_pos (IntKind.u64.wrap x) (show 0 < (k : Int) by omega)
  generalize IntKind.u64.wrap x % (k : Int) = y at *
  refine ⟨(1 + y).toNat, by omega, by omega, ?_⟩
  rw [IntWalk.wrap64_in y (by omega), IntWalk.wrap64_in _ (by omega)]
  omega
theorem port64 (x : Int) : ∃ P : Nat, P < 64 ∧ wrap64 ((IntKind.u64.wrap x).tmod 64) = (P : Int) ∧ IntKind.i64.wrap ((IntKind.u64.wrap x).tmod 64) = (P : Int) := by
  have h1 : 0 ≤ IntKind.u64.wrap x := by rw [IntKind.wrap_u64]; omega
  rw [Int.tmod_eq_emod_of_nonneg h1]
  refine ⟨(IntKind.u64.wrap x % 64).toNat, by omega, ?_, ?_⟩
  · rw [IntWalk.wrap64_in _ (by omega)]; omega
  · rw [IntWalk.i64_in _ (by omega)]; omega
set_option maxHeartbeats 1600000 in
theorem ref11_Fix (a b c : Int) (S B n : Nat) (h1 : wrap64 (1 + wrap64 ((IntKind.u64.wrap a).tmod ((8 : Nat) : Int))) = (S : Int)) (h2 : wrap64 (1 + wrap64 ((IntKind.u64.wrap b).tmod ((16 : Nat) : Int))) = (B : Int)) (h3 : wrap64 (1 + wrap64 ((IntKind.u64.wrap c).tmod ((8 : Nat) : Int))) = (n : Int)) (w : World) :
    Calls Try.prog 35 #[.agg #[.int .i64 a, .int .i64 b, .int .i64 c]] w (Says (.agg #[.int .i64 (S : Nat), .int .i64 (B : Nat), .int .i64 (n : Nat)]) w) := by
  rw [show ((8 : Nat) : Int) = 8 from rfl] at h1 h3
  rw [show ((16 : Nat) : Int) = 16 from rfl] at h2
  go_enter Try.func35, Try.ntmps35
  go_wp2
  exact bodyPost_ret (v := .agg #[.int .i64 (S : Nat), .int .i64 (B : Nat), .int .i64 (n : Nat)]) (by simp [results, Try.results35, go_sem]) rfl ⟨rfl, (by (repeat' (first | (with_reducible exact Below.refl _ _) | (with_reducible refine Below.setCell ?_ ?_ _) | (with_reducible refine Below.alloc ?_ ?_ _) | go_size)))⟩
theorem ne_word {j H : Nat} (h : ¬ j = H) : ((j : Int) != (H : Int)) = true := by simp; omega
theorem pos_word {B : Nat} (h : 1 ≤ B) : (¬ B = 0) ∧ (¬ (B : Int) = 0) ∧ ((B : Int) == 0) = false := ⟨by omega, by omega, by simp; omega⟩
theorem wrap_ok {x : Int} {y : Nat} (h : x = (y : Int)) (hy : y < 1000000) : wrap64 x = (y : Int) ∧ IntKind.i64.wrap x = (y : Int) := by
  rw [h]
  exact ⟨IntWalk.wrap64_in _ (by omega), IntWalk.i64_in _ (by omega)⟩
theorem home_parts {xa xb B H : Nat} (h : (xa : Int) * (B : Int) + (xb : Int) = (H : Int)) : (xa : Int) * (B : Int) = ((H - xb : Nat) : Int) ∧ ((H - xb : Nat) : Int) + (xb : Int) = (H : Int) := by
  have e : ((xa * B : Nat) : Int) = (xa : Int) * (B : Int) := by simp
  rw [← e] at h ⊢
  generalize xa * B = y at *
  omega

set_option maxRecDepth 20000 in
set_option maxHeartbeats 25600000 in
theorem walk (W : World) (a0 e0 c0 : Int) (a1 : Value) (b1 : Ops11 W a1) (kd2 kv2 : Int) (m2 : Nat) (p2 d2 : Int) (n2 o2 : Nat) (hm2 : m2 < 18446744073709551616) (hn2 : n2 < 4294967296) (ho2 : o2 < 4294967296) :
    Calls Try.prog 12 #[.agg #[.int .i64 a0, .int .i64 e0, .int .i64 c0], a1, .agg #[.int .i64 kd2, .int .i64 kv2, .int .u64 (m2 : Int), .int .i64 p2, .int .i64 d2, .int .u32 (n2 : Int), .int .u32 (o2 : Int)]] W (Says (.bool true) W) := by
  obtain ⟨S, hS1, hS2, hSw⟩ := fix_size a0 8 (by omega) (by omega)
  obtain ⟨B, hB1, hB2, hBw⟩ := fix_size e0 16 (by omega) (by omega)
  obtain ⟨n, hN1, hN2, hnw⟩ := fix_size c0 8 (by omega) (by omega)
  obtain ⟨P, hP, hPw, hPw3⟩ := port64 p2
  obtain ⟨A, len, cap, rfl, h1, h2, h3⟩ := b1
  have HOPS := Lib.hid h3
  unfold maxLen at h2
  have HFIX := Lib.hid fun w => ref11_Fix a0 e0 c0 S B n hSw hBw hnw w
  clear hSw hBw hnw hPw hPw3 hP
  have HTO := Lib.hid fun w => law11_To (S : Int) (B : Int) (n : Int) w
  have HNEW := Lib.hid fun w => book_New S B n ⟨hS1, hS2⟩ ⟨hB1, hB2⟩ ⟨hN1, hN2⟩ w
  have HTOLD := Lib.hid told11
  obtain ⟨K, hK⟩ : ∃ K, K = min len 100 := ⟨_, rfl⟩
  have hK1 : K ≤ len := by omega
  have hK2 : K ≤ 100 := by omega
  have HNN : Hid (∀ k, k ≤ K → ¬ k < K → (len ≤ k ∨ (k < len ∧ 100 ≤ k))) := fun k a b => by omega
  clear hK h3
  obtain ⟨K2, hK27, hk1, hk2⟩ := kind7 kd2
  have HDO2 := Lib.hid fun w D p q (g : Nat → Nat → Pl) (h : BkAt w D p q S B n g) (hD : ∀ b, D b → b < w.heap.size) (hq : D q) (hst : stG g) => book_Do h hD hq ⟨hS1, hS2⟩ ⟨hB1, hB2⟩ hN2 hst kd2 kv2 m2 hm2 p2 d2 n2 o2 hn2 K2 hK27 hk1 hk2
  have HCP := Lib.hid fun w D p q (g : Nat → Nat → Pl) (h : BkAt w D p q S B n g) => book_Copy h ⟨hS1, hS2⟩ ⟨hB1, hB2⟩ ⟨hN1, hN2⟩
  have HPL := Lib.hid fun w => ref8_Place kv2 m2 hm2 (S : Int) (B : Int) (by omega) (by omega) w
  have HBU := Lib.hid fun w D p q (g : Nat → Nat → Pl) (h : BkAt w D p q S B n g) i (hi : i < S * B) => book_Bucket h ⟨hS1, hS2⟩ ⟨hB1, hB2⟩ hN1 hN2 _ _ i hi (at_div hB1 hi).2.2
  have HFR := Lib.hid fun w u f (hr : PlRow w w.heap.size u n f) => law10_From (show n ≤ 1000000 by omega) hr (Nat.le_refl _)
  obtain ⟨M, hM⟩ : ∃ M, M = S * B := ⟨_, rfl⟩
  have hMB : M ≤ 128 := by rw [hM]; exact Nat.mul_le_mul hS2 hB2
  have hmul : (S : Int) * (B : Int) = (M : Int) := by rw [hM]; simp
  have hbd := pl_bd kv2 m2 S B
  have hhp := home_place (v := kv2) (m := m2) hS1 hB1
  have hhl := (home_in (v := kv2) (m := m2) hS1 hB1).2
  have HOT : Hid (∀ g i, K2 ≠ 5 → K2 ≠ 6 → i ≠ homeN kv2 m2 S B → (doG K2 kv2 m2 p2 d2 n2 o2 S B n g).1 i = g i) := fun g i h5 h6 hi => doG_other h5 h6 hi
  rw [← hM] at hhl
  generalize homeN kv2 m2 S B = HH at *
  generalize plS kv2 m2 S B = pa at *
  generalize plB kv2 m2 S B = pb at *
  obtain ⟨xa, rfl⟩ := Int.eq_ofNat_of_zero_le hbd.1
  obtain ⟨xb, rfl⟩ := Int.eq_ofNat_of_zero_le hbd.2.2.1
  obtain ⟨hX1, hX2⟩ := home_parts hhp
  obtain ⟨hx1, hx13⟩ := wrap_ok hX1 (Nat.lt_of_le_of_lt (Nat.sub_le _ _) (Nat.lt_of_lt_of_le hhl (Nat.le_trans hMB (by decide))))
  obtain ⟨hx2, hx23⟩ := wrap_ok hX2 (Nat.lt_of_lt_of_le hhl (Nat.le_trans hMB (by decide)))
  obtain ⟨hmw, hmw3⟩ := wrap_ok hmul (Nat.lt_of_le_of_lt hMB (by decide))
  have HM := Lib.hid hM
  clear hM hmul hbd hhp hhl hX1 hX2
  generalize HH - xb = X at *
  have HDO : Hid (∀ w D p q (g : Nat → Nat → Pl), BkAt w D p q S B n g → (∀ b, D b → b < w.heap.size) → D q → stG g → prG g → ∀ (kd kv : Int) (m : Nat) (port vid : Int) (now old : Nat), m < 18446744073709551616 → now < 4294967296 →
      Calls Try.prog 41 #[.pointer (some ⟨p, 0, none⟩), .agg #[.int .i64 kd, .int .i64 kv, .int .u64 (m : Int), .int .i64 port, .int .i64 vid, .int .u32 (now : Int), .int .u32 (old : Int)]] w fun e w' => ∃ r g', e = .returned (.int .i64 r) ∧ BkAt w' D p q S B n g' ∧ But q w w' ∧ stG g' ∧ prG g') := fun w D p q g hk hD hq hst hpr kd kv m port vid now old hm hnow => by
    obtain ⟨K, hK, k1, k2⟩ := kind7 kd
    refine (book_Do hk hD hq ⟨hS1, hS2⟩ ⟨hB1, hB2⟩ hN2 hst kd kv m hm port vid now old hnow K hK k1 k2).mono ?_
    rintro e w' ⟨he, hb, hbt⟩
    exact ⟨_, _, he, hb, hbt, doG_st K kv m port vid now old S B n g hst hnow, doG_pr K kv m port vid now old S B n g hpr⟩
  clear hm2 hn2 ho2
  go_enter Try.func12, Try.ntmps12
  go_wp2_with fail
  refine (HFIX.out _).mono ?_
  rintro e w1 ⟨rfl, hb⟩
  have s0 : w1.cell? ⟨W.heap.size, 0, none⟩ = some (.int .i64 a0) := by rw [(bcell hb).1 _ _ (by first | (simp; done) | (simp; omega))]; simp [go_sem]
  have s1 : w1.cell? ⟨W.heap.size, 1, none⟩ = some (.int .i64 e0) := by rw [(bcell hb).1 _ _ (by first | (simp; done) | (simp; omega))]; simp [go_sem]
  have s2 : w1.cell? ⟨W.heap.size, 2, none⟩ = some (.int .i64 c0) := by rw [(bcell hb).1 _ _ (by first | (simp; done) | (simp; omega))]; simp [go_sem]
  have s3 : w1.cell? ⟨W.heap.size + 1, 0, none⟩ = some (.int .i64 kd2) := by rw [(bcell hb).1 _ _ (by first | (simp; done) | (simp; omega))]; simp [go_sem]
  have s4 : w1.cell? ⟨W.heap.size + 1, 1, none⟩ = some (.int .i64 kv2) := by rw [(bcell hb).1 _ _ (by first | (simp; done) | (simp; omega))]; simp [go_sem]
  have s5 : w1.cell? ⟨W.heap.size + 1, 2, none⟩ = some (.int .u64 (m2 : Int)) := by rw [(bcell hb).1 _ _ (by first | (simp; done) | (simp; omega))]; simp [go_sem]
  have s6 : w1.cell? ⟨W.heap.size + 1, 3, none⟩ = some (.int .i64 p2) := by rw [(bcell hb).1 _ _ (by first | (simp; done) | (simp; omega))]; simp [go_sem]
  have s7 : w1.cell? ⟨W.heap.size + 1, 4, none⟩ = some (.int .i64 d2) := by rw [(bcell hb).1 _ _ (by first | (simp; done) | (simp; omega))]; simp [go_sem]
  have s8 : w1.cell? ⟨W.heap.size + 1, 5, none⟩ = some (.int .u32 (n2 : Int)) := by rw [(bcell hb).1 _ _ (by first | (simp; done) | (simp; omega))]; simp [go_sem]
  have s9 : w1.cell? ⟨W.heap.size + 1, 6, none⟩ = some (.int .u32 (o2 : Int)) := by rw [(bcell hb).1 _ _ (by first | (simp; done) | (simp; omega))]; simp [go_sem]
  have f0 : ∀ o, w1.frozen? ⟨W.heap.size, o, none⟩ = false := fun o => by rw [(bcell hb).2 _ _ (by simp; omega)]; simp [go_sem]
  have HB : Hid (Below W.heap.size W w1) := Below.trans (by (repeat' (first | (with_reducible exact Below.refl _ _) | (with_reducible assumption) | (with_reducible refine Below.setCell ?_ ?_ _) | (with_reducible refine Below.alloc ?_ ?_ _) | (with_reducible refine below_drewN ?_ _) | (with_reducible refine Below.drew ?_) | go_size))) (hb.mono (by go_size))
  have hz : W.heap.size + 2 ≤ w1.heap.size := by have := hb.size; simpa using this
  obtain ⟨w2, hw2⟩ : ∃ w', w' = ((w1.setCell ⟨W.heap.size, 0, none⟩ (.int .i64 (S : Nat))).setCell ⟨W.heap.size, 1, none⟩ (.int .i64 (B : Nat))).setCell ⟨W.heap.size, 2, none⟩ (.int .i64 (n : Nat)) := ⟨_, rfl⟩
  have t0 : w2.cell? ⟨W.heap.size, 0, none⟩ = some (.int .i64 (S : Nat)) := by rw [hw2]; simp [go_sem, s0]
  have t1 : w2.cell? ⟨W.heap.size, 1, none⟩ = some (.int .i64 (B : Nat)) := by rw [hw2]; simp [go_sem, s1]
  have t2 : w2.cell? ⟨W.heap.size, 2, none⟩ = some (.int .i64 (n : Nat)) := by rw [hw2]; simp [go_sem, s2]
  have t3 : w2.cell? ⟨W.heap.size + 1, 0, none⟩ = some (.int .i64 kd2) := by rw [hw2]; simp [go_sem, s3]
  have t4 : w2.cell? ⟨W.heap.size + 1, 1, none⟩ = some (.int .i64 kv2) := by rw [hw2]; simp [go_sem, s4]
  have t5 : w2.cell? ⟨W.heap.size + 1, 2, none⟩ = some (.int .u64 (m2 : Int)) := by rw [hw2]; simp [go_sem, s5]
  have t6 : w2.cell? ⟨W.heap.size + 1, 3, none⟩ = some (.int .i64 p2) := by rw [hw2]; simp [go_sem, s6]
  have t7 : w2.cell? ⟨W.heap.size + 1, 4, none⟩ = some (.int .i64 d2) := by rw [hw2]; simp [go_sem, s7]
  have t8 : w2.cell? ⟨W.heap.size + 1, 5, none⟩ = some (.int .u32 (n2 : Int)) := by rw [hw2]; simp [go_sem, s8]
  have t9 : w2.cell? ⟨W.heap.size + 1, 6, none⟩ = some (.int .u32 (o2 : Int)) := by rw [hw2]; simp [go_sem, s9]
  have HB2 : Hid (Below W.heap.size W w2) := by rw [hw2]; exact ((HB.out.setCell (Nat.le_refl _) _).setCell (Nat.le_refl _) _).setCell (Nat.le_refl _) _
  have hz2 : W.heap.size + 2 ≤ w2.heap.size := by rw [hw2]; simpa using hz
  clear hb HFIX
  go_wp2_with fail
  rw [← hw2]
  clear hw2 s0 s1 s2 s3 s4 s5 s6 s7 s8 s9 f0 HB hz
  have s0 := t0
  have s1 := t1
  have s2 := t2
  have s3 := t3
  have s4 := t4
  have s5 := t5
  have s6 := t6
  have s7 := t7
  have s8 := t8
  have s9 := t9
  have HB := HB2
  have hz := hz2
  clear t0 t1 t2 t3 t4 t5 t6 t7 t8 t9 HB2 hz2
  refine (HTO.out _).mono ?_
  rintro e w3 ⟨rfl, hb⟩
  have s0 := ((bcell hb).1 (W.heap.size) 0 (by omega)).trans s0
  have s1 := ((bcell hb).1 (W.heap.size) 1 (by omega)).trans s1
  have s2 := ((bcell hb).1 (W.heap.size) 2 (by omega)).trans s2
  have s3 := ((bcell hb).1 (W.heap.size + 1) 0 (by omega)).trans s3
  have s4 := ((bcell hb).1 (W.heap.size + 1) 1 (by omega)).trans s4
  have s5 := ((bcell hb).1 (W.heap.size + 1) 2 (by omega)).trans s5
  have s6 := ((bcell hb).1 (W.heap.size + 1) 3 (by omega)).trans s6
  have s7 := ((bcell hb).1 (W.heap.size + 1) 4 (by omega)).trans s7
  have s8 := ((bcell hb).1 (W.heap.size + 1) 5 (by omega)).trans s8
  have s9 := ((bcell hb).1 (W.heap.size + 1) 6 (by omega)).trans s9
  have HB := Lib.hid (HB.out.trans (hb.mono HB.out.size))
  have hz := Nat.le_trans hz hb.size
  clear hb
  go_wp2_with fail
  refine (HNEW.out _).mono ?_
  rintro e w4 ⟨p, q, rfl, hbk, hpw, hqw, hqp, hb⟩
  have s0 := ((bcell hb).1 (W.heap.size) 0 (by omega)).trans s0
  have s1 := ((bcell hb).1 (W.heap.size) 1 (by omega)).trans s1
  have s2 := ((bcell hb).1 (W.heap.size) 2 (by omega)).trans s2
  have s3 := ((bcell hb).1 (W.heap.size + 1) 0 (by omega)).trans s3
  have s4 := ((bcell hb).1 (W.heap.size + 1) 1 (by omega)).trans s4
  have s5 := ((bcell hb).1 (W.heap.size + 1) 2 (by omega)).trans s5
  have s6 := ((bcell hb).1 (W.heap.size + 1) 3 (by omega)).trans s6
  have s7 := ((bcell hb).1 (W.heap.size + 1) 4 (by omega)).trans s7
  have s8 := ((bcell hb).1 (W.heap.size + 1) 5 (by omega)).trans s8
  have s9 := ((bcell hb).1 (W.heap.size + 1) 6 (by omega)).trans s9
  have HB := Lib.hid (HB.out.trans (hb.mono HB.out.size))
  have hz := Nat.le_trans hz hb.size
  have HK0 := Lib.hid hbk
  have HPW : Hid (W.heap.size < p) := by show W.heap.size < p; omega
  have HQW : Hid (W.heap.size ≤ q) := by show W.heap.size ≤ q; omega
  have q1 : W.heap.size + 1 < q := by omega
  clear hbk hb hpw hqw
  go_wp2_with fail
  refine (HTOLD.out _).mono ?_
  rintro e w5 ⟨rfl, hb⟩
  have s0 := ((bcell hb).1 (W.heap.size) 0 (by omega)).trans s0
  have s1 := ((bcell hb).1 (W.heap.size) 1 (by omega)).trans s1
  have s2 := ((bcell hb).1 (W.heap.size) 2 (by omega)).trans s2
  have s3 := ((bcell hb).1 (W.heap.size + 1) 0 (by omega)).trans s3
  have s4 := ((bcell hb).1 (W.heap.size + 1) 1 (by omega)).trans s4
  have s5 := ((bcell hb).1 (W.heap.size + 1) 2 (by omega)).trans s5
  have s6 := ((bcell hb).1 (W.heap.size + 1) 3 (by omega)).trans s6
  have s7 := ((bcell hb).1 (W.heap.size + 1) 4 (by omega)).trans s7
  have s8 := ((bcell hb).1 (W.heap.size + 1) 5 (by omega)).trans s8
  have s9 := ((bcell hb).1 (W.heap.size + 1) 6 (by omega)).trans s9
  have HB := Lib.hid (HB.out.trans (hb.mono HB.out.size))
  have hz := Nat.le_trans hz hb.size
  have HK0 := Lib.hid (HK0.out.call hb)
  clear hb
  have HX0 : Hid (w5.cell? ⟨W.heap.size, 0, none⟩ = some (.int .i64 (S : Nat)) ∧ w5.cell? ⟨W.heap.size, 1, none⟩ = some (.int .i64 (B : Nat)) ∧ w5.cell? ⟨W.heap.size, 2, none⟩ = some (.int .i64 (n : Nat)) ∧ w5.cell? ⟨W.heap.size + 1, 0, none⟩ = some (.int .i64 kd2) ∧ w5.cell? ⟨W.heap.size + 1, 1, none⟩ = some (.int .i64 kv2) ∧ w5.cell? ⟨W.heap.size + 1, 2, none⟩ = some (.int .u64 (m2 : Int)) ∧ w5.cell? ⟨W.heap.size + 1, 3, none⟩ = some (.int .i64 p2) ∧ w5.cell? ⟨W.heap.size + 1, 4, none⟩ = some (.int .i64 d2) ∧ w5.cell? ⟨W.heap.size + 1, 5, none⟩ = some (.int .u32 (n2 : Int)) ∧ w5.cell? ⟨W.heap.size + 1, 6, none⟩ = some (.int .u32 (o2 : Int))) := ⟨s0, s1, s2, s3, s4, s5, s6, s7, s8, s9⟩
  clear s0 s1 s2 s3 s4 s5 s6 s7 s8 s9
  go_wp2
  go_loopw [9] (fun i wr => ∃ (k : Nat) (g : Nat → Nat → Pl), k ≤ K ∧ i = .int .i64 k ∧ stG g ∧ prG g ∧ Hid (BkAt wr (fun b => b ≤ p) p q S B n g) ∧ W.heap.size + 1 < wr.heap.size ∧ Hid (wr.cell? ⟨W.heap.size, 0, none⟩ = some (.int .i64 (S : Nat)) ∧ wr.cell? ⟨W.heap.size, 1, none⟩ = some (.int .i64 (B : Nat)) ∧ wr.cell? ⟨W.heap.size, 2, none⟩ = some (.int .i64 (n : Nat)) ∧ wr.cell? ⟨W.heap.size + 1, 0, none⟩ = some (.int .i64 kd2) ∧ wr.cell? ⟨W.heap.size + 1, 1, none⟩ = some (.int .i64 kv2) ∧ wr.cell? ⟨W.heap.size + 1, 2, none⟩ = some (.int .u64 (m2 : Int)) ∧ wr.cell? ⟨W.heap.size + 1, 3, none⟩ = some (.int .i64 p2) ∧ wr.cell? ⟨W.heap.size + 1, 4, none⟩ = some (.int .i64 d2) ∧ wr.cell? ⟨W.heap.size + 1, 5, none⟩ = some (.int .u32 (n2 : Int)) ∧ wr.cell? ⟨W.heap.size + 1, 6, none⟩ = some (.int .u32 (o2 : Int))) ∧ Hid (Below W.heap.size W wr)) (fun i _ => K - (intOf i).toNat)
  case atStart => exact ⟨0, _, by omega, rfl, fun _ _ => (by show (0 : Nat) < 4294967296; omega), fun _ _ hu => absurd hu (by decide), HK0, by omega, HX0, HB⟩
  case round =>
    obtain ⟨k, g, hk, rfl, hst, hpr, HK, hzx, HX, HB⟩ := hrel
    obtain ⟨x0, x1, x2, x3, x4, x5, x6, x7, x8, x9⟩ := HX.out
    by_cases hlt : k < K
    · obtain ⟨b, off, rfl, hb0, hcell⟩ := HOPS.out (by omega)
      obtain ⟨kd, kv, m, port, vid, now, old, hm, hnow, hold, e0', e1', e2', e3', e4', e5', e6'⟩ := hcell k (by omega)
      have g0 : (0 : Int) ≤ (k : Int) := Int.natCast_nonneg _
      have g1 : (k : Int) < (len : Int) := by omega
      have g2 : (k : Int) < 100 := by omega
      have z0 : wr.cell? ⟨b, off + k * 7, none⟩ = some (.int .i64 kd) := (HB.out.cell (p := ⟨b, _, none⟩) (by show b < _; omega)).trans e0'
      have z1 : wr.cell? ⟨b, off + k * 7 + 1, none⟩ = some (.int .i64 kv) := (HB.out.cell (p := ⟨b, _, none⟩) (by show b < _; omega)).trans e1'
      have z2 : wr.cell? ⟨b, off + k * 7 + 2, none⟩ = some (.int .u64 (m : Int)) := (HB.out.cell (p := ⟨b, _, none⟩) (by show b < _; omega)).trans e2'
      have z3 : wr.cell? ⟨b, off + k * 7 + 3, none⟩ = some (.int .i64 port) := (HB.out.cell (p := ⟨b, _, none⟩) (by show b < _; omega)).trans e3'
      have z4 : wr.cell? ⟨b, off + k * 7 + 4, none⟩ = some (.int .i64 vid) := (HB.out.cell (p := ⟨b, _, none⟩) (by show b < _; omega)).trans e4'
      have z5 : wr.cell? ⟨b, off + k * 7 + 5, none⟩ = some (.int .u32 (now : Int)) := (HB.out.cell (p := ⟨b, _, none⟩) (by show b < _; omega)).trans e5'
      have z6 : wr.cell? ⟨b, off + k * 7 + 6, none⟩ = some (.int .u32 (old : Int)) := (HB.out.cell (p := ⟨b, _, none⟩) (by show b < _; omega)).trans e6'
      have hpz : p < wr.heap.size := HK.out.1
      clear e0' e1' e2' e3' e4' e5' e6' hcell
      have HD1 := Lib.hid (HDO.out wr _ p q g HK.out (fun b hb => by show b < _; have : b ≤ p := hb; omega) (by show q ≤ p; omega) hst hpr kd kv m port vid now old hm hnow)
      clear HDO HOPS hm hnow hold
      go_wp2_with fail
      refine (HD1.out).mono ?_
      rintro e w6 ⟨r, g', rfl, hk6, hbt, hst', hpr'⟩
      have HK6 := Lib.hid hk6
      have hzz := hbt.below.size
      have HB6 := Lib.hid (HB.out.trans (hbt.below.mono HQW.out))
      have y0 := (hbt.cell (p := ⟨W.heap.size, 0, none⟩) (by show W.heap.size < _; omega) (show W.heap.size ≠ q by omega)).trans x0
      have y1 := (hbt.cell (p := ⟨W.heap.size, 1, none⟩) (by show W.heap.size < _; omega) (show W.heap.size ≠ q by omega)).trans x1
      have y2 := (hbt.cell (p := ⟨W.heap.size, 2, none⟩) (by show W.heap.size < _; omega) (show W.heap.size ≠ q by omega)).trans x2
      have y3 := (hbt.cell (p := ⟨W.heap.size + 1, 0, none⟩) (by show W.heap.size + 1 < _; omega) (show W.heap.size + 1 ≠ q by omega)).trans x3
      have y4 := (hbt.cell (p := ⟨W.heap.size + 1, 1, none⟩) (by show W.heap.size + 1 < _; omega) (show W.heap.size + 1 ≠ q by omega)).trans x4
      have y5 := (hbt.cell (p := ⟨W.heap.size + 1, 2, none⟩) (by show W.heap.size + 1 < _; omega) (show W.heap.size + 1 ≠ q by omega)).trans x5
      have y6 := (hbt.cell (p := ⟨W.heap.size + 1, 3, none⟩) (by show W.heap.size + 1 < _; omega) (show W.heap.size + 1 ≠ q by omega)).trans x6
      have y7 := (hbt.cell (p := ⟨W.heap.size + 1, 4, none⟩) (by show W.heap.size + 1 < _; omega) (show W.heap.size + 1 ≠ q by omega)).trans x7
      have y8 := (hbt.cell (p := ⟨W.heap.size + 1, 5, none⟩) (by show W.heap.size + 1 < _; omega) (show W.heap.size + 1 ≠ q by omega)).trans x8
      have y9 := (hbt.cell (p := ⟨W.heap.size + 1, 6, none⟩) (by show W.heap.size + 1 < _; omega) (show W.heap.size + 1 ≠ q by omega)).trans x9
      have HX6 : Hid (w6.cell? ⟨W.heap.size, 0, none⟩ = some (.int .i64 (S : Nat)) ∧ w6.cell? ⟨W.heap.size, 1, none⟩ = some (.int .i64 (B : Nat)) ∧ w6.cell? ⟨W.heap.size, 2, none⟩ = some (.int .i64 (n : Nat)) ∧ w6.cell? ⟨W.heap.size + 1, 0, none⟩ = some (.int .i64 kd2) ∧ w6.cell? ⟨W.heap.size + 1, 1, none⟩ = some (.int .i64 kv2) ∧ w6.cell? ⟨W.heap.size + 1, 2, none⟩ = some (.int .u64 (m2 : Int)) ∧ w6.cell? ⟨W.heap.size + 1, 3, none⟩ = some (.int .i64 p2) ∧ w6.cell? ⟨W.heap.size + 1, 4, none⟩ = some (.int .i64 d2) ∧ w6.cell? ⟨W.heap.size + 1, 5, none⟩ = some (.int .u32 (n2 : Int)) ∧ w6.cell? ⟨W.heap.size + 1, 6, none⟩ = some (.int .u32 (o2 : Int))) := ⟨y0, y1, y2, y3, y4, y5, y6, y7, y8, y9⟩
      clear hk6 hbt y0 y1 y2 y3 y4 y5 y6 y7 y8 y9 HD1
      go_wp2
      go_roundw
      case rel => exact ⟨k + 1, g', by omega, by go_num, hst', hpr', HK6, by omega, HX6, HB6⟩
      case measure => simp [intOf]; omega
    · have hfin := HNN.out k hk hlt
      clear HX HDO HOPS HNN
      rcases hfin with hfin | ⟨hfin0, hfin⟩
      · have hf : ¬ (k : Int) < (len : Int) := by omega
        go_wp2_with fail
        refine (HCP.out _ _ _ _ _ HK.out).mono ?_
        rintro e v1 ⟨pp, qq, rfl, hkc, hq1', hqp2, hb⟩
        have HKB := Lib.hid (HK.out.call hb)
        have HKC := Lib.hid hkc
        have HB1 := Lib.hid (HB.out.trans (hb.mono HB.out.size))
        have x0 := (hb.cell (p := ⟨W.heap.size, 0, none⟩) (by show W.heap.size < _; omega)).trans x0
        have x1 := (hb.cell (p := ⟨W.heap.size, 1, none⟩) (by show W.heap.size < _; omega)).trans x1
        have x2 := (hb.cell (p := ⟨W.heap.size, 2, none⟩) (by show W.heap.size < _; omega)).trans x2
        have x3 := (hb.cell (p := ⟨W.heap.size + 1, 0, none⟩) (by show W.heap.size + 1 < _; omega)).trans x3
        have x4 := (hb.cell (p := ⟨W.heap.size + 1, 1, none⟩) (by show W.heap.size + 1 < _; omega)).trans x4
        have x5 := (hb.cell (p := ⟨W.heap.size + 1, 2, none⟩) (by show W.heap.size + 1 < _; omega)).trans x5
        have x6 := (hb.cell (p := ⟨W.heap.size + 1, 3, none⟩) (by show W.heap.size + 1 < _; omega)).trans x6
        have x7 := (hb.cell (p := ⟨W.heap.size + 1, 4, none⟩) (by show W.heap.size + 1 < _; omega)).trans x7
        have x8 := (hb.cell (p := ⟨W.heap.size + 1, 5, none⟩) (by show W.heap.size + 1 < _; omega)).trans x8
        have x9 := (hb.cell (p := ⟨W.heap.size + 1, 6, none⟩) (by show W.heap.size + 1 < _; omega)).trans x9
        have hzx := Nat.lt_of_lt_of_le hzx hb.size
        have hpb : p < wr.heap.size := HK.out.1
        have hqb : q < wr.heap.size := HK.out.2.1
        clear hb HK HB hkc HCP
        rcases (show K2 = 5 ∨ K2 = 6 ∨ (K2 ≠ 5 ∧ K2 ≠ 6) by omega) with rfl | rfl | ⟨n5, n6⟩
        · rw [show ((5 : Nat) : Int) = 5 from rfl] at hk1 hk2
          go_wp2
          go_ret
          exact ⟨by first | rfl | (simp; done), HB1.out⟩
        · rw [show ((6 : Nat) : Int) = 6 from rfl] at hk1 hk2
          go_wp2
          go_ret
          exact ⟨by first | rfl | (simp; done), HB1.out⟩
        · have b5 : ((K2 : Int) == 5) = false := by simp; omega
          have b6 : ((K2 : Int) == 6) = false := by simp; omega
          have hp1 : p < v1.heap.size := HKB.out.1
          go_wp2_with fail
          refine (HDO2.out _ _ _ _ _ HKB.out (fun b hb => by show b < _; have : b ≤ p := hb; omega) (by show q ≤ p; omega) hst).mono ?_
          rintro e v2 ⟨rfl, hk2', hbt⟩
          have HKD := Lib.hid hk2'
          have HKE := Lib.hid (HKC.out.but hbt (by omega) (by omega) (by show q ≤ pp; omega))
          have HB2 := Lib.hid (HB1.out.trans (hbt.below.mono HQW.out))
          have x0 := (hbt.cell (p := ⟨W.heap.size, 0, none⟩) (by show W.heap.size < _; omega) (show W.heap.size ≠ q by omega)).trans x0
          have x1 := (hbt.cell (p := ⟨W.heap.size, 1, none⟩) (by show W.heap.size < _; omega) (show W.heap.size ≠ q by omega)).trans x1
          have x2 := (hbt.cell (p := ⟨W.heap.size, 2, none⟩) (by show W.heap.size < _; omega) (show W.heap.size ≠ q by omega)).trans x2
          have x3 := (hbt.cell (p := ⟨W.heap.size + 1, 0, none⟩) (by show W.heap.size + 1 < _; omega) (show W.heap.size + 1 ≠ q by omega)).trans x3
          have x4 := (hbt.cell (p := ⟨W.heap.size + 1, 1, none⟩) (by show W.heap.size + 1 < _; omega) (show W.heap.size + 1 ≠ q by omega)).trans x4
          have x5 := (hbt.cell (p := ⟨W.heap.size + 1, 2, none⟩) (by show W.heap.size + 1 < _; omega) (show W.heap.size + 1 ≠ q by omega)).trans x5
          have x6 := (hbt.cell (p := ⟨W.heap.size + 1, 3, none⟩) (by show W.heap.size + 1 < _; omega) (show W.heap.size + 1 ≠ q by omega)).trans x6
          have x7 := (hbt.cell (p := ⟨W.heap.size + 1, 4, none⟩) (by show W.heap.size + 1 < _; omega) (show W.heap.size + 1 ≠ q by omega)).trans x7
          have x8 := (hbt.cell (p := ⟨W.heap.size + 1, 5, none⟩) (by show W.heap.size + 1 < _; omega) (show W.heap.size + 1 ≠ q by omega)).trans x8
          have x9 := (hbt.cell (p := ⟨W.heap.size + 1, 6, none⟩) (by show W.heap.size + 1 < _; omega) (show W.heap.size + 1 ≠ q by omega)).trans x9
          have hzx := Nat.lt_of_lt_of_le hzx hbt.below.size
          have HOTG : Hid (∀ i, i ≠ HH → (doG K2 kv2 m2 p2 d2 n2 o2 S B n g).1 i = g i) := fun i hi => HOT.out g i n5 n6 hi
          clear hk2' hbt HKB HKC HB1 HDO2 HOT hst hpr hk1 hk2
          generalize (doG K2 kv2 m2 p2 d2 n2 o2 S B n g).2 = ans at *
          generalize (doG K2 kv2 m2 p2 d2 n2 o2 S B n g).1 = gg at *
          go_wp2_with fail
          refine (HPL.out _).mono ?_
          rintro e v3 ⟨rfl, hb⟩
          have HKF := Lib.hid (HKD.out.call hb)
          have HKG := Lib.hid (HKE.out.call hb)
          have HB3 := Lib.hid (HB2.out.trans (hb.mono HB2.out.size))
          have x0 := (hb.cell (p := ⟨W.heap.size, 0, none⟩) (by show W.heap.size < _; omega)).trans x0
          have x1 := (hb.cell (p := ⟨W.heap.size, 1, none⟩) (by show W.heap.size < _; omega)).trans x1
          have x2 := (hb.cell (p := ⟨W.heap.size, 2, none⟩) (by show W.heap.size < _; omega)).trans x2
          have x3 := (hb.cell (p := ⟨W.heap.size + 1, 0, none⟩) (by show W.heap.size + 1 < _; omega)).trans x3
          have x4 := (hb.cell (p := ⟨W.heap.size + 1, 1, none⟩) (by show W.heap.size + 1 < _; omega)).trans x4
          have x5 := (hb.cell (p := ⟨W.heap.size + 1, 2, none⟩) (by show W.heap.size + 1 < _; omega)).trans x5
          have x6 := (hb.cell (p := ⟨W.heap.size + 1, 3, none⟩) (by show W.heap.size + 1 < _; omega)).trans x6
          have x7 := (hb.cell (p := ⟨W.heap.size + 1, 4, none⟩) (by show W.heap.size + 1 < _; omega)).trans x7
          have x8 := (hb.cell (p := ⟨W.heap.size + 1, 5, none⟩) (by show W.heap.size + 1 < _; omega)).trans x8
          have x9 := (hb.cell (p := ⟨W.heap.size + 1, 6, none⟩) (by show W.heap.size + 1 < _; omega)).trans x9
          have hzx3 := Nat.lt_of_lt_of_le hzx hb.size
          clear hb HKD HKE HB2 hzx HPL x2 x3 x4 x5 x6 x7 x8 x9
          have HX3 : Hid (v3.cell? ⟨W.heap.size, 0, none⟩ = some (.int .i64 (S : Nat)) ∧ v3.cell? ⟨W.heap.size, 1, none⟩ = some (.int .i64 (B : Nat))) := ⟨x0, x1⟩
          clear x0 x1
          go_wp2
          go_loopw [14] (fun i wq => ∃ j : Nat, j ≤ M ∧ i = .int .i64 j ∧ Hid (BkAt wq (fun b => b ≤ p) p q S B n gg) ∧ Hid (BkAt wq (fun b => b ≤ pp) pp qq S B n g) ∧ W.heap.size + 1 < wq.heap.size ∧ Hid (wq.cell? ⟨W.heap.size, 0, none⟩ = some (.int .i64 (S : Nat)) ∧ wq.cell? ⟨W.heap.size, 1, none⟩ = some (.int .i64 (B : Nat))) ∧ Hid (Below W.heap.size W wq)) (fun i _ => M - (intOf i).toNat)
          case atStart => exact ⟨0, by omega, rfl, HKF, HKG, hzx3, HX3, HB3⟩
          case round =>
            obtain ⟨j, hj, rfl, HK1, HK2', hz, HXX, HBB⟩ := hrel
            obtain ⟨x0, x1⟩ := HXX.out
            by_cases hjm : j < M
            · have j0 : (0 : Int) ≤ (j : Int) := Int.natCast_nonneg _
              have j1 : (j : Int) < (M : Int) := by omega
              by_cases hjh : j = HH
              · have hne : ((j : Int) != (HH : Int)) = false := by simp [hjh]
                clear hjh
                go_wp2_with fail
                refine wp_region_held_drew (S := fun w' => w'.cell? ⟨W.heap.size, 1, none⟩ = some (.int .i64 (B : Nat))) (by kernel_rfl) ?_ (fun hHeld => ?_)
                · exact x1
                refine wpAnyH_take (i := 0) (oi := { dst := some 90, op := Go.Op.move (Go.Operand.tmp 14), type := 3, pos := "law.go:180", after := #[], guard := none }) (v := ?_) rfl (by kernel_rfl) (by kernel_rfl) (by kernel_rfl) (fun _ _ _ h => h) (Or.inl ⟨by rfl, ?_⟩) (by assumption) ?_
                rotate_left
                · intro w hSw
                  (try dsimp only at hSw)
                  go_simp
                  try with_reducible rfl
                (try simp only [Act.put, List.setIfInBounds_toArray, List.set_cons_zero, List.set_cons_succ])
                refine wpAnyH_take (i := 1) (oi := { dst := some 91, op := Go.Op.move (Go.Operand.tmp 12), type := 3, pos := "law.go:180", after := #[], guard := none }) (v := ?_) rfl (by kernel_rfl) (by kernel_rfl) (by kernel_rfl) (fun _ _ _ h => h) (Or.inl ⟨by rfl, ?_⟩) (by assumption) ?_
                rotate_left
                · intro w hSw
                  (try dsimp only at hSw)
                  go_simp
                  try with_reducible rfl
                (try simp only [Act.put, List.setIfInBounds_toArray, List.set_cons_zero, List.set_cons_succ])
                refine wpAnyH_take (i := 2) (oi := { dst := some 92, op := Go.Op.fieldAddr 79 (Go.Operand.tmp 3) 1, type := 0, pos := "law.go:180", after := #[], guard := none }) (v := ?_) rfl (by kernel_rfl) (by kernel_rfl) (by kernel_rfl) (fun _ _ _ h => h) (Or.inl ⟨by rfl, ?_⟩) (by assumption) ?_
                rotate_left
                · intro w hSw
                  (try dsimp only at hSw)
                  go_simp
                  try with_reducible rfl
                (try simp only [Act.put, List.setIfInBounds_toArray, List.set_cons_zero, List.set_cons_succ])
                refine wpAnyH_take (i := 3) (oi := { dst := some 93, op := Go.Op.load 3 (Go.Operand.tmp 92), type := 3, pos := "law.go:180", after := #[{ on := 2, ground := Go.Ground.data }], guard := none }) (v := ?_) rfl (by kernel_rfl) (by kernel_rfl) (by kernel_rfl) (fun _ _ _ h => h) (Or.inl ⟨by rfl, ?_⟩) (by assumption) ?_
                rotate_left
                · intro w hSw
                  (try dsimp only at hSw)
                  go_simp
                  try with_reducible rfl
                (try simp only [Act.put, List.setIfInBounds_toArray, List.set_cons_zero, List.set_cons_succ])
                refine wpAnyH_take (i := 4) (oi := { dst := some 94, op := Go.Op.binOp Go.BinOp.mul 3 (Go.Operand.tmp 91) (Go.Operand.tmp 93) 3, type := 3, pos := "law.go:180", after := #[{ on := 1, ground := Go.Ground.data }, { on := 3, ground := Go.Ground.data }], guard := none }) (v := ?_) rfl (by kernel_rfl) (by kernel_rfl) (by kernel_rfl) (fun _ _ _ h => h) (Or.inl ⟨by rfl, ?_⟩) (by assumption) ?_
                rotate_left
                · intro w hSw
                  (try dsimp only at hSw)
                  go_simp
                  try with_reducible rfl
                (try simp only [Act.put, List.setIfInBounds_toArray, List.set_cons_zero, List.set_cons_succ])
                refine wpAnyH_take (i := 5) (oi := { dst := some 95, op := Go.Op.move (Go.Operand.tmp 13), type := 3, pos := "law.go:180", after := #[], guard := none }) (v := ?_) rfl (by kernel_rfl) (by kernel_rfl) (by kernel_rfl) (fun _ _ _ h => h) (Or.inl ⟨by rfl, ?_⟩) (by assumption) ?_
                rotate_left
                · intro w hSw
                  (try dsimp only at hSw)
                  go_simp
                  try with_reducible rfl
                (try simp only [Act.put, List.setIfInBounds_toArray, List.set_cons_zero, List.set_cons_succ])
                refine wpAnyH_take (i := 6) (oi := { dst := some 96, op := Go.Op.binOp Go.BinOp.add 3 (Go.Operand.tmp 94) (Go.Operand.tmp 95) 3, type := 3, pos := "law.go:180", after := #[{ on := 4, ground := Go.Ground.data }, { on := 5, ground := Go.Ground.data }], guard := none }) (v := ?_) rfl (by kernel_rfl) (by kernel_rfl) (by kernel_rfl) (fun _ _ _ h => h) (Or.inl ⟨by rfl, ?_⟩) (by assumption) ?_
                rotate_left
                · intro w hSw
                  (try dsimp only at hSw)
                  go_simp
                  try with_reducible rfl
                (try simp only [Act.put, List.setIfInBounds_toArray, List.set_cons_zero, List.set_cons_succ])
                refine wpAnyH_take (i := 7) (oi := { dst := some 97, op := Go.Op.binOp Go.BinOp.neq 3 (Go.Operand.tmp 90) (Go.Operand.tmp 96) 3, type := 4, pos := "law.go:180", after := #[{ on := 0, ground := Go.Ground.data }, { on := 6, ground := Go.Ground.data }], guard := none }) (v := ?_) rfl (by kernel_rfl) (by kernel_rfl) (by kernel_rfl) (fun _ _ _ h => h) (Or.inl ⟨by rfl, ?_⟩) (by assumption) ?_
                rotate_left
                · intro w hSw
                  (try dsimp only at hSw)
                  go_simp
                  try with_reducible rfl
                (try simp only [Act.put, List.setIfInBounds_toArray, List.set_cons_zero, List.set_cons_succ])
                refine wpAnyH_take (i := 8) (oi := { dst := some 98, op := Go.Op.move (Go.Operand.tmp 97), type := 4, pos := "law.go:180", after := #[{ on := 7, ground := Go.Ground.data }], guard := none }) (v := ?_) rfl (by kernel_rfl) (by kernel_rfl) (by kernel_rfl) (fun _ _ _ h => h) (Or.inl ⟨by rfl, ?_⟩) (by assumption) ?_
                rotate_left
                · intro w hSw
                  (try dsimp only at hSw)
                  go_simp
                  try with_reducible rfl
                (try simp only [Act.put, List.setIfInBounds_toArray, List.set_cons_zero, List.set_cons_succ])
                refine wpAnyH_take (i := 9) (oi := { dst := some 99, op := Go.Op.move (Go.Operand.tmp 7), type := 82, pos := "law.go:180", after := #[{ on := 8, ground := Go.Ground.guard }], guard := some (8, true) }) (v := undef) rfl (by kernel_rfl) (by kernel_rfl) (by kernel_rfl) (fun _ _ _ h => h) (Or.inr ⟨by rfl, rfl⟩) (by assumption) ?_
                (try simp only [Act.put, List.setIfInBounds_toArray, List.set_cons_zero, List.set_cons_succ])
                refine wpAnyH_take (i := 10) (oi := { dst := some 100, op := Go.Op.move (Go.Operand.tmp 14), type := 3, pos := "law.go:180", after := #[{ on := 8, ground := Go.Ground.guard }], guard := some (8, true) }) (v := undef) rfl (by kernel_rfl) (by kernel_rfl) (by kernel_rfl) (fun _ _ _ h => h) (Or.inr ⟨by rfl, rfl⟩) (by assumption) ?_
                (try simp only [Act.put, List.setIfInBounds_toArray, List.set_cons_zero, List.set_cons_succ])
                refine wpAnyH_take (i := 11) (oi := { dst := some 101, op := Go.Op.fieldAddr 79 (Go.Operand.tmp 3) 1, type := 0, pos := "law.go:180", after := #[{ on := 8, ground := Go.Ground.guard }], guard := some (8, true) }) (v := undef) rfl (by kernel_rfl) (by kernel_rfl) (by kernel_rfl) (fun _ _ _ h => h) (Or.inr ⟨by rfl, rfl⟩) (by assumption) ?_
                (try simp only [Act.put, List.setIfInBounds_toArray, List.set_cons_zero, List.set_cons_succ])
                refine wpAnyH_take (i := 12) (oi := { dst := some 102, op := Go.Op.load 3 (Go.Operand.tmp 101), type := 3, pos := "law.go:180", after := #[{ on := 11, ground := Go.Ground.data }, { on := 8, ground := Go.Ground.guard }], guard := some (8, true) }) (v := undef) rfl (by kernel_rfl) (by kernel_rfl) (by kernel_rfl) (fun _ _ _ h => h) (Or.inr ⟨by rfl, rfl⟩) (by assumption) ?_
                (try simp only [Act.put, List.setIfInBounds_toArray, List.set_cons_zero, List.set_cons_succ])
                refine wpAnyH_take (i := 13) (oi := { dst := some 103, op := Go.Op.binOp Go.BinOp.quo 3 (Go.Operand.tmp 100) (Go.Operand.tmp 102) 3, type := 3, pos := "law.go:180", after := #[{ on := 10, ground := Go.Ground.data }, { on := 12, ground := Go.Ground.data }, { on := 8, ground := Go.Ground.guard }], guard := some (8, true) }) (v := undef) rfl (by kernel_rfl) (by kernel_rfl) (by kernel_rfl) (fun _ _ _ h => h) (Or.inr ⟨by rfl, rfl⟩) (by assumption) ?_
                (try simp only [Act.put, List.setIfInBounds_toArray, List.set_cons_zero, List.set_cons_succ])
                refine wpAnyH_take (i := 14) (oi := { dst := some 104, op := Go.Op.move (Go.Operand.tmp 14), type := 3, pos := "law.go:180", after := #[{ on := 8, ground := Go.Ground.guard }], guard := some (8, true) }) (v := undef) rfl (by kernel_rfl) (by kernel_rfl) (by kernel_rfl) (fun _ _ _ h => h) (Or.inr ⟨by rfl, rfl⟩) (by assumption) ?_
                (try simp only [Act.put, List.setIfInBounds_toArray, List.set_cons_zero, List.set_cons_succ])
                refine wpAnyH_take (i := 15) (oi := { dst := some 105, op := Go.Op.fieldAddr 79 (Go.Operand.tmp 3) 1, type := 0, pos := "law.go:180", after := #[{ on := 8, ground := Go.Ground.guard }], guard := some (8, true) }) (v := undef) rfl (by kernel_rfl) (by kernel_rfl) (by kernel_rfl) (fun _ _ _ h => h) (Or.inr ⟨by rfl, rfl⟩) (by assumption) ?_
                (try simp only [Act.put, List.setIfInBounds_toArray, List.set_cons_zero, List.set_cons_succ])
                refine wpAnyH_take (i := 16) (oi := { dst := some 106, op := Go.Op.load 3 (Go.Operand.tmp 105), type := 3, pos := "law.go:180", after := #[{ on := 15, ground := Go.Ground.data }, { on := 8, ground := Go.Ground.guard }], guard := some (8, true) }) (v := undef) rfl (by kernel_rfl) (by kernel_rfl) (by kernel_rfl) (fun _ _ _ h => h) (Or.inr ⟨by rfl, rfl⟩) (by assumption) ?_
                (try simp only [Act.put, List.setIfInBounds_toArray, List.set_cons_zero, List.set_cons_succ])
                refine wpAnyH_take (i := 17) (oi := { dst := some 107, op := Go.Op.binOp Go.BinOp.rem 3 (Go.Operand.tmp 104) (Go.Operand.tmp 106) 3, type := 3, pos := "law.go:180", after := #[{ on := 14, ground := Go.Ground.data }, { on := 16, ground := Go.Ground.data }, { on := 8, ground := Go.Ground.guard }], guard := some (8, true) }) (v := undef) rfl (by kernel_rfl) (by kernel_rfl) (by kernel_rfl) (fun _ _ _ h => h) (Or.inr ⟨by rfl, rfl⟩) (by assumption) ?_
                (try simp only [Act.put, List.setIfInBounds_toArray, List.set_cons_zero, List.set_cons_succ])
                refine wpAnyH_take (i := 18) (oi := { dst := some 108, op := Go.Op.call { callee := Go.Callee.value (Go.Operand.func 43), args := #[Go.Operand.tmp 99, Go.Operand.tmp 103, Go.Operand.tmp 107], argTypes := #[82, 3, 3] }, type := 30, pos := "law.go:180", after := #[{ on := 9, ground := Go.Ground.data }, { on := 13, ground := Go.Ground.data }, { on := 17, ground := Go.Ground.data }, { on := 8, ground := Go.Ground.chain }, { on := 8, ground := Go.Ground.guard }], guard := some (8, true) }) (v := undef) rfl (by kernel_rfl) (by kernel_rfl) (by kernel_rfl) (fun _ _ _ h => h) (Or.inr ⟨by rfl, rfl⟩) (by assumption) ?_
                (try simp only [Act.put, List.setIfInBounds_toArray, List.set_cons_zero, List.set_cons_succ])
                refine wpAnyH_take (i := 19) (oi := { dst := some 109, op := Go.Op.call { callee := Go.Callee.value (Go.Operand.func 21), args := #[Go.Operand.tmp 108], argTypes := #[30] }, type := 22, pos := "law.go:180", after := #[{ on := 18, ground := Go.Ground.data }, { on := 18, ground := Go.Ground.chain }, { on := 8, ground := Go.Ground.guard }], guard := some (8, true) }) (v := undef) rfl (by kernel_rfl) (by kernel_rfl) (by kernel_rfl) (fun _ _ _ h => h) (Or.inr ⟨by rfl, rfl⟩) (by assumption) ?_
                (try simp only [Act.put, List.setIfInBounds_toArray, List.set_cons_zero, List.set_cons_succ])
                refine wpAnyH_take (i := 20) (oi := { dst := some 110, op := Go.Op.move (Go.Operand.tmp 10), type := 82, pos := "law.go:180", after := #[{ on := 8, ground := Go.Ground.guard }], guard := some (8, true) }) (v := undef) rfl (by kernel_rfl) (by kernel_rfl) (by kernel_rfl) (fun _ _ _ h => h) (Or.inr ⟨by rfl, rfl⟩) (by assumption) ?_
                (try simp only [Act.put, List.setIfInBounds_toArray, List.set_cons_zero, List.set_cons_succ])
                refine wpAnyH_take (i := 21) (oi := { dst := some 111, op := Go.Op.move (Go.Operand.tmp 14), type := 3, pos := "law.go:180", after := #[{ on := 8, ground := Go.Ground.guard }], guard := some (8, true) }) (v := undef) rfl (by kernel_rfl) (by kernel_rfl) (by kernel_rfl) (fun _ _ _ h => h) (Or.inr ⟨by rfl, rfl⟩) (by assumption) ?_
                (try simp only [Act.put, List.setIfInBounds_toArray, List.set_cons_zero, List.set_cons_succ])
                refine wpAnyH_take (i := 22) (oi := { dst := some 112, op := Go.Op.fieldAddr 79 (Go.Operand.tmp 3) 1, type := 0, pos := "law.go:180", after := #[{ on := 8, ground := Go.Ground.guard }], guard := some (8, true) }) (v := undef) rfl (by kernel_rfl) (by kernel_rfl) (by kernel_rfl) (fun _ _ _ h => h) (Or.inr ⟨by rfl, rfl⟩) (by assumption) ?_
                (try simp only [Act.put, List.setIfInBounds_toArray, List.set_cons_zero, List.set_cons_succ])
                refine wpAnyH_take (i := 23) (oi := { dst := some 113, op := Go.Op.load 3 (Go.Operand.tmp 112), type := 3, pos := "law.go:180", after := #[{ on := 22, ground := Go.Ground.data }, { on := 8, ground := Go.Ground.guard }], guard := some (8, true) }) (v := undef) rfl (by kernel_rfl) (by kernel_rfl) (by kernel_rfl) (fun _ _ _ h => h) (Or.inr ⟨by rfl, rfl⟩) (by assumption) ?_
                (try simp only [Act.put, List.setIfInBounds_toArray, List.set_cons_zero, List.set_cons_succ])
                refine wpAnyH_take (i := 24) (oi := { dst := some 114, op := Go.Op.binOp Go.BinOp.quo 3 (Go.Operand.tmp 111) (Go.Operand.tmp 113) 3, type := 3, pos := "law.go:180", after := #[{ on := 21, ground := Go.Ground.data }, { on := 23, ground := Go.Ground.data }, { on := 8, ground := Go.Ground.guard }], guard := some (8, true) }) (v := undef) rfl (by kernel_rfl) (by kernel_rfl) (by kernel_rfl) (fun _ _ _ h => h) (Or.inr ⟨by rfl, rfl⟩) (by assumption) ?_
                (try simp only [Act.put, List.setIfInBounds_toArray, List.set_cons_zero, List.set_cons_succ])
                refine wpAnyH_take (i := 25) (oi := { dst := some 115, op := Go.Op.move (Go.Operand.tmp 14), type := 3, pos := "law.go:180", after := #[{ on := 8, ground := Go.Ground.guard }], guard := some (8, true) }) (v := undef) rfl (by kernel_rfl) (by kernel_rfl) (by kernel_rfl) (fun _ _ _ h => h) (Or.inr ⟨by rfl, rfl⟩) (by assumption) ?_
                (try simp only [Act.put, List.setIfInBounds_toArray, List.set_cons_zero, List.set_cons_succ])
                refine wpAnyH_take (i := 26) (oi := { dst := some 116, op := Go.Op.fieldAddr 79 (Go.Operand.tmp 3) 1, type := 0, pos := "law.go:180", after := #[{ on := 8, ground := Go.Ground.guard }], guard := some (8, true) }) (v := undef) rfl (by kernel_rfl) (by kernel_rfl) (by kernel_rfl) (fun _ _ _ h => h) (Or.inr ⟨by rfl, rfl⟩) (by assumption) ?_
                (try simp only [Act.put, List.setIfInBounds_toArray, List.set_cons_zero, List.set_cons_succ])
                refine wpAnyH_take (i := 27) (oi := { dst := some 117, op := Go.Op.load 3 (Go.Operand.tmp 116), type := 3, pos := "law.go:180", after := #[{ on := 26, ground := Go.Ground.data }, { on := 8, ground := Go.Ground.guard }], guard := some (8, true) }) (v := undef) rfl (by kernel_rfl) (by kernel_rfl) (by kernel_rfl) (fun _ _ _ h => h) (Or.inr ⟨by rfl, rfl⟩) (by assumption) ?_
                (try simp only [Act.put, List.setIfInBounds_toArray, List.set_cons_zero, List.set_cons_succ])
                refine wpAnyH_take (i := 28) (oi := { dst := some 118, op := Go.Op.binOp Go.BinOp.rem 3 (Go.Operand.tmp 115) (Go.Operand.tmp 117) 3, type := 3, pos := "law.go:180", after := #[{ on := 25, ground := Go.Ground.data }, { on := 27, ground := Go.Ground.data }, { on := 8, ground := Go.Ground.guard }], guard := some (8, true) }) (v := undef) rfl (by kernel_rfl) (by kernel_rfl) (by kernel_rfl) (fun _ _ _ h => h) (Or.inr ⟨by rfl, rfl⟩) (by assumption) ?_
                (try simp only [Act.put, List.setIfInBounds_toArray, List.set_cons_zero, List.set_cons_succ])
                refine wpAnyH_take (i := 29) (oi := { dst := some 119, op := Go.Op.call { callee := Go.Callee.value (Go.Operand.func 43), args := #[Go.Operand.tmp 110, Go.Operand.tmp 114, Go.Operand.tmp 118], argTypes := #[82, 3, 3] }, type := 30, pos := "law.go:180", after := #[{ on := 20, ground := Go.Ground.data }, { on := 24, ground := Go.Ground.data }, { on := 28, ground := Go.Ground.data }, { on := 19, ground := Go.Ground.chain }, { on := 8, ground := Go.Ground.guard }], guard := some (8, true) }) (v := undef) rfl (by kernel_rfl) (by kernel_rfl) (by kernel_rfl) (fun _ _ _ h => h) (Or.inr ⟨by rfl, rfl⟩) (by assumption) ?_
                (try simp only [Act.put, List.setIfInBounds_toArray, List.set_cons_zero, List.set_cons_succ])
                refine wpAnyH_take (i := 30) (oi := { dst := some 120, op := Go.Op.call { callee := Go.Callee.value (Go.Operand.func 21), args := #[Go.Operand.tmp 119], argTypes := #[30] }, type := 22, pos := "law.go:180", after := #[{ on := 29, ground := Go.Ground.data }, { on := 29, ground := Go.Ground.chain }, { on := 8, ground := Go.Ground.guard }], guard := some (8, true) }) (v := undef) rfl (by kernel_rfl) (by kernel_rfl) (by kernel_rfl) (fun _ _ _ h => h) (Or.inr ⟨by rfl, rfl⟩) (by assumption) ?_
                (try simp only [Act.put, List.setIfInBounds_toArray, List.set_cons_zero, List.set_cons_succ])
                refine wpAnyH_take (i := 31) (oi := { dst := some 121, op := Go.Op.call { callee := Go.Callee.value (Go.Operand.func 20), args := #[Go.Operand.tmp 109, Go.Operand.tmp 120], argTypes := #[22, 22] }, type := 4, pos := "law.go:180", after := #[{ on := 19, ground := Go.Ground.data }, { on := 30, ground := Go.Ground.data }, { on := 30, ground := Go.Ground.chain }, { on := 8, ground := Go.Ground.guard }], guard := some (8, true) }) (v := undef) rfl (by kernel_rfl) (by kernel_rfl) (by kernel_rfl) (fun _ _ _ h => h) (Or.inr ⟨by rfl, rfl⟩) (by assumption) ?_
                (try simp only [Act.put, List.setIfInBounds_toArray, List.set_cons_zero, List.set_cons_succ])
                refine wpAnyH_take (i := 32) (oi := { dst := some 122, op := Go.Op.unOp Go.UnOp.not 4 (Go.Operand.tmp 121), type := 4, pos := "law.go:180", after := #[{ on := 31, ground := Go.Ground.data }, { on := 8, ground := Go.Ground.guard }], guard := some (8, true) }) (v := undef) rfl (by kernel_rfl) (by kernel_rfl) (by kernel_rfl) (fun _ _ _ h => h) (Or.inr ⟨by rfl, rfl⟩) (by assumption) ?_
                (try simp only [Act.put, List.setIfInBounds_toArray, List.set_cons_zero, List.set_cons_succ])
                refine wpAnyH_take (i := 33) (oi := { dst := some 123, op := Go.Op.pick (Go.Operand.tmp 98) (Go.Operand.tmp 122) (Go.Operand.const (Go.Value.bool false)), type := 4, pos := "law.go:180", after := #[{ on := 8, ground := Go.Ground.data }, { on := 32, ground := Go.Ground.data }], guard := none }) (v := ?_) rfl (by kernel_rfl) (by kernel_rfl) (by kernel_rfl) (fun _ _ _ h => h) (Or.inl ⟨by rfl, ?_⟩) (by assumption) ?_
                rotate_left
                · intro w hSw
                  (try dsimp only at hSw)
                  go_simp
                  try with_reducible rfl
                (try simp only [Act.put, List.setIfInBounds_toArray, List.set_cons_zero, List.set_cons_succ])
                refine wpAnyH_done (by kernel_rfl) ?_ _
                clear hHeld
                go_wp2
                go_roundw
                case rel => exact ⟨j + 1, by omega, by go_num, HK1.out.call ((Below.refl _ _).drew), HK2'.out.call ((Below.refl _ _).drew), hz, HXX, HBB.out.drew⟩
                case measure => simp [intOf]; omega
              · have hne : ((j : Int) != (HH : Int)) = true := ne_word hjh
                have hdm := at_div (S := S) (B := B) (i := j) hB1 (by rw [← HM.out]; exact hjm)
                obtain ⟨hd1, hd2, _⟩ := hdm
                have hgj := HOTG.out j hjh
                have HB1' := Lib.hid fun w (h : BkAt w (fun b => b ≤ p) p q S B n gg) => HBU.out w _ p q gg h j (by rw [← HM.out]; exact hjm)
                have HB2' := Lib.hid fun w (h : BkAt w (fun b => b ≤ pp) pp qq S B n g) => HBU.out w _ pp qq g h j (by rw [← HM.out]; exact hjm)
                rw [hgj] at HB1'
                have hdx : j / B ≤ 128 := Nat.le_trans (Nat.div_le_self j B) (Nat.le_trans (Nat.le_of_lt hjm) hMB)
                have hdy : j % B ≤ 128 := Nat.le_trans (Nat.mod_le j B) (Nat.le_trans (Nat.le_of_lt hjm) hMB)
                generalize g j = fj at *
                generalize j / B = dx at *
                generalize j % B = dy at *
                obtain ⟨w1', w2'⟩ := wrap_ok (x := (dx : Int)) rfl (Nat.lt_of_le_of_lt hdx (by decide))
                obtain ⟨w3', w4'⟩ := wrap_ok (x := (dy : Int)) rfl (Nat.lt_of_le_of_lt hdy (by decide))
                obtain ⟨hBn0, hB0, hB00⟩ := pos_word hB1
                clear hjh hgj HOTG HBU
                go_wp2_with fail
                refine wp_region_held_drew (S := fun w' => w'.cell? ⟨W.heap.size, 1, none⟩ = some (.int .i64 (B : Nat))) (by kernel_rfl) ?_ (fun hHeld => ?_)
                · exact x1
                refine wpAnyH_take (i := 0) (oi := { dst := some 90, op := Go.Op.move (Go.Operand.tmp 14), type := 3, pos := "law.go:180", after := #[], guard := none }) (v := ?_) rfl (by kernel_rfl) (by kernel_rfl) (by kernel_rfl) (fun _ _ _ h => h) (Or.inl ⟨by rfl, ?_⟩) (by assumption) ?_
                rotate_left
                · intro w hSw
                  (try dsimp only at hSw)
                  go_simp
                  try with_reducible rfl
                (try simp only [Act.put, List.setIfInBounds_toArray, List.set_cons_zero, List.set_cons_succ])
                refine wpAnyH_take (i := 1) (oi := { dst := some 91, op := Go.Op.move (Go.Operand.tmp 12), type := 3, pos := "law.go:180", after := #[], guard := none }) (v := ?_) rfl (by kernel_rfl) (by kernel_rfl) (by kernel_rfl) (fun _ _ _ h => h) (Or.inl ⟨by rfl, ?_⟩) (by assumption) ?_
                rotate_left
                · intro w hSw
                  (try dsimp only at hSw)
                  go_simp
                  try with_reducible rfl
                (try simp only [Act.put, List.setIfInBounds_toArray, List.set_cons_zero, List.set_cons_succ])
                refine wpAnyH_take (i := 2) (oi := { dst := some 92, op := Go.Op.fieldAddr 79 (Go.Operand.tmp 3) 1, type := 0, pos := "law.go:180", after := #[], guard := none }) (v := ?_) rfl (by kernel_rfl) (by kernel_rfl) (by kernel_rfl) (fun _ _ _ h => h) (Or.inl ⟨by rfl, ?_⟩) (by assumption) ?_
                rotate_left
                · intro w hSw
                  (try dsimp only at hSw)
                  go_simp
                  try with_reducible rfl
                (try simp only [Act.put, List.setIfInBounds_toArray, List.set_cons_zero, List.set_cons_succ])
                refine wpAnyH_take (i := 3) (oi := { dst := some 93, op := Go.Op.load 3 (Go.Operand.tmp 92), type := 3, pos := "law.go:180", after := #[{ on := 2, ground := Go.Ground.data }], guard := none }) (v := ?_) rfl (by kernel_rfl) (by kernel_rfl) (by kernel_rfl) (fun _ _ _ h => h) (Or.inl ⟨by rfl, ?_⟩) (by assumption) ?_
                rotate_left
                · intro w hSw
                  (try dsimp only at hSw)
                  go_simp
                  try with_reducible rfl
                (try simp only [Act.put, List.setIfInBounds_toArray, List.set_cons_zero, List.set_cons_succ])
                refine wpAnyH_take (i := 4) (oi := { dst := some 94, op := Go.Op.binOp Go.BinOp.mul 3 (Go.Operand.tmp 91) (Go.Operand.tmp 93) 3, type := 3, pos := "law.go:180", after := #[{ on := 1, ground := Go.Ground.data }, { on := 3, ground := Go.Ground.data }], guard := none }) (v := ?_) rfl (by kernel_rfl) (by kernel_rfl) (by kernel_rfl) (fun _ _ _ h => h) (Or.inl ⟨by rfl, ?_⟩) (by assumption) ?_
                rotate_left
                · intro w hSw
                  (try dsimp only at hSw)
                  go_simp
                  try with_reducible rfl
                (try simp only [Act.put, List.setIfInBounds_toArray, List.set_cons_zero, List.set_cons_succ])
                refine wpAnyH_take (i := 5) (oi := { dst := some 95, op := Go.Op.move (Go.Operand.tmp 13), type := 3, pos := "law.go:180", after := #[], guard := none }) (v := ?_) rfl (by kernel_rfl) (by kernel_rfl) (by kernel_rfl) (fun _ _ _ h => h) (Or.inl ⟨by rfl, ?_⟩) (by assumption) ?_
                rotate_left
                · intro w hSw
                  (try dsimp only at hSw)
                  go_simp
                  try with_reducible rfl
                (try simp only [Act.put, List.setIfInBounds_toArray, List.set_cons_zero, List.set_cons_succ])
                refine wpAnyH_take (i := 6) (oi := { dst := some 96, op := Go.Op.binOp Go.BinOp.add 3 (Go.Operand.tmp 94) (Go.Operand.tmp 95) 3, type := 3, pos := "law.go:180", after := #[{ on := 4, ground := Go.Ground.data }, { on := 5, ground := Go.Ground.data }], guard := none }) (v := ?_) rfl (by kernel_rfl) (by kernel_rfl) (by kernel_rfl) (fun _ _ _ h => h) (Or.inl ⟨by rfl, ?_⟩) (by assumption) ?_
                rotate_left
                · intro w hSw
                  (try dsimp only at hSw)
                  go_simp
                  try with_reducible rfl
                (try simp only [Act.put, List.setIfInBounds_toArray, List.set_cons_zero, List.set_cons_succ])
                refine wpAnyH_take (i := 7) (oi := { dst := some 97, op := Go.Op.binOp Go.BinOp.neq 3 (Go.Operand.tmp 90) (Go.Operand.tmp 96) 3, type := 4, pos := "law.go:180", after := #[{ on := 0, ground := Go.Ground.data }, { on := 6, ground := Go.Ground.data }], guard := none }) (v := ?_) rfl (by kernel_rfl) (by kernel_rfl) (by kernel_rfl) (fun _ _ _ h => h) (Or.inl ⟨by rfl, ?_⟩) (by assumption) ?_
                rotate_left
                · intro w hSw
                  (try dsimp only at hSw)
                  go_simp
                  try with_reducible rfl
                (try simp only [Act.put, List.setIfInBounds_toArray, List.set_cons_zero, List.set_cons_succ])
                refine wpAnyH_take (i := 8) (oi := { dst := some 98, op := Go.Op.move (Go.Operand.tmp 97), type := 4, pos := "law.go:180", after := #[{ on := 7, ground := Go.Ground.data }], guard := none }) (v := ?_) rfl (by kernel_rfl) (by kernel_rfl) (by kernel_rfl) (fun _ _ _ h => h) (Or.inl ⟨by rfl, ?_⟩) (by assumption) ?_
                rotate_left
                · intro w hSw
                  (try dsimp only at hSw)
                  go_simp
                  try with_reducible rfl
                (try simp only [Act.put, List.setIfInBounds_toArray, List.set_cons_zero, List.set_cons_succ])
                refine wpAnyH_take (i := 9) (oi := { dst := some 99, op := Go.Op.move (Go.Operand.tmp 7), type := 82, pos := "law.go:180", after := #[{ on := 8, ground := Go.Ground.guard }], guard := some (8, true) }) (v := ?_) rfl (by kernel_rfl) (by kernel_rfl) (by kernel_rfl) (fun _ _ _ h => h) (Or.inl ⟨by rfl, ?_⟩) (by assumption) ?_
                rotate_left
                · intro w hSw
                  (try dsimp only at hSw)
                  go_simp
                  try with_reducible rfl
                (try simp only [Act.put, List.setIfInBounds_toArray, List.set_cons_zero, List.set_cons_succ])
                refine wpAnyH_take (i := 10) (oi := { dst := some 100, op := Go.Op.move (Go.Operand.tmp 14), type := 3, pos := "law.go:180", after := #[{ on := 8, ground := Go.Ground.guard }], guard := some (8, true) }) (v := ?_) rfl (by kernel_rfl) (by kernel_rfl) (by kernel_rfl) (fun _ _ _ h => h) (Or.inl ⟨by rfl, ?_⟩) (by assumption) ?_
                rotate_left
                · intro w hSw
                  (try dsimp only at hSw)
                  go_simp
                  try with_reducible rfl
                (try simp only [Act.put, List.setIfInBounds_toArray, List.set_cons_zero, List.set_cons_succ])
                refine wpAnyH_take (i := 11) (oi := { dst := some 101, op := Go.Op.fieldAddr 79 (Go.Operand.tmp 3) 1, type := 0, pos := "law.go:180", after := #[{ on := 8, ground := Go.Ground.guard }], guard := some (8, true) }) (v := ?_) rfl (by kernel_rfl) (by kernel_rfl) (by kernel_rfl) (fun _ _ _ h => h) (Or.inl ⟨by rfl, ?_⟩) (by assumption) ?_
                rotate_left
                · intro w hSw
                  (try dsimp only at hSw)
                  go_simp
                  try with_reducible rfl
                (try simp only [Act.put, List.setIfInBounds_toArray, List.set_cons_zero, List.set_cons_succ])
                refine wpAnyH_take (i := 12) (oi := { dst := some 102, op := Go.Op.load 3 (Go.Operand.tmp 101), type := 3, pos := "law.go:180", after := #[{ on := 11, ground := Go.Ground.data }, { on := 8, ground := Go.Ground.guard }], guard := some (8, true) }) (v := ?_) rfl (by kernel_rfl) (by kernel_rfl) (by kernel_rfl) (fun _ _ _ h => h) (Or.inl ⟨by rfl, ?_⟩) (by assumption) ?_
                rotate_left
                · intro w hSw
                  (try dsimp only at hSw)
                  go_simp
                  try with_reducible rfl
                (try simp only [Act.put, List.setIfInBounds_toArray, List.set_cons_zero, List.set_cons_succ])
                refine wpAnyH_take (i := 13) (oi := { dst := some 103, op := Go.Op.binOp Go.BinOp.quo 3 (Go.Operand.tmp 100) (Go.Operand.tmp 102) 3, type := 3, pos := "law.go:180", after := #[{ on := 10, ground := Go.Ground.data }, { on := 12, ground := Go.Ground.data }, { on := 8, ground := Go.Ground.guard }], guard := some (8, true) }) (v := ?_) rfl (by kernel_rfl) (by kernel_rfl) (by kernel_rfl) (fun _ _ _ h => h) (Or.inl ⟨by rfl, ?_⟩) (by assumption) ?_
                rotate_left
                · intro w hSw
                  (try dsimp only at hSw)
                  go_simp
                  try with_reducible rfl
                (try simp only [Act.put, List.setIfInBounds_toArray, List.set_cons_zero, List.set_cons_succ])
                refine wpAnyH_take (i := 14) (oi := { dst := some 104, op := Go.Op.move (Go.Operand.tmp 14), type := 3, pos := "law.go:180", after := #[{ on := 8, ground := Go.Ground.guard }], guard := some (8, true) }) (v := ?_) rfl (by kernel_rfl) (by kernel_rfl) (by kernel_rfl) (fun _ _ _ h => h) (Or.inl ⟨by rfl, ?_⟩) (by assumption) ?_
                rotate_left
                · intro w hSw
                  (try dsimp only at hSw)
                  go_simp
                  try with_reducible rfl
                (try simp only [Act.put, List.setIfInBounds_toArray, List.set_cons_zero, List.set_cons_succ])
                refine wpAnyH_take (i := 15) (oi := { dst := some 105, op := Go.Op.fieldAddr 79 (Go.Operand.tmp 3) 1, type := 0, pos := "law.go:180", after := #[{ on := 8, ground := Go.Ground.guard }], guard := some (8, true) }) (v := ?_) rfl (by kernel_rfl) (by kernel_rfl) (by kernel_rfl) (fun _ _ _ h => h) (Or.inl ⟨by rfl, ?_⟩) (by assumption) ?_
                rotate_left
                · intro w hSw
                  (try dsimp only at hSw)
                  go_simp
                  try with_reducible rfl
                (try simp only [Act.put, List.setIfInBounds_toArray, List.set_cons_zero, List.set_cons_succ])
                refine wpAnyH_take (i := 16) (oi := { dst := some 106, op := Go.Op.load 3 (Go.Operand.tmp 105), type := 3, pos := "law.go:180", after := #[{ on := 15, ground := Go.Ground.data }, { on := 8, ground := Go.Ground.guard }], guard := some (8, true) }) (v := ?_) rfl (by kernel_rfl) (by kernel_rfl) (by kernel_rfl) (fun _ _ _ h => h) (Or.inl ⟨by rfl, ?_⟩) (by assumption) ?_
                rotate_left
                · intro w hSw
                  (try dsimp only at hSw)
                  go_simp
                  try with_reducible rfl
                (try simp only [Act.put, List.setIfInBounds_toArray, List.set_cons_zero, List.set_cons_succ])
                refine wpAnyH_take (i := 17) (oi := { dst := some 107, op := Go.Op.binOp Go.BinOp.rem 3 (Go.Operand.tmp 104) (Go.Operand.tmp 106) 3, type := 3, pos := "law.go:180", after := #[{ on := 14, ground := Go.Ground.data }, { on := 16, ground := Go.Ground.data }, { on := 8, ground := Go.Ground.guard }], guard := some (8, true) }) (v := ?_) rfl (by kernel_rfl) (by kernel_rfl) (by kernel_rfl) (fun _ _ _ h => h) (Or.inl ⟨by rfl, ?_⟩) (by assumption) ?_
                rotate_left
                · intro w hSw
                  (try dsimp only at hSw)
                  go_simp
                  try with_reducible rfl
                (try simp only [Act.put, List.setIfInBounds_toArray, List.set_cons_zero, List.set_cons_succ])
                refine wpAnyH_take (i := 20) (oi := { dst := some 110, op := Go.Op.move (Go.Operand.tmp 10), type := 82, pos := "law.go:180", after := #[{ on := 8, ground := Go.Ground.guard }], guard := some (8, true) }) (v := ?_) rfl (by kernel_rfl) (by kernel_rfl) (by kernel_rfl) (fun _ _ _ h => h) (Or.inl ⟨by rfl, ?_⟩) (by assumption) ?_
                rotate_left
                · intro w hSw
                  (try dsimp only at hSw)
                  go_simp
                  try with_reducible rfl
                (try simp only [Act.put, List.setIfInBounds_toArray, List.set_cons_zero, List.set_cons_succ])
                refine wpAnyH_take (i := 21) (oi := { dst := some 111, op := Go.Op.move (Go.Operand.tmp 14), type := 3, pos := "law.go:180", after := #[{ on := 8, ground := Go.Ground.guard }], guard := some (8, true) }) (v := ?_) rfl (by kernel_rfl) (by kernel_rfl) (by kernel_rfl) (fun _ _ _ h => h) (Or.inl ⟨by rfl, ?_⟩) (by assumption) ?_
                rotate_left
                · intro w hSw
                  (try dsimp only at hSw)
                  go_simp
                  try with_reducible rfl
                (try simp only [Act.put, List.setIfInBounds_toArray, List.set_cons_zero, List.set_cons_succ])
                refine wpAnyH_take (i := 22) (oi := { dst := some 112, op := Go.Op.fieldAddr 79 (Go.Operand.tmp 3) 1, type := 0, pos := "law.go:180", after := #[{ on := 8, ground := Go.Ground.guard }], guard := some (8, true) }) (v := ?_) rfl (by kernel_rfl) (by kernel_rfl) (by kernel_rfl) (fun _ _ _ h => h) (Or.inl ⟨by rfl, ?_⟩) (by assumption) ?_
                rotate_left
                · intro w hSw
                  (try dsimp only at hSw)
                  go_simp
                  try with_reducible rfl
                (try simp only [Act.put, List.setIfInBounds_toArray, List.set_cons_zero, List.set_cons_succ])
                refine wpAnyH_take (i := 23) (oi := { dst := some 113, op := Go.Op.load 3 (Go.Operand.tmp 112), type := 3, pos := "law.go:180", after := #[{ on := 22, ground := Go.Ground.data }, { on := 8, ground := Go.Ground.guard }], guard := some (8, true) }) (v := ?_) rfl (by kernel_rfl) (by kernel_rfl) (by kernel_rfl) (fun _ _ _ h => h) (Or.inl ⟨by rfl, ?_⟩) (by assumption) ?_
                rotate_left
                · intro w hSw
                  (try dsimp only at hSw)
                  go_simp
                  try with_reducible rfl
                (try simp only [Act.put, List.setIfInBounds_toArray, List.set_cons_zero, List.set_cons_succ])
                refine wpAnyH_take (i := 24) (oi := { dst := some 114, op := Go.Op.binOp Go.BinOp.quo 3 (Go.Operand.tmp 111) (Go.Operand.tmp 113) 3, type := 3, pos := "law.go:180", after := #[{ on := 21, ground := Go.Ground.data }, { on := 23, ground := Go.Ground.data }, { on := 8, ground := Go.Ground.guard }], guard := some (8, true) }) (v := ?_) rfl (by kernel_rfl) (by kernel_rfl) (by kernel_rfl) (fun _ _ _ h => h) (Or.inl ⟨by rfl, ?_⟩) (by assumption) ?_
                rotate_left
                · intro w hSw
                  (try dsimp only at hSw)
                  go_simp
                  try with_reducible rfl
                (try simp only [Act.put, List.setIfInBounds_toArray, List.set_cons_zero, List.set_cons_succ])
                refine wpAnyH_take (i := 25) (oi := { dst := some 115, op := Go.Op.move (Go.Operand.tmp 14), type := 3, pos := "law.go:180", after := #[{ on := 8, ground := Go.Ground.guard }], guard := some (8, true) }) (v := ?_) rfl (by kernel_rfl) (by kernel_rfl) (by kernel_rfl) (fun _ _ _ h => h) (Or.inl ⟨by rfl, ?_⟩) (by assumption) ?_
                rotate_left
                · intro w hSw
                  (try dsimp only at hSw)
                  go_simp
                  try with_reducible rfl
                (try simp only [Act.put, List.setIfInBounds_toArray, List.set_cons_zero, List.set_cons_succ])
                refine wpAnyH_take (i := 26) (oi := { dst := some 116, op := Go.Op.fieldAddr 79 (Go.Operand.tmp 3) 1, type := 0, pos := "law.go:180", after := #[{ on := 8, ground := Go.Ground.guard }], guard := some (8, true) }) (v := ?_) rfl (by kernel_rfl) (by kernel_rfl) (by kernel_rfl) (fun _ _ _ h => h) (Or.inl ⟨by rfl, ?_⟩) (by assumption) ?_
                rotate_left
                · intro w hSw
                  (try dsimp only at hSw)
                  go_simp
                  try with_reducible rfl
                (try simp only [Act.put, List.setIfInBounds_toArray, List.set_cons_zero, List.set_cons_succ])
                refine wpAnyH_take (i := 27) (oi := { dst := some 117, op := Go.Op.load 3 (Go.Operand.tmp 116), type := 3, pos := "law.go:180", after := #[{ on := 26, ground := Go.Ground.data }, { on := 8, ground := Go.Ground.guard }], guard := some (8, true) }) (v := ?_) rfl (by kernel_rfl) (by kernel_rfl) (by kernel_rfl) (fun _ _ _ h => h) (Or.inl ⟨by rfl, ?_⟩) (by assumption) ?_
                rotate_left
                · intro w hSw
                  (try dsimp only at hSw)
                  go_simp
                  try with_reducible rfl
                (try simp only [Act.put, List.setIfInBounds_toArray, List.set_cons_zero, List.set_cons_succ])
                refine wpAnyH_take (i := 28) (oi := { dst := some 118, op := Go.Op.binOp Go.BinOp.rem 3 (Go.Operand.tmp 115) (Go.Operand.tmp 117) 3, type := 3, pos := "law.go:180", after := #[{ on := 25, ground := Go.Ground.data }, { on := 27, ground := Go.Ground.data }, { on := 8, ground := Go.Ground.guard }], guard := some (8, true) }) (v := ?_) rfl (by kernel_rfl) (by kernel_rfl) (by kernel_rfl) (fun _ _ _ h => h) (Or.inl ⟨by rfl, ?_⟩) (by assumption) ?_
                rotate_left
                · intro w hSw
                  (try dsimp only at hSw)
                  go_simp
                  try with_reducible rfl
                (try simp only [Act.put, List.setIfInBounds_toArray, List.set_cons_zero, List.set_cons_succ])
                refine wpAnyH_ready (rs := [18]) (by kernel_rfl) (by simp) ?_
                refine AllReadyH.cons (o := { dst := some 108, op := Go.Op.call { callee := Go.Callee.value (Go.Operand.func 43), args := #[Go.Operand.tmp 99, Go.Operand.tmp 103, Go.Operand.tmp 107], argTypes := #[82, 3, 3] }, type := 30, pos := "law.go:180", after := #[{ on := 9, ground := Go.Ground.data }, { on := 13, ground := Go.Ground.data }, { on := 17, ground := Go.Ground.data }, { on := 8, ground := Go.Ground.chain }, { on := 8, ground := Go.Ground.guard }], guard := some (8, true) }) rfl (fun K hK => ?_) AllReadyH.nil
                go_simp
                refine Calls.mono (HB1'.out _ (HK1.out.call ((Below.refl _ _).drew))) ?_
                intro e u1 hpost
                obtain ⟨va, he, hra, hb⟩ := hpost
                (try simp only [id] at he)
                subst he
                have hbd : Below wr.heap.size wr u1 := ((Below.refl wr.heap.size wr).drew).trans hb
                have R1 := Lib.hid hra
                have HKx := Lib.hid (HK1.out.call hbd)
                have HKy := Lib.hid (HK2'.out.call hbd)
                have HBx := Lib.hid (HBB.out.trans (hbd.mono (by omega)))
                have hzu := hbd.size
                have x0 := (hbd.cell (p := ⟨W.heap.size, 0, none⟩) (by show W.heap.size < wr.heap.size; omega)).trans x0
                refine hK.out _ _ ?_ (fun hHeld => ?_)
                · (try dsimp only)
                  exact (hb.cell (p := ⟨W.heap.size, 1, none⟩) (by show W.heap.size < wr.heap.size; omega)).trans hHeld
                clear hK K
                (try simp only [Act.put, List.setIfInBounds_toArray, List.set_cons_zero, List.set_cons_succ])
                refine wpAnyH_ready (rs := [19]) (by kernel_rfl) (by simp) ?_
                refine AllReadyH.cons (o := { dst := some 109, op := Go.Op.call { callee := Go.Callee.value (Go.Operand.func 21), args := #[Go.Operand.tmp 108], argTypes := #[30] }, type := 22, pos := "law.go:180", after := #[{ on := 18, ground := Go.Ground.data }, { on := 18, ground := Go.Ground.chain }, { on := 8, ground := Go.Ground.guard }], guard := some (8, true) }) rfl (fun K hK => ?_) AllReadyH.nil
                go_simp
                refine Calls.mono (HFR.out _ _ _ R1.out.row) ?_
                intro e u2 hpost
                obtain ⟨vb, he, hrb, hb⟩ := hpost
                (try simp only [id] at he)
                subst he
                have R2 := Lib.hid hrb
                have HKx := Lib.hid (HKx.out.call hb)
                have HKy := Lib.hid (HKy.out.call hb)
                have HBx := Lib.hid (HBx.out.trans (hb.mono (by omega)))
                have x0 := (hb.cell (p := ⟨W.heap.size, 0, none⟩) (by show W.heap.size < _; omega)).trans x0
                have hzu2 := hb.size
                refine hK.out _ _ ?_ (fun hHeld => ?_)
                · (try dsimp only)
                  exact (hb.cell (p := ⟨W.heap.size, 1, none⟩) (by show W.heap.size < _; omega)).trans hHeld
                clear hK K
                (try simp only [Act.put, List.setIfInBounds_toArray, List.set_cons_zero, List.set_cons_succ])
                refine wpAnyH_ready (rs := [29]) (by kernel_rfl) (by simp) ?_
                refine AllReadyH.cons (o := { dst := some 119, op := Go.Op.call { callee := Go.Callee.value (Go.Operand.func 43), args := #[Go.Operand.tmp 110, Go.Operand.tmp 114, Go.Operand.tmp 118], argTypes := #[82, 3, 3] }, type := 30, pos := "law.go:180", after := #[{ on := 20, ground := Go.Ground.data }, { on := 24, ground := Go.Ground.data }, { on := 28, ground := Go.Ground.data }, { on := 19, ground := Go.Ground.chain }, { on := 8, ground := Go.Ground.guard }], guard := some (8, true) }) rfl (fun K hK => ?_) AllReadyH.nil
                go_simp
                refine Calls.mono (HB2'.out _ HKy.out) ?_
                intro e u3 hpost
                obtain ⟨vc, he, hrc, hb⟩ := hpost
                (try simp only [id] at he)
                subst he
                have R3 := Lib.hid hrc
                have R2 := Lib.hid (R2.out.below hb)
                have HKx := Lib.hid (HKx.out.call hb)
                have HKy := Lib.hid (HKy.out.call hb)
                have HBx := Lib.hid (HBx.out.trans (hb.mono (by omega)))
                have x0 := (hb.cell (p := ⟨W.heap.size, 0, none⟩) (by show W.heap.size < _; omega)).trans x0
                have hzu3 := hb.size
                refine hK.out _ _ ?_ (fun hHeld => ?_)
                · (try dsimp only)
                  exact (hb.cell (p := ⟨W.heap.size, 1, none⟩) (by show W.heap.size < _; omega)).trans hHeld
                clear hK K
                (try simp only [Act.put, List.setIfInBounds_toArray, List.set_cons_zero, List.set_cons_succ])
                refine wpAnyH_ready (rs := [30]) (by kernel_rfl) (by simp) ?_
                refine AllReadyH.cons (o := { dst := some 120, op := Go.Op.call { callee := Go.Callee.value (Go.Operand.func 21), args := #[Go.Operand.tmp 119], argTypes := #[30] }, type := 22, pos := "law.go:180", after := #[{ on := 29, ground := Go.Ground.data }, { on := 29, ground := Go.Ground.chain }, { on := 8, ground := Go.Ground.guard }], guard := some (8, true) }) rfl (fun K hK => ?_) AllReadyH.nil
                go_simp
                refine Calls.mono (HFR.out _ _ _ R3.out.row) ?_
                intro e u4 hpost
                obtain ⟨vd, he, hrd, hb⟩ := hpost
                (try simp only [id] at he)
                subst he
                have R4 := Lib.hid hrd
                have R2 := Lib.hid (R2.out.below hb)
                have HKx := Lib.hid (HKx.out.call hb)
                have HKy := Lib.hid (HKy.out.call hb)
                have HBx := Lib.hid (HBx.out.trans (hb.mono (by omega)))
                have x0 := (hb.cell (p := ⟨W.heap.size, 0, none⟩) (by show W.heap.size < _; omega)).trans x0
                have hzu4 := hb.size
                refine hK.out _ _ ?_ (fun hHeld => ?_)
                · (try dsimp only)
                  exact (hb.cell (p := ⟨W.heap.size, 1, none⟩) (by show W.heap.size < _; omega)).trans hHeld
                clear hK K
                (try simp only [Act.put, List.setIfInBounds_toArray, List.set_cons_zero, List.set_cons_succ])
                refine wpAnyH_ready (rs := [31]) (by kernel_rfl) (by simp) ?_
                refine AllReadyH.cons (o := { dst := some 121, op := Go.Op.call { callee := Go.Callee.value (Go.Operand.func 20), args := #[Go.Operand.tmp 109, Go.Operand.tmp 120], argTypes := #[22, 22] }, type := 4, pos := "law.go:180", after := #[{ on := 19, ground := Go.Ground.data }, { on := 30, ground := Go.Ground.data }, { on := 30, ground := Go.Ground.chain }, { on := 8, ground := Go.Ground.guard }], guard := some (8, true) }) rfl (fun K hK => ?_) AllReadyH.nil
                go_simp
                refine Calls.mono (ref10_SameEq R2.out.row R4.out.row) ?_
                intro e u5 hpost
                obtain ⟨rfl, hb⟩ := hpost
                have HKx := Lib.hid (HKx.out.call hb)
                have HKy := Lib.hid (HKy.out.call hb)
                have HBx := Lib.hid (HBx.out.trans (hb.mono (by omega)))
                have x0 := (hb.cell (p := ⟨W.heap.size, 0, none⟩) (by show W.heap.size < _; omega)).trans x0
                have hzu5 := hb.size
                refine hK.out _ _ ?_ (fun hHeld => ?_)
                · (try dsimp only)
                  exact (hb.cell (p := ⟨W.heap.size, 1, none⟩) (by show W.heap.size < _; omega)).trans hHeld
                clear hK K
                (try simp only [Act.put, List.setIfInBounds_toArray, List.set_cons_zero, List.set_cons_succ])
                refine wpAnyH_take (i := 32) (oi := { dst := some 122, op := Go.Op.unOp Go.UnOp.not 4 (Go.Operand.tmp 121), type := 4, pos := "law.go:180", after := #[{ on := 31, ground := Go.Ground.data }, { on := 8, ground := Go.Ground.guard }], guard := some (8, true) }) (v := ?_) rfl (by kernel_rfl) (by kernel_rfl) (by kernel_rfl) (fun _ _ _ h => h) (Or.inl ⟨by rfl, ?_⟩) (by assumption) ?_
                rotate_left
                · intro w hSw
                  (try dsimp only at hSw)
                  go_simp
                  try with_reducible rfl
                (try simp only [Act.put, List.setIfInBounds_toArray, List.set_cons_zero, List.set_cons_succ])
                refine wpAnyH_take (i := 33) (oi := { dst := some 123, op := Go.Op.pick (Go.Operand.tmp 98) (Go.Operand.tmp 122) (Go.Operand.const (Go.Value.bool false)), type := 4, pos := "law.go:180", after := #[{ on := 8, ground := Go.Ground.data }, { on := 32, ground := Go.Ground.data }], guard := none }) (v := ?_) rfl (by kernel_rfl) (by kernel_rfl) (by kernel_rfl) (fun _ _ _ h => h) (Or.inl ⟨by rfl, ?_⟩) (by assumption) ?_
                rotate_left
                · intro w hSw
                  (try dsimp only at hSw)
                  go_simp
                  try with_reducible rfl
                (try simp only [Act.put, List.setIfInBounds_toArray, List.set_cons_zero, List.set_cons_succ])
                refine wpAnyH_done (by kernel_rfl) ?_ _
                go_wp2
                go_roundw
                case rel => exact ⟨j + 1, by omega, by go_num, HKx, HKy, by omega, ⟨x0, hHeld⟩, HBx⟩
                case measure => simp [intOf]; omega
            · go_wp2
              go_ret
              exact ⟨by first | rfl | (simp; done), HBB.out⟩
      · have hf0 : (k : Int) < (len : Int) := by omega
        have hf : ¬ (k : Int) < 100 := by omega
        go_wp2_with fail
        refine (HCP.out _ _ _ _ _ HK.out).mono ?_
        rintro e v1 ⟨pp, qq, rfl, hkc, hq1', hqp2, hb⟩
        have HKB := Lib.hid (HK.out.call hb)
        have HKC := Lib.hid hkc
        have HB1 := Lib.hid (HB.out.trans (hb.mono HB.out.size))
        have x0 := (hb.cell (p := ⟨W.heap.size, 0, none⟩) (by show W.heap.size < _; omega)).trans x0
        have x1 := (hb.cell (p := ⟨W.heap.size, 1, none⟩) (by show W.heap.size < _; omega)).trans x1
        have x2 := (hb.cell (p := ⟨W.heap.size, 2, none⟩) (by show W.heap.size < _; omega)).trans x2
        have x3 := (hb.cell (p := ⟨W.heap.size + 1, 0, none⟩) (by show W.heap.size + 1 < _; omega)).trans x3
        have x4 := (hb.cell (p := ⟨W.heap.size + 1, 1, none⟩) (by show W.heap.size + 1 < _; omega)).trans x4
        have x5 := (hb.cell (p := ⟨W.heap.size + 1, 2, none⟩) (by show W.heap.size + 1 < _; omega)).trans x5
        have x6 := (hb.cell (p := ⟨W.heap.size + 1, 3, none⟩) (by show W.heap.size + 1 < _; omega)).trans x6
        have x7 := (hb.cell (p := ⟨W.heap.size + 1, 4, none⟩) (by show W.heap.size + 1 < _; omega)).trans x7
        have x8 := (hb.cell (p := ⟨W.heap.size + 1, 5, none⟩) (by show W.heap.size + 1 < _; omega)).trans x8
        have x9 := (hb.cell (p := ⟨W.heap.size + 1, 6, none⟩) (by show W.heap.size + 1 < _; omega)).trans x9
        have hzx := Nat.lt_of_lt_of_le hzx hb.size
        have hpb : p < wr.heap.size := HK.out.1
        have hqb : q < wr.heap.size := HK.out.2.1
        clear hb HK HB hkc HCP
        rcases (show K2 = 5 ∨ K2 = 6 ∨ (K2 ≠ 5 ∧ K2 ≠ 6) by omega) with rfl | rfl | ⟨n5, n6⟩
        · rw [show ((5 : Nat) : Int) = 5 from rfl] at hk1 hk2
          go_wp2
          go_ret
          exact ⟨by first | rfl | (simp; done), HB1.out⟩
        · rw [show ((6 : Nat) : Int) = 6 from rfl] at hk1 hk2
          go_wp2
          go_ret
          exact ⟨by first | rfl | (simp; done), HB1.out⟩
        · have b5 : ((K2 : Int) == 5) = false := by simp; omega
          have b6 : ((K2 : Int) == 6) = false := by simp; omega
          have hp1 : p < v1.heap.size := HKB.out.1
          go_wp2_with fail
          refine (HDO2.out _ _ _ _ _ HKB.out (fun b hb => by show b < _; have : b ≤ p := hb; omega) (by show q ≤ p; omega) hst).mono ?_
          rintro e v2 ⟨rfl, hk2', hbt⟩
          have HKD := Lib.hid hk2'
          have HKE := Lib.hid (HKC.out.but hbt (by omega) (by omega) (by show q ≤ pp; omega))
          have HB2 := Lib.hid (HB1.out.trans (hbt.below.mono HQW.out))
          have x0 := (hbt.cell (p := ⟨W.heap.size, 0, none⟩) (by show W.heap.size < _; omega) (show W.heap.size ≠ q by omega)).trans x0
          have x1 := (hbt.cell (p := ⟨W.heap.size, 1, none⟩) (by show W.heap.size < _; omega) (show W.heap.size ≠ q by omega)).trans x1
          have x2 := (hbt.cell (p := ⟨W.heap.size, 2, none⟩) (by show W.heap.size < _; omega) (show W.heap.size ≠ q by omega)).trans x2
          have x3 := (hbt.cell (p := ⟨W.heap.size + 1, 0, none⟩) (by show W.heap.size + 1 < _; omega) (show W.heap.size + 1 ≠ q by omega)).trans x3
          have x4 := (hbt.cell (p := ⟨W.heap.size + 1, 1, none⟩) (by show W.heap.size + 1 < _; omega) (show W.heap.size + 1 ≠ q by omega)).trans x4
          have x5 := (hbt.cell (p := ⟨W.heap.size + 1, 2, none⟩) (by show W.heap.size + 1 < _; omega) (show W.heap.size + 1 ≠ q by omega)).trans x5
          have x6 := (hbt.cell (p := ⟨W.heap.size + 1, 3, none⟩) (by show W.heap.size + 1 < _; omega) (show W.heap.size + 1 ≠ q by omega)).trans x6
          have x7 := (hbt.cell (p := ⟨W.heap.size + 1, 4, none⟩) (by show W.heap.size + 1 < _; omega) (show W.heap.size + 1 ≠ q by omega)).trans x7
          have x8 := (hbt.cell (p := ⟨W.heap.size + 1, 5, none⟩) (by show W.heap.size + 1 < _; omega) (show W.heap.size + 1 ≠ q by omega)).trans x8
          have x9 := (hbt.cell (p := ⟨W.heap.size + 1, 6, none⟩) (by show W.heap.size + 1 < _; omega) (show W.heap.size + 1 ≠ q by omega)).trans x9
          have hzx := Nat.lt_of_lt_of_le hzx hbt.below.size
          have HOTG : Hid (∀ i, i ≠ HH → (doG K2 kv2 m2 p2 d2 n2 o2 S B n g).1 i = g i) := fun i hi => HOT.out g i n5 n6 hi
          clear hk2' hbt HKB HKC HB1 HDO2 HOT hst hpr hk1 hk2
          generalize (doG K2 kv2 m2 p2 d2 n2 o2 S B n g).2 = ans at *
          generalize (doG K2 kv2 m2 p2 d2 n2 o2 S B n g).1 = gg at *
          go_wp2_with fail
          refine (HPL.out _).mono ?_
          rintro e v3 ⟨rfl, hb⟩
          have HKF := Lib.hid (HKD.out.call hb)
          have HKG := Lib.hid (HKE.out.call hb)
          have HB3 := Lib.hid (HB2.out.trans (hb.mono HB2.out.size))
          have x0 := (hb.cell (p := ⟨W.heap.size, 0, none⟩) (by show W.heap.size < _; omega)).trans x0
          have x1 := (hb.cell (p := ⟨W.heap.size, 1, none⟩) (by show W.heap.size < _; omega)).trans x1
          have x2 := (hb.cell (p := ⟨W.heap.size, 2, none⟩) (by show W.heap.size < _; omega)).trans x2
          have x3 := (hb.cell (p := ⟨W.heap.size + 1, 0, none⟩) (by show W.heap.size + 1 < _; omega)).trans x3
          have x4 := (hb.cell (p := ⟨W.heap.size + 1, 1, none⟩) (by show W.heap.size + 1 < _; omega)).trans x4
          have x5 := (hb.cell (p := ⟨W.heap.size + 1, 2, none⟩) (by show W.heap.size + 1 < _; omega)).trans x5
          have x6 := (hb.cell (p := ⟨W.heap.size + 1, 3, none⟩) (by show W.heap.size + 1 < _; omega)).trans x6
          have x7 := (hb.cell (p := ⟨W.heap.size + 1, 4, none⟩) (by show W.heap.size + 1 < _; omega)).trans x7
          have x8 := (hb.cell (p := ⟨W.heap.size + 1, 5, none⟩) (by show W.heap.size + 1 < _; omega)).trans x8
          have x9 := (hb.cell (p := ⟨W.heap.size + 1, 6, none⟩) (by show W.heap.size + 1 < _; omega)).trans x9
          have hzx3 := Nat.lt_of_lt_of_le hzx hb.size
          clear hb HKD HKE HB2 hzx HPL x2 x3 x4 x5 x6 x7 x8 x9
          have HX3 : Hid (v3.cell? ⟨W.heap.size, 0, none⟩ = some (.int .i64 (S : Nat)) ∧ v3.cell? ⟨W.heap.size, 1, none⟩ = some (.int .i64 (B : Nat))) := ⟨x0, x1⟩
          clear x0 x1
          go_wp2
          go_loopw [14] (fun i wq => ∃ j : Nat, j ≤ M ∧ i = .int .i64 j ∧ Hid (BkAt wq (fun b => b ≤ p) p q S B n gg) ∧ Hid (BkAt wq (fun b => b ≤ pp) pp qq S B n g) ∧ W.heap.size + 1 < wq.heap.size ∧ Hid (wq.cell? ⟨W.heap.size, 0, none⟩ = some (.int .i64 (S : Nat)) ∧ wq.cell? ⟨W.heap.size, 1, none⟩ = some (.int .i64 (B : Nat))) ∧ Hid (Below W.heap.size W wq)) (fun i _ => M - (intOf i).toNat)
          case atStart => exact ⟨0, by omega, rfl, HKF, HKG, hzx3, HX3, HB3⟩
          case round =>
            obtain ⟨j, hj, rfl, HK1, HK2', hz, HXX, HBB⟩ := hrel
            obtain ⟨x0, x1⟩ := HXX.out
            by_cases hjm : j < M
            · have j0 : (0 : Int) ≤ (j : Int) := Int.natCast_nonneg _
              have j1 : (j : Int) < (M : Int) := by omega
              by_cases hjh : j = HH
              · have hne : ((j : Int) != (HH : Int)) = false := by simp [hjh]
                clear hjh
                go_wp2_with fail
                refine wp_region_held_drew (S := fun w' => w'.cell? ⟨W.heap.size, 1, none⟩ = some (.int .i64 (B : Nat))) (by kernel_rfl) ?_ (fun hHeld => ?_)
                · exact x1
                refine wpAnyH_take (i := 0) (oi := { dst := some 90, op := Go.Op.move (Go.Operand.tmp 14), type := 3, pos := "law.go:180", after := #[], guard := none }) (v := ?_) rfl (by kernel_rfl) (by kernel_rfl) (by kernel_rfl) (fun _ _ _ h => h) (Or.inl ⟨by rfl, ?_⟩) (by assumption) ?_
                rotate_left
                · intro w hSw
                  (try dsimp only at hSw)
                  go_simp
                  try with_reducible rfl
                (try simp only [Act.put, List.setIfInBounds_toArray, List.set_cons_zero, List.set_cons_succ])
                refine wpAnyH_take (i := 1) (oi := { dst := some 91, op := Go.Op.move (Go.Operand.tmp 12), type := 3, pos := "law.go:180", after := #[], guard := none }) (v := ?_) rfl (by kernel_rfl) (by kernel_rfl) (by kernel_rfl) (fun _ _ _ h => h) (Or.inl ⟨by rfl, ?_⟩) (by assumption) ?_
                rotate_left
                · intro w hSw
                  (try dsimp only at hSw)
                  go_simp
                  try with_reducible rfl
                (try simp only [Act.put, List.setIfInBounds_toArray, List.set_cons_zero, List.set_cons_succ])
                refine wpAnyH_take (i := 2) (oi := { dst := some 92, op := Go.Op.fieldAddr 79 (Go.Operand.tmp 3) 1, type := 0, pos := "law.go:180", after := #[], guard := none }) (v := ?_) rfl (by kernel_rfl) (by kernel_rfl) (by kernel_rfl) (fun _ _ _ h => h) (Or.inl ⟨by rfl, ?_⟩) (by assumption) ?_
                rotate_left
                · intro w hSw
                  (try dsimp only at hSw)
                  go_simp
                  try with_reducible rfl
                (try simp only [Act.put, List.setIfInBounds_toArray, List.set_cons_zero, List.set_cons_succ])
                refine wpAnyH_take (i := 3) (oi := { dst := some 93, op := Go.Op.load 3 (Go.Operand.tmp 92), type := 3, pos := "law.go:180", after := #[{ on := 2, ground := Go.Ground.data }], guard := none }) (v := ?_) rfl (by kernel_rfl) (by kernel_rfl) (by kernel_rfl) (fun _ _ _ h => h) (Or.inl ⟨by rfl, ?_⟩) (by assumption) ?_
                rotate_left
                · intro w hSw
                  (try dsimp only at hSw)
                  go_simp
                  try with_reducible rfl
                (try simp only [Act.put, List.setIfInBounds_toArray, List.set_cons_zero, List.set_cons_succ])
                refine wpAnyH_take (i := 4) (oi := { dst := some 94, op := Go.Op.binOp Go.BinOp.mul 3 (Go.Operand.tmp 91) (Go.Operand.tmp 93) 3, type := 3, pos := "law.go:180", after := #[{ on := 1, ground := Go.Ground.data }, { on := 3, ground := Go.Ground.data }], guard := none }) (v := ?_) rfl (by kernel_rfl) (by kernel_rfl) (by kernel_rfl) (fun _ _ _ h => h) (Or.inl ⟨by rfl, ?_⟩) (by assumption) ?_
                rotate_left
                · intro w hSw
                  (try dsimp only at hSw)
                  go_simp
                  try with_reducible rfl
                (try simp only [Act.put, List.setIfInBounds_toArray, List.set_cons_zero, List.set_cons_succ])
                refine wpAnyH_take (i := 5) (oi := { dst := some 95, op := Go.Op.move (Go.Operand.tmp 13), type := 3, pos := "law.go:180", after := #[], guard := none }) (v := ?_) rfl (by kernel_rfl) (by kernel_rfl) (by kernel_rfl) (fun _ _ _ h => h) (Or.inl ⟨by rfl, ?_⟩) (by assumption) ?_
                rotate_left
                · intro w hSw
                  (try dsimp only at hSw)
                  go_simp
                  try with_reducible rfl
                (try simp only [Act.put, List.setIfInBounds_toArray, List.set_cons_zero, List.set_cons_succ])
                refine wpAnyH_take (i := 6) (oi := { dst := some 96, op := Go.Op.binOp Go.BinOp.add 3 (Go.Operand.tmp 94) (Go.Operand.tmp 95) 3, type := 3, pos := "law.go:180", after := #[{ on := 4, ground := Go.Ground.data }, { on := 5, ground := Go.Ground.data }], guard := none }) (v := ?_) rfl (by kernel_rfl) (by kernel_rfl) (by kernel_rfl) (fun _ _ _ h => h) (Or.inl ⟨by rfl, ?_⟩) (by assumption) ?_
                rotate_left
                · intro w hSw
                  (try dsimp only at hSw)
                  go_simp
                  try with_reducible rfl
                (try simp only [Act.put, List.setIfInBounds_toArray, List.set_cons_zero, List.set_cons_succ])
                refine wpAnyH_take (i := 7) (oi := { dst := some 97, op := Go.Op.binOp Go.BinOp.neq 3 (Go.Operand.tmp 90) (Go.Operand.tmp 96) 3, type := 4, pos := "law.go:180", after := #[{ on := 0, ground := Go.Ground.data }, { on := 6, ground := Go.Ground.data }], guard := none }) (v := ?_) rfl (by kernel_rfl) (by kernel_rfl) (by kernel_rfl) (fun _ _ _ h => h) (Or.inl ⟨by rfl, ?_⟩) (by assumption) ?_
                rotate_left
                · intro w hSw
                  (try dsimp only at hSw)
                  go_simp
                  try with_reducible rfl
                (try simp only [Act.put, List.setIfInBounds_toArray, List.set_cons_zero, List.set_cons_succ])
                refine wpAnyH_take (i := 8) (oi := { dst := some 98, op := Go.Op.move (Go.Operand.tmp 97), type := 4, pos := "law.go:180", after := #[{ on := 7, ground := Go.Ground.data }], guard := none }) (v := ?_) rfl (by kernel_rfl) (by kernel_rfl) (by kernel_rfl) (fun _ _ _ h => h) (Or.inl ⟨by rfl, ?_⟩) (by assumption) ?_
                rotate_left
                · intro w hSw
                  (try dsimp only at hSw)
                  go_simp
                  try with_reducible rfl
                (try simp only [Act.put, List.setIfInBounds_toArray, List.set_cons_zero, List.set_cons_succ])
                refine wpAnyH_take (i := 9) (oi := { dst := some 99, op := Go.Op.move (Go.Operand.tmp 7), type := 82, pos := "law.go:180", after := #[{ on := 8, ground := Go.Ground.guard }], guard := some (8, true) }) (v := undef) rfl (by kernel_rfl) (by kernel_rfl) (by kernel_rfl) (fun _ _ _ h => h) (Or.inr ⟨by rfl, rfl⟩) (by assumption) ?_
                (try simp only [Act.put, List.setIfInBounds_toArray, List.set_cons_zero, List.set_cons_succ])
                refine wpAnyH_take (i := 10) (oi := { dst := some 100, op := Go.Op.move (Go.Operand.tmp 14), type := 3, pos := "law.go:180", after := #[{ on := 8, ground := Go.Ground.guard }], guard := some (8, true) }) (v := undef) rfl (by kernel_rfl) (by kernel_rfl) (by kernel_rfl) (fun _ _ _ h => h) (Or.inr ⟨by rfl, rfl⟩) (by assumption) ?_
                (try simp only [Act.put, List.setIfInBounds_toArray, List.set_cons_zero, List.set_cons_succ])
                refine wpAnyH_take (i := 11) (oi := { dst := some 101, op := Go.Op.fieldAddr 79 (Go.Operand.tmp 3) 1, type := 0, pos := "law.go:180", after := #[{ on := 8, ground := Go.Ground.guard }], guard := some (8, true) }) (v := undef) rfl (by kernel_rfl) (by kernel_rfl) (by kernel_rfl) (fun _ _ _ h => h) (Or.inr ⟨by rfl, rfl⟩) (by assumption) ?_
                (try simp only [Act.put, List.setIfInBounds_toArray, List.set_cons_zero, List.set_cons_succ])
                refine wpAnyH_take (i := 12) (oi := { dst := some 102, op := Go.Op.load 3 (Go.Operand.tmp 101), type := 3, pos := "law.go:180", after := #[{ on := 11, ground := Go.Ground.data }, { on := 8, ground := Go.Ground.guard }], guard := some (8, true) }) (v := undef) rfl (by kernel_rfl) (by kernel_rfl) (by kernel_rfl) (fun _ _ _ h => h) (Or.inr ⟨by rfl, rfl⟩) (by assumption) ?_
                (try simp only [Act.put, List.setIfInBounds_toArray, List.set_cons_zero, List.set_cons_succ])
                refine wpAnyH_take (i := 13) (oi := { dst := some 103, op := Go.Op.binOp Go.BinOp.quo 3 (Go.Operand.tmp 100) (Go.Operand.tmp 102) 3, type := 3, pos := "law.go:180", after := #[{ on := 10, ground := Go.Ground.data }, { on := 12, ground := Go.Ground.data }, { on := 8, ground := Go.Ground.guard }], guard := some (8, true) }) (v := undef) rfl (by kernel_rfl) (by kernel_rfl) (by kernel_rfl) (fun _ _ _ h => h) (Or.inr ⟨by rfl, rfl⟩) (by assumption) ?_
                (try simp only [Act.put, List.setIfInBounds_toArray, List.set_cons_zero, List.set_cons_succ])
                refine wpAnyH_take (i := 14) (oi := { dst := some 104, op := Go.Op.move (Go.Operand.tmp 14), type := 3, pos := "law.go:180", after := #[{ on := 8, ground := Go.Ground.guard }], guard := some (8, true) }) (v := undef) rfl (by kernel_rfl) (by kernel_rfl) (by kernel_rfl) (fun _ _ _ h => h) (Or.inr ⟨by rfl, rfl⟩) (by assumption) ?_
                (try simp only [Act.put, List.setIfInBounds_toArray, List.set_cons_zero, List.set_cons_succ])
                refine wpAnyH_take (i := 15) (oi := { dst := some 105, op := Go.Op.fieldAddr 79 (Go.Operand.tmp 3) 1, type := 0, pos := "law.go:180", after := #[{ on := 8, ground := Go.Ground.guard }], guard := some (8, true) }) (v := undef) rfl (by kernel_rfl) (by kernel_rfl) (by kernel_rfl) (fun _ _ _ h => h) (Or.inr ⟨by rfl, rfl⟩) (by assumption) ?_
                (try simp only [Act.put, List.setIfInBounds_toArray, List.set_cons_zero, List.set_cons_succ])
                refine wpAnyH_take (i := 16) (oi := { dst := some 106, op := Go.Op.load 3 (Go.Operand.tmp 105), type := 3, pos := "law.go:180", after := #[{ on := 15, ground := Go.Ground.data }, { on := 8, ground := Go.Ground.guard }], guard := some (8, true) }) (v := undef) rfl (by kernel_rfl) (by kernel_rfl) (by kernel_rfl) (fun _ _ _ h => h) (Or.inr ⟨by rfl, rfl⟩) (by assumption) ?_
                (try simp only [Act.put, List.setIfInBounds_toArray, List.set_cons_zero, List.set_cons_succ])
                refine wpAnyH_take (i := 17) (oi := { dst := some 107, op := Go.Op.binOp Go.BinOp.rem 3 (Go.Operand.tmp 104) (Go.Operand.tmp 106) 3, type := 3, pos := "law.go:180", after := #[{ on := 14, ground := Go.Ground.data }, { on := 16, ground := Go.Ground.data }, { on := 8, ground := Go.Ground.guard }], guard := some (8, true) }) (v := undef) rfl (by kernel_rfl) (by kernel_rfl) (by kernel_rfl) (fun _ _ _ h => h) (Or.inr ⟨by rfl, rfl⟩) (by assumption) ?_
                (try simp only [Act.put, List.setIfInBounds_toArray, List.set_cons_zero, List.set_cons_succ])
                refine wpAnyH_take (i := 18) (oi := { dst := some 108, op := Go.Op.call { callee := Go.Callee.value (Go.Operand.func 43), args := #[Go.Operand.tmp 99, Go.Operand.tmp 103, Go.Operand.tmp 107], argTypes := #[82, 3, 3] }, type := 30, pos := "law.go:180", after := #[{ on := 9, ground := Go.Ground.data }, { on := 13, ground := Go.Ground.data }, { on := 17, ground := Go.Ground.data }, { on := 8, ground := Go.Ground.chain }, { on := 8, ground := Go.Ground.guard }], guard := some (8, true) }) (v := undef) rfl (by kernel_rfl) (by kernel_rfl) (by kernel_rfl) (fun _ _ _ h => h) (Or.inr ⟨by rfl, rfl⟩) (by assumption) ?_
                (try simp only [Act.put, List.setIfInBounds_toArray, List.set_cons_zero, List.set_cons_succ])
                refine wpAnyH_take (i := 19) (oi := { dst := some 109, op := Go.Op.call { callee := Go.Callee.value (Go.Operand.func 21), args := #[Go.Operand.tmp 108], argTypes := #[30] }, type := 22, pos := "law.go:180", after := #[{ on := 18, ground := Go.Ground.data }, { on := 18, ground := Go.Ground.chain }, { on := 8, ground := Go.Ground.guard }], guard := some (8, true) }) (v := undef) rfl (by kernel_rfl) (by kernel_rfl) (by kernel_rfl) (fun _ _ _ h => h) (Or.inr ⟨by rfl, rfl⟩) (by assumption) ?_
                (try simp only [Act.put, List.setIfInBounds_toArray, List.set_cons_zero, List.set_cons_succ])
                refine wpAnyH_take (i := 20) (oi := { dst := some 110, op := Go.Op.move (Go.Operand.tmp 10), type := 82, pos := "law.go:180", after := #[{ on := 8, ground := Go.Ground.guard }], guard := some (8, true) }) (v := undef) rfl (by kernel_rfl) (by kernel_rfl) (by kernel_rfl) (fun _ _ _ h => h) (Or.inr ⟨by rfl, rfl⟩) (by assumption) ?_
                (try simp only [Act.put, List.setIfInBounds_toArray, List.set_cons_zero, List.set_cons_succ])
                refine wpAnyH_take (i := 21) (oi := { dst := some 111, op := Go.Op.move (Go.Operand.tmp 14), type := 3, pos := "law.go:180", after := #[{ on := 8, ground := Go.Ground.guard }], guard := some (8, true) }) (v := undef) rfl (by kernel_rfl) (by kernel_rfl) (by kernel_rfl) (fun _ _ _ h => h) (Or.inr ⟨by rfl, rfl⟩) (by assumption) ?_
                (try simp only [Act.put, List.setIfInBounds_toArray, List.set_cons_zero, List.set_cons_succ])
                refine wpAnyH_take (i := 22) (oi := { dst := some 112, op := Go.Op.fieldAddr 79 (Go.Operand.tmp 3) 1, type := 0, pos := "law.go:180", after := #[{ on := 8, ground := Go.Ground.guard }], guard := some (8, true) }) (v := undef) rfl (by kernel_rfl) (by kernel_rfl) (by kernel_rfl) (fun _ _ _ h => h) (Or.inr ⟨by rfl, rfl⟩) (by assumption) ?_
                (try simp only [Act.put, List.setIfInBounds_toArray, List.set_cons_zero, List.set_cons_succ])
                refine wpAnyH_take (i := 23) (oi := { dst := some 113, op := Go.Op.load 3 (Go.Operand.tmp 112), type := 3, pos := "law.go:180", after := #[{ on := 22, ground := Go.Ground.data }, { on := 8, ground := Go.Ground.guard }], guard := some (8, true) }) (v := undef) rfl (by kernel_rfl) (by kernel_rfl) (by kernel_rfl) (fun _ _ _ h => h) (Or.inr ⟨by rfl, rfl⟩) (by assumption) ?_
                (try simp only [Act.put, List.setIfInBounds_toArray, List.set_cons_zero, List.set_cons_succ])
                refine wpAnyH_take (i := 24) (oi := { dst := some 114, op := Go.Op.binOp Go.BinOp.quo 3 (Go.Operand.tmp 111) (Go.Operand.tmp 113) 3, type := 3, pos := "law.go:180", after := #[{ on := 21, ground := Go.Ground.data }, { on := 23, ground := Go.Ground.data }, { on := 8, ground := Go.Ground.guard }], guard := some (8, true) }) (v := undef) rfl (by kernel_rfl) (by kernel_rfl) (by kernel_rfl) (fun _ _ _ h => h) (Or.inr ⟨by rfl, rfl⟩) (by assumption) ?_
                (try simp only [Act.put, List.setIfInBounds_toArray, List.set_cons_zero, List.set_cons_succ])
                refine wpAnyH_take (i := 25) (oi := { dst := some 115, op := Go.Op.move (Go.Operand.tmp 14), type := 3, pos := "law.go:180", after := #[{ on := 8, ground := Go.Ground.guard }], guard := some (8, true) }) (v := undef) rfl (by kernel_rfl) (by kernel_rfl) (by kernel_rfl) (fun _ _ _ h => h) (Or.inr ⟨by rfl, rfl⟩) (by assumption) ?_
                (try simp only [Act.put, List.setIfInBounds_toArray, List.set_cons_zero, List.set_cons_succ])
                refine wpAnyH_take (i := 26) (oi := { dst := some 116, op := Go.Op.fieldAddr 79 (Go.Operand.tmp 3) 1, type := 0, pos := "law.go:180", after := #[{ on := 8, ground := Go.Ground.guard }], guard := some (8, true) }) (v := undef) rfl (by kernel_rfl) (by kernel_rfl) (by kernel_rfl) (fun _ _ _ h => h) (Or.inr ⟨by rfl, rfl⟩) (by assumption) ?_
                (try simp only [Act.put, List.setIfInBounds_toArray, List.set_cons_zero, List.set_cons_succ])
                refine wpAnyH_take (i := 27) (oi := { dst := some 117, op := Go.Op.load 3 (Go.Operand.tmp 116), type := 3, pos := "law.go:180", after := #[{ on := 26, ground := Go.Ground.data }, { on := 8, ground := Go.Ground.guard }], guard := some (8, true) }) (v := undef) rfl (by kernel_rfl) (by kernel_rfl) (by kernel_rfl) (fun _ _ _ h => h) (Or.inr ⟨by rfl, rfl⟩) (by assumption) ?_
                (try simp only [Act.put, List.setIfInBounds_toArray, List.set_cons_zero, List.set_cons_succ])
                refine wpAnyH_take (i := 28) (oi := { dst := some 118, op := Go.Op.binOp Go.BinOp.rem 3 (Go.Operand.tmp 115) (Go.Operand.tmp 117) 3, type := 3, pos := "law.go:180", after := #[{ on := 25, ground := Go.Ground.data }, { on := 27, ground := Go.Ground.data }, { on := 8, ground := Go.Ground.guard }], guard := some (8, true) }) (v := undef) rfl (by kernel_rfl) (by kernel_rfl) (by kernel_rfl) (fun _ _ _ h => h) (Or.inr ⟨by rfl, rfl⟩) (by assumption) ?_
                (try simp only [Act.put, List.setIfInBounds_toArray, List.set_cons_zero, List.set_cons_succ])
                refine wpAnyH_take (i := 29) (oi := { dst := some 119, op := Go.Op.call { callee := Go.Callee.value (Go.Operand.func 43), args := #[Go.Operand.tmp 110, Go.Operand.tmp 114, Go.Operand.tmp 118], argTypes := #[82, 3, 3] }, type := 30, pos := "law.go:180", after := #[{ on := 20, ground := Go.Ground.data }, { on := 24, ground := Go.Ground.data }, { on := 28, ground := Go.Ground.data }, { on := 19, ground := Go.Ground.chain }, { on := 8, ground := Go.Ground.guard }], guard := some (8, true) }) (v := undef) rfl (by kernel_rfl) (by kernel_rfl) (by kernel_rfl) (fun _ _ _ h => h) (Or.inr ⟨by rfl, rfl⟩) (by assumption) ?_
                (try simp only [Act.put, List.setIfInBounds_toArray, List.set_cons_zero, List.set_cons_succ])
                refine wpAnyH_take (i := 30) (oi := { dst := some 120, op := Go.Op.call { callee := Go.Callee.value (Go.Operand.func 21), args := #[Go.Operand.tmp 119], argTypes := #[30] }, type := 22, pos := "law.go:180", after := #[{ on := 29, ground := Go.Ground.data }, { on := 29, ground := Go.Ground.chain }, { on := 8, ground := Go.Ground.guard }], guard := some (8, true) }) (v := undef) rfl (by kernel_rfl) (by kernel_rfl) (by kernel_rfl) (fun _ _ _ h => h) (Or.inr ⟨by rfl, rfl⟩) (by assumption) ?_
                (try simp only [Act.put, List.setIfInBounds_toArray, List.set_cons_zero, List.set_cons_succ])
                refine wpAnyH_take (i := 31) (oi := { dst := some 121, op := Go.Op.call { callee := Go.Callee.value (Go.Operand.func 20), args := #[Go.Operand.tmp 109, Go.Operand.tmp 120], argTypes := #[22, 22] }, type := 4, pos := "law.go:180", after := #[{ on := 19, ground := Go.Ground.data }, { on := 30, ground := Go.Ground.data }, { on := 30, ground := Go.Ground.chain }, { on := 8, ground := Go.Ground.guard }], guard := some (8, true) }) (v := undef) rfl (by kernel_rfl) (by kernel_rfl) (by kernel_rfl) (fun _ _ _ h => h) (Or.inr ⟨by rfl, rfl⟩) (by assumption) ?_
                (try simp only [Act.put, List.setIfInBounds_toArray, List.set_cons_zero, List.set_cons_succ])
                refine wpAnyH_take (i := 32) (oi := { dst := some 122, op := Go.Op.unOp Go.UnOp.not 4 (Go.Operand.tmp 121), type := 4, pos := "law.go:180", after := #[{ on := 31, ground := Go.Ground.data }, { on := 8, ground := Go.Ground.guard }], guard := some (8, true) }) (v := undef) rfl (by kernel_rfl) (by kernel_rfl) (by kernel_rfl) (fun _ _ _ h => h) (Or.inr ⟨by rfl, rfl⟩) (by assumption) ?_
                (try simp only [Act.put, List.setIfInBounds_toArray, List.set_cons_zero, List.set_cons_succ])
                refine wpAnyH_take (i := 33) (oi := { dst := some 123, op := Go.Op.pick (Go.Operand.tmp 98) (Go.Operand.tmp 122) (Go.Operand.const (Go.Value.bool false)), type := 4, pos := "law.go:180", after := #[{ on := 8, ground := Go.Ground.data }, { on := 32, ground := Go.Ground.data }], guard := none }) (v := ?_) rfl (by kernel_rfl) (by kernel_rfl) (by kernel_rfl) (fun _ _ _ h => h) (Or.inl ⟨by rfl, ?_⟩) (by assumption) ?_
                rotate_left
                · intro w hSw
                  (try dsimp only at hSw)
                  go_simp
                  try with_reducible rfl
                (try simp only [Act.put, List.setIfInBounds_toArray, List.set_cons_zero, List.set_cons_succ])
                refine wpAnyH_done (by kernel_rfl) ?_ _
                clear hHeld
                go_wp2
                go_roundw
                case rel => exact ⟨j + 1, by omega, by go_num, HK1.out.call ((Below.refl _ _).drew), HK2'.out.call ((Below.refl _ _).drew), hz, HXX, HBB.out.drew⟩
                case measure => simp [intOf]; omega
              · have hne : ((j : Int) != (HH : Int)) = true := ne_word hjh
                have hdm := at_div (S := S) (B := B) (i := j) hB1 (by rw [← HM.out]; exact hjm)
                obtain ⟨hd1, hd2, _⟩ := hdm
                have hgj := HOTG.out j hjh
                have HB1' := Lib.hid fun w (h : BkAt w (fun b => b ≤ p) p q S B n gg) => HBU.out w _ p q gg h j (by rw [← HM.out]; exact hjm)
                have HB2' := Lib.hid fun w (h : BkAt w (fun b => b ≤ pp) pp qq S B n g) => HBU.out w _ pp qq g h j (by rw [← HM.out]; exact hjm)
                rw [hgj] at HB1'
                have hdx : j / B ≤ 128 := Nat.le_trans (Nat.div_le_self j B) (Nat.le_trans (Nat.le_of_lt hjm) hMB)
                have hdy : j % B ≤ 128 := Nat.le_trans (Nat.mod_le j B) (Nat.le_trans (Nat.le_of_lt hjm) hMB)
                generalize g j = fj at *
                generalize j / B = dx at *
                generalize j % B = dy at *
                obtain ⟨w1', w2'⟩ := wrap_ok (x := (dx : Int)) rfl (Nat.lt_of_le_of_lt hdx (by decide))
                obtain ⟨w3', w4'⟩ := wrap_ok (x := (dy : Int)) rfl (Nat.lt_of_le_of_lt hdy (by decide))
                obtain ⟨hBn0, hB0, hB00⟩ := pos_word hB1
                clear hjh hgj HOTG HBU
                go_wp2_with fail
                refine wp_region_held_drew (S := fun w' => w'.cell? ⟨W.heap.size, 1, none⟩ = some (.int .i64 (B : Nat))) (by kernel_rfl) ?_ (fun hHeld => ?_)
                · exact x1
                refine wpAnyH_take (i := 0) (oi := { dst := some 90, op := Go.Op.move (Go.Operand.tmp 14), type := 3, pos := "law.go:180", after := #[], guard := none }) (v := ?_) rfl (by kernel_rfl) (by kernel_rfl) (by kernel_rfl) (fun _ _ _ h => h) (Or.inl ⟨by rfl, ?_⟩) (by assumption) ?_
                rotate_left
                · intro w hSw
                  (try dsimp only at hSw)
                  go_simp
                  try with_reducible rfl
                (try simp only [Act.put, List.setIfInBounds_toArray, List.set_cons_zero, List.set_cons_succ])
                refine wpAnyH_take (i := 1) (oi := { dst := some 91, op := Go.Op.move (Go.Operand.tmp 12), type := 3, pos := "law.go:180", after := #[], guard := none }) (v := ?_) rfl (by kernel_rfl) (by kernel_rfl) (by kernel_rfl) (fun _ _ _ h => h) (Or.inl ⟨by rfl, ?_⟩) (by assumption) ?_
                rotate_left
                · intro w hSw
                  (try dsimp only at hSw)
                  go_simp
                  try with_reducible rfl
                (try simp only [Act.put, List.setIfInBounds_toArray, List.set_cons_zero, List.set_cons_succ])
                refine wpAnyH_take (i := 2) (oi := { dst := some 92, op := Go.Op.fieldAddr 79 (Go.Operand.tmp 3) 1, type := 0, pos := "law.go:180", after := #[], guard := none }) (v := ?_) rfl (by kernel_rfl) (by kernel_rfl) (by kernel_rfl) (fun _ _ _ h => h) (Or.inl ⟨by rfl, ?_⟩) (by assumption) ?_
                rotate_left
                · intro w hSw
                  (try dsimp only at hSw)
                  go_simp
                  try with_reducible rfl
                (try simp only [Act.put, List.setIfInBounds_toArray, List.set_cons_zero, List.set_cons_succ])
                refine wpAnyH_take (i := 3) (oi := { dst := some 93, op := Go.Op.load 3 (Go.Operand.tmp 92), type := 3, pos := "law.go:180", after := #[{ on := 2, ground := Go.Ground.data }], guard := none }) (v := ?_) rfl (by kernel_rfl) (by kernel_rfl) (by kernel_rfl) (fun _ _ _ h => h) (Or.inl ⟨by rfl, ?_⟩) (by assumption) ?_
                rotate_left
                · intro w hSw
                  (try dsimp only at hSw)
                  go_simp
                  try with_reducible rfl
                (try simp only [Act.put, List.setIfInBounds_toArray, List.set_cons_zero, List.set_cons_succ])
                refine wpAnyH_take (i := 4) (oi := { dst := some 94, op := Go.Op.binOp Go.BinOp.mul 3 (Go.Operand.tmp 91) (Go.Operand.tmp 93) 3, type := 3, pos := "law.go:180", after := #[{ on := 1, ground := Go.Ground.data }, { on := 3, ground := Go.Ground.data }], guard := none }) (v := ?_) rfl (by kernel_rfl) (by kernel_rfl) (by kernel_rfl) (fun _ _ _ h => h) (Or.inl ⟨by rfl, ?_⟩) (by assumption) ?_
                rotate_left
                · intro w hSw
                  (try dsimp only at hSw)
                  go_simp
                  try with_reducible rfl
                (try simp only [Act.put, List.setIfInBounds_toArray, List.set_cons_zero, List.set_cons_succ])
                refine wpAnyH_take (i := 5) (oi := { dst := some 95, op := Go.Op.move (Go.Operand.tmp 13), type := 3, pos := "law.go:180", after := #[], guard := none }) (v := ?_) rfl (by kernel_rfl) (by kernel_rfl) (by kernel_rfl) (fun _ _ _ h => h) (Or.inl ⟨by rfl, ?_⟩) (by assumption) ?_
                rotate_left
                · intro w hSw
                  (try dsimp only at hSw)
                  go_simp
                  try with_reducible rfl
                (try simp only [Act.put, List.setIfInBounds_toArray, List.set_cons_zero, List.set_cons_succ])
                refine wpAnyH_take (i := 6) (oi := { dst := some 96, op := Go.Op.binOp Go.BinOp.add 3 (Go.Operand.tmp 94) (Go.Operand.tmp 95) 3, type := 3, pos := "law.go:180", after := #[{ on := 4, ground := Go.Ground.data }, { on := 5, ground := Go.Ground.data }], guard := none }) (v := ?_) rfl (by kernel_rfl) (by kernel_rfl) (by kernel_rfl) (fun _ _ _ h => h) (Or.inl ⟨by rfl, ?_⟩) (by assumption) ?_
                rotate_left
                · intro w hSw
                  (try dsimp only at hSw)
                  go_simp
                  try with_reducible rfl
                (try simp only [Act.put, List.setIfInBounds_toArray, List.set_cons_zero, List.set_cons_succ])
                refine wpAnyH_take (i := 7) (oi := { dst := some 97, op := Go.Op.binOp Go.BinOp.neq 3 (Go.Operand.tmp 90) (Go.Operand.tmp 96) 3, type := 4, pos := "law.go:180", after := #[{ on := 0, ground := Go.Ground.data }, { on := 6, ground := Go.Ground.data }], guard := none }) (v := ?_) rfl (by kernel_rfl) (by kernel_rfl) (by kernel_rfl) (fun _ _ _ h => h) (Or.inl ⟨by rfl, ?_⟩) (by assumption) ?_
                rotate_left
                · intro w hSw
                  (try dsimp only at hSw)
                  go_simp
                  try with_reducible rfl
                (try simp only [Act.put, List.setIfInBounds_toArray, List.set_cons_zero, List.set_cons_succ])
                refine wpAnyH_take (i := 8) (oi := { dst := some 98, op := Go.Op.move (Go.Operand.tmp 97), type := 4, pos := "law.go:180", after := #[{ on := 7, ground := Go.Ground.data }], guard := none }) (v := ?_) rfl (by kernel_rfl) (by kernel_rfl) (by kernel_rfl) (fun _ _ _ h => h) (Or.inl ⟨by rfl, ?_⟩) (by assumption) ?_
                rotate_left
                · intro w hSw
                  (try dsimp only at hSw)
                  go_simp
                  try with_reducible rfl
                (try simp only [Act.put, List.setIfInBounds_toArray, List.set_cons_zero, List.set_cons_succ])
                refine wpAnyH_take (i := 9) (oi := { dst := some 99, op := Go.Op.move (Go.Operand.tmp 7), type := 82, pos := "law.go:180", after := #[{ on := 8, ground := Go.Ground.guard }], guard := some (8, true) }) (v := ?_) rfl (by kernel_rfl) (by kernel_rfl) (by kernel_rfl) (fun _ _ _ h => h) (Or.inl ⟨by rfl, ?_⟩) (by assumption) ?_
                rotate_left
                · intro w hSw
                  (try dsimp only at hSw)
                  go_simp
                  try with_reducible rfl
                (try simp only [Act.put, List.setIfInBounds_toArray, List.set_cons_zero, List.set_cons_succ])
                refine wpAnyH_take (i := 10) (oi := { dst := some 100, op := Go.Op.move (Go.Operand.tmp 14), type := 3, pos := "law.go:180", after := #[{ on := 8, ground := Go.Ground.guard }], guard := some (8, true) }) (v := ?_) rfl (by kernel_rfl) (by kernel_rfl) (by kernel_rfl) (fun _ _ _ h => h) (Or.inl ⟨by rfl, ?_⟩) (by assumption) ?_
                rotate_left
                · intro w hSw
                  (try dsimp only at hSw)
                  go_simp
                  try with_reducible rfl
                (try simp only [Act.put, List.setIfInBounds_toArray, List.set_cons_zero, List.set_cons_succ])
                refine wpAnyH_take (i := 11) (oi := { dst := some 101, op := Go.Op.fieldAddr 79 (Go.Operand.tmp 3) 1, type := 0, pos := "law.go:180", after := #[{ on := 8, ground := Go.Ground.guard }], guard := some (8, true) }) (v := ?_) rfl (by kernel_rfl) (by kernel_rfl) (by kernel_rfl) (fun _ _ _ h => h) (Or.inl ⟨by rfl, ?_⟩) (by assumption) ?_
                rotate_left
                · intro w hSw
                  (try dsimp only at hSw)
                  go_simp
                  try with_reducible rfl
                (try simp only [Act.put, List.setIfInBounds_toArray, List.set_cons_zero, List.set_cons_succ])
                refine wpAnyH_take (i := 12) (oi := { dst := some 102, op := Go.Op.load 3 (Go.Operand.tmp 101), type := 3, pos := "law.go:180", after := #[{ on := 11, ground := Go.Ground.data }, { on := 8, ground := Go.Ground.guard }], guard := some (8, true) }) (v := ?_) rfl (by kernel_rfl) (by kernel_rfl) (by kernel_rfl) (fun _ _ _ h => h) (Or.inl ⟨by rfl, ?_⟩) (by assumption) ?_
                rotate_left
                · intro w hSw
                  (try dsimp only at hSw)
                  go_simp
                  try with_reducible rfl
                (try simp only [Act.put, List.setIfInBounds_toArray, List.set_cons_zero, List.set_cons_succ])
                refine wpAnyH_take (i := 13) (oi := { dst := some 103, op := Go.Op.binOp Go.BinOp.quo 3 (Go.Operand.tmp 100) (Go.Operand.tmp 102) 3, type := 3, pos := "law.go:180", after := #[{ on := 10, ground := Go.Ground.data }, { on := 12, ground := Go.Ground.data }, { on := 8, ground := Go.Ground.guard }], guard := some (8, true) }) (v := ?_) rfl (by kernel_rfl) (by kernel_rfl) (by kernel_rfl) (fun _ _ _ h => h) (Or.inl ⟨by rfl, ?_⟩) (by assumption) ?_
                rotate_left
                · intro w hSw
                  (try dsimp only at hSw)
                  go_simp
                  try with_reducible rfl
                (try simp only [Act.put, List.setIfInBounds_toArray, List.set_cons_zero, List.set_cons_succ])
                refine wpAnyH_take (i := 14) (oi := { dst := some 104, op := Go.Op.move (Go.Operand.tmp 14), type := 3, pos := "law.go:180", after := #[{ on := 8, ground := Go.Ground.guard }], guard := some (8, true) }) (v := ?_) rfl (by kernel_rfl) (by kernel_rfl) (by kernel_rfl) (fun _ _ _ h => h) (Or.inl ⟨by rfl, ?_⟩) (by assumption) ?_
                rotate_left
                · intro w hSw
                  (try dsimp only at hSw)
                  go_simp
                  try with_reducible rfl
                (try simp only [Act.put, List.setIfInBounds_toArray, List.set_cons_zero, List.set_cons_succ])
                refine wpAnyH_take (i := 15) (oi := { dst := some 105, op := Go.Op.fieldAddr 79 (Go.Operand.tmp 3) 1, type := 0, pos := "law.go:180", after := #[{ on := 8, ground := Go.Ground.guard }], guard := some (8, true) }) (v := ?_) rfl (by kernel_rfl) (by kernel_rfl) (by kernel_rfl) (fun _ _ _ h => h) (Or.inl ⟨by rfl, ?_⟩) (by assumption) ?_
                rotate_left
                · intro w hSw
                  (try dsimp only at hSw)
                  go_simp
                  try with_reducible rfl
                (try simp only [Act.put, List.setIfInBounds_toArray, List.set_cons_zero, List.set_cons_succ])
                refine wpAnyH_take (i := 16) (oi := { dst := some 106, op := Go.Op.load 3 (Go.Operand.tmp 105), type := 3, pos := "law.go:180", after := #[{ on := 15, ground := Go.Ground.data }, { on := 8, ground := Go.Ground.guard }], guard := some (8, true) }) (v := ?_) rfl (by kernel_rfl) (by kernel_rfl) (by kernel_rfl) (fun _ _ _ h => h) (Or.inl ⟨by rfl, ?_⟩) (by assumption) ?_
                rotate_left
                · intro w hSw
                  (try dsimp only at hSw)
                  go_simp
                  try with_reducible rfl
                (try simp only [Act.put, List.setIfInBounds_toArray, List.set_cons_zero, List.set_cons_succ])
                refine wpAnyH_take (i := 17) (oi := { dst := some 107, op := Go.Op.binOp Go.BinOp.rem 3 (Go.Operand.tmp 104) (Go.Operand.tmp 106) 3, type := 3, pos := "law.go:180", after := #[{ on := 14, ground := Go.Ground.data }, { on := 16, ground := Go.Ground.data }, { on := 8, ground := Go.Ground.guard }], guard := some (8, true) }) (v := ?_) rfl (by kernel_rfl) (by kernel_rfl) (by kernel_rfl) (fun _ _ _ h => h) (Or.inl ⟨by rfl, ?_⟩) (by assumption) ?_
                rotate_left
                · intro w hSw
                  (try dsimp only at hSw)
                  go_simp
                  try with_reducible rfl
                (try simp only [Act.put, List.setIfInBounds_toArray, List.set_cons_zero, List.set_cons_succ])
                refine wpAnyH_take (i := 20) (oi := { dst := some 110, op := Go.Op.move (Go.Operand.tmp 10), type := 82, pos := "law.go:180", after := #[{ on := 8, ground := Go.Ground.guard }], guard := some (8, true) }) (v := ?_) rfl (by kernel_rfl) (by kernel_rfl) (by kernel_rfl) (fun _ _ _ h => h) (Or.inl ⟨by rfl, ?_⟩) (by assumption) ?_
                rotate_left
                · intro w hSw
                  (try dsimp only at hSw)
                  go_simp
                  try with_reducible rfl
                (try simp only [Act.put, List.setIfInBounds_toArray, List.set_cons_zero, List.set_cons_succ])
                refine wpAnyH_take (i := 21) (oi := { dst := some 111, op := Go.Op.move (Go.Operand.tmp 14), type := 3, pos := "law.go:180", after := #[{ on := 8, ground := Go.Ground.guard }], guard := some (8, true) }) (v := ?_) rfl (by kernel_rfl) (by kernel_rfl) (by kernel_rfl) (fun _ _ _ h => h) (Or.inl ⟨by rfl, ?_⟩) (by assumption) ?_
                rotate_left
                · intro w hSw
                  (try dsimp only at hSw)
                  go_simp
                  try with_reducible rfl
                (try simp only [Act.put, List.setIfInBounds_toArray, List.set_cons_zero, List.set_cons_succ])
                refine wpAnyH_take (i := 22) (oi := { dst := some 112, op := Go.Op.fieldAddr 79 (Go.Operand.tmp 3) 1, type := 0, pos := "law.go:180", after := #[{ on := 8, ground := Go.Ground.guard }], guard := some (8, true) }) (v := ?_) rfl (by kernel_rfl) (by kernel_rfl) (by kernel_rfl) (fun _ _ _ h => h) (Or.inl ⟨by rfl, ?_⟩) (by assumption) ?_
                rotate_left
                · intro w hSw
                  (try dsimp only at hSw)
                  go_simp
                  try with_reducible rfl
                (try simp only [Act.put, List.setIfInBounds_toArray, List.set_cons_zero, List.set_cons_succ])
                refine wpAnyH_take (i := 23) (oi := { dst := some 113, op := Go.Op.load 3 (Go.Operand.tmp 112), type := 3, pos := "law.go:180", after := #[{ on := 22, ground := Go.Ground.data }, { on := 8, ground := Go.Ground.guard }], guard := some (8, true) }) (v := ?_) rfl (by kernel_rfl) (by kernel_rfl) (by kernel_rfl) (fun _ _ _ h => h) (Or.inl ⟨by rfl, ?_⟩) (by assumption) ?_
                rotate_left
                · intro w hSw
                  (try dsimp only at hSw)
                  go_simp
                  try with_reducible rfl
                (try simp only [Act.put, List.setIfInBounds_toArray, List.set_cons_zero, List.set_cons_succ])
                refine wpAnyH_take (i := 24) (oi := { dst := some 114, op := Go.Op.binOp Go.BinOp.quo 3 (Go.Operand.tmp 111) (Go.Operand.tmp 113) 3, type := 3, pos := "law.go:180", after := #[{ on := 21, ground := Go.Ground.data }, { on := 23, ground := Go.Ground.data }, { on := 8, ground := Go.Ground.guard }], guard := some (8, true) }) (v := ?_) rfl (by kernel_rfl) (by kernel_rfl) (by kernel_rfl) (fun _ _ _ h => h) (Or.inl ⟨by rfl, ?_⟩) (by assumption) ?_
                rotate_left
                · intro w hSw
                  (try dsimp only at hSw)
                  go_simp
                  try with_reducible rfl
                (try simp only [Act.put, List.setIfInBounds_toArray, List.set_cons_zero, List.set_cons_succ])
                refine wpAnyH_take (i := 25) (oi := { dst := some 115, op := Go.Op.move (Go.Operand.tmp 14), type := 3, pos := "law.go:180", after := #[{ on := 8, ground := Go.Ground.guard }], guard := some (8, true) }) (v := ?_) rfl (by kernel_rfl) (by kernel_rfl) (by kernel_rfl) (fun _ _ _ h => h) (Or.inl ⟨by rfl, ?_⟩) (by assumption) ?_
                rotate_left
                · intro w hSw
                  (try dsimp only at hSw)
                  go_simp
                  try with_reducible rfl
                (try simp only [Act.put, List.setIfInBounds_toArray, List.set_cons_zero, List.set_cons_succ])
                refine wpAnyH_take (i := 26) (oi := { dst := some 116, op := Go.Op.fieldAddr 79 (Go.Operand.tmp 3) 1, type := 0, pos := "law.go:180", after := #[{ on := 8, ground := Go.Ground.guard }], guard := some (8, true) }) (v := ?_) rfl (by kernel_rfl) (by kernel_rfl) (by kernel_rfl) (fun _ _ _ h => h) (Or.inl ⟨by rfl, ?_⟩) (by assumption) ?_
                rotate_left
                · intro w hSw
                  (try dsimp only at hSw)
                  go_simp
                  try with_reducible rfl
                (try simp only [Act.put, List.setIfInBounds_toArray, List.set_cons_zero, List.set_cons_succ])
                refine wpAnyH_take (i := 27) (oi := { dst := some 117, op := Go.Op.load 3 (Go.Operand.tmp 116), type := 3, pos := "law.go:180", after := #[{ on := 26, ground := Go.Ground.data }, { on := 8, ground := Go.Ground.guard }], guard := some (8, true) }) (v := ?_) rfl (by kernel_rfl) (by kernel_rfl) (by kernel_rfl) (fun _ _ _ h => h) (Or.inl ⟨by rfl, ?_⟩) (by assumption) ?_
                rotate_left
                · intro w hSw
                  (try dsimp only at hSw)
                  go_simp
                  try with_reducible rfl
                (try simp only [Act.put, List.setIfInBounds_toArray, List.set_cons_zero, List.set_cons_succ])
                refine wpAnyH_take (i := 28) (oi := { dst := some 118, op := Go.Op.binOp Go.BinOp.rem 3 (Go.Operand.tmp 115) (Go.Operand.tmp 117) 3, type := 3, pos := "law.go:180", after := #[{ on := 25, ground := Go.Ground.data }, { on := 27, ground := Go.Ground.data }, { on := 8, ground := Go.Ground.guard }], guard := some (8, true) }) (v := ?_) rfl (by kernel_rfl) (by kernel_rfl) (by kernel_rfl) (fun _ _ _ h => h) (Or.inl ⟨by rfl, ?_⟩) (by assumption) ?_
                rotate_left
                · intro w hSw
                  (try dsimp only at hSw)
                  go_simp
                  try with_reducible rfl
                (try simp only [Act.put, List.setIfInBounds_toArray, List.set_cons_zero, List.set_cons_succ])
                refine wpAnyH_ready (rs := [18]) (by kernel_rfl) (by simp) ?_
                refine AllReadyH.cons (o := { dst := some 108, op := Go.Op.call { callee := Go.Callee.value (Go.Operand.func 43), args := #[Go.Operand.tmp 99, Go.Operand.tmp 103, Go.Operand.tmp 107], argTypes := #[82, 3, 3] }, type := 30, pos := "law.go:180", after := #[{ on := 9, ground := Go.Ground.data }, { on := 13, ground := Go.Ground.data }, { on := 17, ground := Go.Ground.data }, { on := 8, ground := Go.Ground.chain }, { on := 8, ground := Go.Ground.guard }], guard := some (8, true) }) rfl (fun K hK => ?_) AllReadyH.nil
                go_simp
                refine Calls.mono (HB1'.out _ (HK1.out.call ((Below.refl _ _).drew))) ?_
                intro e u1 hpost
                obtain ⟨va, he, hra, hb⟩ := hpost
                (try simp only [id] at he)
                subst he
                have hbd : Below wr.heap.size wr u1 := ((Below.refl wr.heap.size wr).drew).trans hb
                have R1 := Lib.hid hra
                have HKx := Lib.hid (HK1.out.call hbd)
                have HKy := Lib.hid (HK2'.out.call hbd)
                have HBx := Lib.hid (HBB.out.trans (hbd.mono (by omega)))
                have hzu := hbd.size
                have x0 := (hbd.cell (p := ⟨W.heap.size, 0, none⟩) (by show W.heap.size < wr.heap.size; omega)).trans x0
                refine hK.out _ _ ?_ (fun hHeld => ?_)
                · (try dsimp only)
                  exact (hb.cell (p := ⟨W.heap.size, 1, none⟩) (by show W.heap.size < wr.heap.size; omega)).trans hHeld
                clear hK K
                (try simp only [Act.put, List.setIfInBounds_toArray, List.set_cons_zero, List.set_cons_succ])
                refine wpAnyH_ready (rs := [19]) (by kernel_rfl) (by simp) ?_
                refine AllReadyH.cons (o := { dst := some 109, op := Go.Op.call { callee := Go.Callee.value (Go.Operand.func 21), args := #[Go.Operand.tmp 108], argTypes := #[30] }, type := 22, pos := "law.go:180", after := #[{ on := 18, ground := Go.Ground.data }, { on := 18, ground := Go.Ground.chain }, { on := 8, ground := Go.Ground.guard }], guard := some (8, true) }) rfl (fun K hK => ?_) AllReadyH.nil
                go_simp
                refine Calls.mono (HFR.out _ _ _ R1.out.row) ?_
                intro e u2 hpost
                obtain ⟨vb, he, hrb, hb⟩ := hpost
                (try simp only [id] at he)
                subst he
                have R2 := Lib.hid hrb
                have HKx := Lib.hid (HKx.out.call hb)
                have HKy := Lib.hid (HKy.out.call hb)
                have HBx := Lib.hid (HBx.out.trans (hb.mono (by omega)))
                have x0 := (hb.cell (p := ⟨W.heap.size, 0, none⟩) (by show W.heap.size < _; omega)).trans x0
                have hzu2 := hb.size
                refine hK.out _ _ ?_ (fun hHeld => ?_)
                · (try dsimp only)
                  exact (hb.cell (p := ⟨W.heap.size, 1, none⟩) (by show W.heap.size < _; omega)).trans hHeld
                clear hK K
                (try simp only [Act.put, List.setIfInBounds_toArray, List.set_cons_zero, List.set_cons_succ])
                refine wpAnyH_ready (rs := [29]) (by kernel_rfl) (by simp) ?_
                refine AllReadyH.cons (o := { dst := some 119, op := Go.Op.call { callee := Go.Callee.value (Go.Operand.func 43), args := #[Go.Operand.tmp 110, Go.Operand.tmp 114, Go.Operand.tmp 118], argTypes := #[82, 3, 3] }, type := 30, pos := "law.go:180", after := #[{ on := 20, ground := Go.Ground.data }, { on := 24, ground := Go.Ground.data }, { on := 28, ground := Go.Ground.data }, { on := 19, ground := Go.Ground.chain }, { on := 8, ground := Go.Ground.guard }], guard := some (8, true) }) rfl (fun K hK => ?_) AllReadyH.nil
                go_simp
                refine Calls.mono (HB2'.out _ HKy.out) ?_
                intro e u3 hpost
                obtain ⟨vc, he, hrc, hb⟩ := hpost
                (try simp only [id] at he)
                subst he
                have R3 := Lib.hid hrc
                have R2 := Lib.hid (R2.out.below hb)
                have HKx := Lib.hid (HKx.out.call hb)
                have HKy := Lib.hid (HKy.out.call hb)
                have HBx := Lib.hid (HBx.out.trans (hb.mono (by omega)))
                have x0 := (hb.cell (p := ⟨W.heap.size, 0, none⟩) (by show W.heap.size < _; omega)).trans x0
                have hzu3 := hb.size
                refine hK.out _ _ ?_ (fun hHeld => ?_)
                · (try dsimp only)
                  exact (hb.cell (p := ⟨W.heap.size, 1, none⟩) (by show W.heap.size < _; omega)).trans hHeld
                clear hK K
                (try simp only [Act.put, List.setIfInBounds_toArray, List.set_cons_zero, List.set_cons_succ])
                refine wpAnyH_ready (rs := [30]) (by kernel_rfl) (by simp) ?_
                refine AllReadyH.cons (o := { dst := some 120, op := Go.Op.call { callee := Go.Callee.value (Go.Operand.func 21), args := #[Go.Operand.tmp 119], argTypes := #[30] }, type := 22, pos := "law.go:180", after := #[{ on := 29, ground := Go.Ground.data }, { on := 29, ground := Go.Ground.chain }, { on := 8, ground := Go.Ground.guard }], guard := some (8, true) }) rfl (fun K hK => ?_) AllReadyH.nil
                go_simp
                refine Calls.mono (HFR.out _ _ _ R3.out.row) ?_
                intro e u4 hpost
                obtain ⟨vd, he, hrd, hb⟩ := hpost
                (try simp only [id] at he)
                subst he
                have R4 := Lib.hid hrd
                have R2 := Lib.hid (R2.out.below hb)
                have HKx := Lib.hid (HKx.out.call hb)
                have HKy := Lib.hid (HKy.out.call hb)
                have HBx := Lib.hid (HBx.out.trans (hb.mono (by omega)))
                have x0 := (hb.cell (p := ⟨W.heap.size, 0, none⟩) (by show W.heap.size < _; omega)).trans x0
                have hzu4 := hb.size
                refine hK.out _ _ ?_ (fun hHeld => ?_)
                · (try dsimp only)
                  exact (hb.cell (p := ⟨W.heap.size, 1, none⟩) (by show W.heap.size < _; omega)).trans hHeld
                clear hK K
                (try simp only [Act.put, List.setIfInBounds_toArray, List.set_cons_zero, List.set_cons_succ])
                refine wpAnyH_ready (rs := [31]) (by kernel_rfl) (by simp) ?_
                refine AllReadyH.cons (o := { dst := some 121, op := Go.Op.call { callee := Go.Callee.value (Go.Operand.func 20), args := #[Go.Operand.tmp 109, Go.Operand.tmp 120], argTypes := #[22, 22] }, type := 4, pos := "law.go:180", after := #[{ on := 19, ground := Go.Ground.data }, { on := 30, ground := Go.Ground.data }, { on := 30, ground := Go.Ground.chain }, { on := 8, ground := Go.Ground.guard }], guard := some (8, true) }) rfl (fun K hK => ?_) AllReadyH.nil
                go_simp
                refine Calls.mono (ref10_SameEq R2.out.row R4.out.row) ?_
                intro e u5 hpost
                obtain ⟨rfl, hb⟩ := hpost
                have HKx := Lib.hid (HKx.out.call hb)
                have HKy := Lib.hid (HKy.out.call hb)
                have HBx := Lib.hid (HBx.out.trans (hb.mono (by omega)))
                have x0 := (hb.cell (p := ⟨W.heap.size, 0, none⟩) (by show W.heap.size < _; omega)).trans x0
                have hzu5 := hb.size
                refine hK.out _ _ ?_ (fun hHeld => ?_)
                · (try dsimp only)
                  exact (hb.cell (p := ⟨W.heap.size, 1, none⟩) (by show W.heap.size < _; omega)).trans hHeld
                clear hK K
                (try simp only [Act.put, List.setIfInBounds_toArray, List.set_cons_zero, List.set_cons_succ])
                refine wpAnyH_take (i := 32) (oi := { dst := some 122, op := Go.Op.unOp Go.UnOp.not 4 (Go.Operand.tmp 121), type := 4, pos := "law.go:180", after := #[{ on := 31, ground := Go.Ground.data }, { on := 8, ground := Go.Ground.guard }], guard := some (8, true) }) (v := ?_) rfl (by kernel_rfl) (by kernel_rfl) (by kernel_rfl) (fun _ _ _ h => h) (Or.inl ⟨by rfl, ?_⟩) (by assumption) ?_
                rotate_left
                · intro w hSw
                  (try dsimp only at hSw)
                  go_simp
                  try with_reducible rfl
                (try simp only [Act.put, List.setIfInBounds_toArray, List.set_cons_zero, List.set_cons_succ])
                refine wpAnyH_take (i := 33) (oi := { dst := some 123, op := Go.Op.pick (Go.Operand.tmp 98) (Go.Operand.tmp 122) (Go.Operand.const (Go.Value.bool false)), type := 4, pos := "law.go:180", after := #[{ on := 8, ground := Go.Ground.data }, { on := 32, ground := Go.Ground.data }], guard := none }) (v := ?_) rfl (by kernel_rfl) (by kernel_rfl) (by kernel_rfl) (fun _ _ _ h => h) (Or.inl ⟨by rfl, ?_⟩) (by assumption) ?_
                rotate_left
                · intro w hSw
                  (try dsimp only at hSw)
                  go_simp
                  try with_reducible rfl
                (try simp only [Act.put, List.setIfInBounds_toArray, List.set_cons_zero, List.set_cons_succ])
                refine wpAnyH_done (by kernel_rfl) ?_ _
                go_wp2
                go_roundw
                case rel => exact ⟨j + 1, by omega, by go_num, HKx, HKy, by omega, ⟨x0, hHeld⟩, HBx⟩
                case measure => simp [intOf]; omega
            · go_wp2
              go_ret
              exact ⟨by first | rfl | (simp; done), HBB.out⟩

set_option maxRecDepth 100000 in
/-- What the walk gives, for every argument: the row's own words. -/
theorem contract (H : Type) (enc : TypeId × Value → H) (W : World) (base : Nat) (args : Array Value) (ds gs : List (DataW H)) (before : List MemPlace)
    (hval : ∀ (j : Nat) t v, Try.f12.params[j]? = some t → args[j]? = some v → Value.okWide Try.prog W .any base t v)
    (hW : DataW.Whole enc Try.prog Try.f12.params.toList Rows.bookApartSpec.vars false W args.toList ds gs before) :
    Calls Try.prog 12 args W fun e W' => ∃ v, e = .returned v ∧ Rows.bookApartSpec.post enc Try.prog Try.f12 false true false false W args v W' := by
  have hW' := hW
  obtain ⟨p, q, hA0, hV, rfl, hfz, hnd⟩ := hW
  have hA : DataW.TrodAll enc Try.prog W 0 (fun _ => true) true Try.f12.params.toList args.toList ds p := hA0
  rw [Try.params12] at hA hval
  obtain ⟨v0, vs0, d0, ds0, p0, q0, hargs, rfl, rfl, h0, r0⟩ := trodAll_cons hA
  obtain ⟨v1, vs1, d1, ds1, p1, q1, rfl, rfl, rfl, h1, r1⟩ := trodAll_cons r0
  obtain ⟨v2, vs2, d2, ds2, p2, q2, rfl, rfl, rfl, h2, r2⟩ := trodAll_cons r1
  obtain ⟨rfl, rfl, rfl⟩ := trodAll_nil r2
  obtain rfl : args = #[v0, v1, v2] := by cases args; simp_all
  obtain ⟨a0, e0, c0, rfl⟩ := open_size Try.underlying79 (t0 := 3) (t1 := 3) (t2 := 3) (by kernel_rfl) (by kernel_rfl) (by kernel_rfl) (by kernel_rfl) (by kernel_rfl) (hval 0 79 v0 rfl rfl) h0
  have b1 := open_ops11 Try.underlying80 (t0 := 3) (t1 := 3) (t2 := 23) (t3 := 3) (t4 := 3) (t5 := 26) (t6 := 26) (by kernel_rfl) (by kernel_rfl) (by kernel_rfl) (by kernel_rfl) (by kernel_rfl) (by kernel_rfl) (by kernel_rfl) (by kernel_rfl) (by kernel_rfl) (hval 1 80 v1 rfl rfl) h1
  obtain ⟨kd2, kv2, m2, pp2, dd2, n2, o2, rfl, hm2, hn2, ho2⟩ := open_op11 Try.underlying93 (t0 := 3) (t1 := 3) (t2 := 23) (t3 := 3) (t4 := 3) (t5 := 26) (t6 := 26) (by kernel_rfl) (by kernel_rfl) (by kernel_rfl) (by kernel_rfl) (by kernel_rfl) (by kernel_rfl) (by kernel_rfl) (by kernel_rfl) (by kernel_rfl) (hval 2 93 v2 rfl rfl) h2
  refine (walk W a0 e0 c0 v1 b1 kd2 kv2 m2 pp2 dd2 n2 o2 hm2 hn2 ho2).mono fun e W' ⟨he, hb⟩ => ?_
  subst he
  exact close_true (by kernel_rfl) Try.underlying4 (by kernel_rfl) (by kernel_rfl) rfl rfl hW' hb

set_option maxRecDepth 100000 in
theorem lifted (os : Os) (started : os.Started) (H : Type) (enc : TypeId × Value → H) :
    ReturnsInHanded {} Try.checked os 12 .any (Rows.bookApartSpec.pre6 enc Try.prog Try.f12 Rows.bookApartRow.domain false) (Rows.bookApartSpec.post enc Try.prog Try.f12 false true false false) := by
  refine returnsInHanded_of_change (C := Try.checked) own started (by kernel_rfl) Try.func12
    (ChangeSpec.witness6 (enc := enc) (C := Try.checked) false ⟨#[], #[.agg #[.int .i64 0, .int .i64 0, .int .i64 0], .slice none 0 0, .agg #[.int .i64 0, .int .i64 0, .int .u64 0, .int .i64 0, .int .i64 0, .int .u32 0, .int .u32 0]], []⟩ 8 (by kernel_rfl) (by kernel_rfl) (by kernel_rfl) (by kernel_rfl)) ?_
  intro W base args ds gs before hval hW _ _
  exact contract H enc W base args ds gs before hval hW

theorem proved : Rows.BookApartSaid :=
  OpenClaim.holds_of_wide 12 Try.f12 rfl rfl rfl rfl rfl rfl rfl ⟨rfl, rfl, rfl, rfl, rfl⟩ rfl rfl rfl rfl rfl (by kernel_rfl) Try.func12 (by kernel_rfl)
    (of_decide_eq_true (by kernel_rfl)) (by unfold Func.isWrapper; first | (rw [if_pos (by decide +kernel)]; kernel_rfl) | (rw [if_neg (by decide +kernel)]; exact ⟨rfl, rfl⟩))
    (fun os started H enc _ => lifted os started H enc)
#print axioms proved
end Go.Proofs.Ytccnfcjaehcfkaa.bookApart
