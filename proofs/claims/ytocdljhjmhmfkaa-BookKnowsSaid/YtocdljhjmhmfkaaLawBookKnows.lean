/-
  Whoever is learned is known at that port at once, unless all places of its bucket are ordered, or it is itself. No condition.
-/
import Derived.Test.YtocdljhjmhmfkaaRows
import Derived.Test.YtocdljhjmhmfkaaBkL
import Derived.Test.YtocdljhjmhmfkaaOpenBk
import Derived.WalkKit
import Derived.ProofKit
import Derived.OpenShut
namespace Go.Proofs.Ytocdljhjmhmfkaa.bookKnows
open Go.ChangeShapes Go.WideShapes Go.ChangeAt Go.RowKit
open Go.ChangeMaps (open_string)
set_option linter.unusedVariables false

theorem own : ownKnob Try.prog.godebug = none := by kernel_rfl
theorem fix_size (x : Int) (k : Nat) (hk : 1 ≤ k) (hk2 : k ≤ 16) : ∃ S : Nat, 1 ≤ S ∧ S ≤ k ∧ wrap64 (1 + wrap64 ((IntKind.u64.wrap x).tmod (k : Int))) = (S : Int) := by
  have h1 : 0 ≤ IntKind.u64.wrap x := by rw [IntKind.wrap_u64]; omega
  rw [Int.tmod_eq_emod_of_nonneg h1]
  have a1 := Int.emod_nonneg (IntKind.u64.wrap x) (show (k : Int) ≠ 0 by omega)
  have a2 := Int.emod_lt_of_pos (IntKind.u64.wrap x) (show 0 < (k : Int) by omega)
  generalize IntKind.u64.wrap x % (k : Int) = y at *
  refine ⟨(1 + y).toNat, by omega, by omega, ?_⟩
  rw [IntWalk.wrap64_in y (by omega), IntWalk.wrap64_in _ (by omega)]
  omega
theorem port64 (x : Int) : ∃ P : Nat, P < 64 ∧ wrap64 ((IntKind.u64.wrap x).tmod 64) = (P : Int) ∧ IntKind.i64.wrap ((IntKind.u64.wrap x).tmod 64) = (P : Int) := by
  have h1 : 0 ≤ IntKind.u64.wrap x := by rw [IntKind.wrap_u64]; omega
  rw [Int.tmod_eq_emod_of_nonneg h1]
  refine ⟨(IntKind.u64.wrap x % 64).toNat, by omega, ?_, ?_⟩
  · rw [IntWalk.wrap64_in _ (by omega)]; omega
  · rw [IntWalk.i64_in _ (by omega)]; omega
set_option maxHeartbeats 1600000 in
theorem ref11_Fix (a b c : Int) (S B n : Nat) (h1 : wrap64 (1 + wrap64 ((IntKind.u64.wrap a).tmod ((8 : Nat) : Int))) = (S : Int)) (h2 : wrap64 (1 + wrap64 ((IntKind.u64.wrap b).tmod ((16 : Nat) : Int))) = (B : Int)) (h3 : wrap64 (1 + wrap64 ((IntKind.u64.wrap c).tmod ((8 : Nat) : Int))) = (n : Int)) (w : World) :
    Calls Try.prog 35 #[.agg #[.int .i64 a, .int .i64 b, .int .i64 c]] w (Says (.agg #[.int .i64 (S : Nat), .int .i64 (B : Nat), .int .i64 (n : Nat)]) w) := by
  rw [show ((8 : Nat) : Int) = 8 from rfl] at h1 h3
  rw [show ((16 : Nat) : Int) = 16 from rfl] at h2
  go_enter Try.func35, Try.ntmps35
  go_wp2
  exact bodyPost_ret (v := .agg #[.int .i64 (S : Nat), .int .i64 (B : Nat), .int .i64 (n : Nat)]) (by simp [results, Try.results35, go_sem]) rfl ⟨rfl, (by (repeat' (first | (with_reducible exact Below.refl _ _) | (with_reducible refine Below.setCell ?_ ?_ _) | (with_reducible refine Below.alloc ?_ ?_ _) | go_size)))⟩

set_option maxRecDepth 20000 in
set_option maxHeartbeats 25600000 in
theorem walk (W : World) (a0 e0 c0 : Int) (a1 : Value) (b1 : Ops11 W a1) (kd2 kv2 : Int) (m2 : Nat) (p2 d2 : Int) (n2 o2 : Nat) (hm2 : m2 < 18446744073709551616) (hn2 : n2 < 4294967296) (ho2 : o2 < 4294967296) :
    Calls Try.prog 13 #[.agg #[.int .i64 a0, .int .i64 e0, .int .i64 c0], a1, .agg #[.int .i64 kd2, .int .i64 kv2, .int .u64 (m2 : Int), .int .i64 p2, .int .i64 d2, .int .u32 (n2 : Int), .int .u32 (o2 : Int)]] W (Says (.bool true) W) := by
  obtain ⟨S, hS1, hS2, hSw⟩ := fix_size a0 8 (by omega) (by omega)
  obtain ⟨B, hB1, hB2, hBw⟩ := fix_size e0 16 (by omega) (by omega)
  obtain ⟨n, hN1, hN2, hnw⟩ := fix_size c0 8 (by omega) (by omega)
  obtain ⟨P, hP, hPw, hPw3⟩ := port64 p2
  obtain ⟨A, len, cap, rfl, h1, h2, h3⟩ := b1
  have HOPS := Lib.hid h3
  unfold maxLen at h2
  have HFIX := Lib.hid fun w => ref11_Fix a0 e0 c0 S B n hSw hBw hnw w
  have HTO := Lib.hid fun w => law11_To (S : Int) (B : Int) (n : Int) w
  have HNEW := Lib.hid fun w => book_New S B n ⟨hS1, hS2⟩ ⟨hB1, hB2⟩ ⟨hN1, hN2⟩ w
  have HTOLD := Lib.hid told11
  have HF8 := Lib.hid fun w => ref8_Fix kv2 m2 hm2 w
  have HT8 := Lib.hid fun w => law8_To (fixV kv2) (fixM m2 : Nat) w
  have HDO : Hid (∀ w D p q (g : Nat → Nat → Pl), BkAt w D p q S B n g → (∀ b, D b → b < w.heap.size) → D q → stG g → prG g → ∀ (kd kv : Int) (m : Nat) (port vid : Int) (now old : Nat), m < 18446744073709551616 → now < 4294967296 →
      Calls Try.prog 41 #[.pointer (some ⟨p, 0, none⟩), .agg #[.int .i64 kd, .int .i64 kv, .int .u64 (m : Int), .int .i64 port, .int .i64 vid, .int .u32 (now : Int), .int .u32 (old : Int)]] w fun e w' => ∃ r g', e = .returned (.int .i64 r) ∧ BkAt w' D p q S B n g' ∧ But q w w' ∧ stG g' ∧ prG g') := fun w D p q g hk hD hq hst hpr kd kv m port vid now old hm hnow => by
    obtain ⟨K, hK, k1, k2⟩ := kind7 kd
    refine (book_Do hk hD hq ⟨hS1, hS2⟩ ⟨hB1, hB2⟩ hN2 hst kd kv m hm port vid now old hnow K hK k1 k2).mono ?_
    rintro e w' ⟨he, hb, hbt⟩
    exact ⟨_, _, he, hb, hbt, doG_st K kv m port vid now old S B n g hst hnow, doG_pr K kv m port vid now old S B n g hpr⟩
  have HRE : Hid (rightE ⟨fixV kv2, fixM m2, (P : Int), false, n2⟩ = true) := rightE_iff.2 ⟨fix_right kv2 m2, by show (0 : Int) ≤ (P : Int); omega, by show (P : Int) < 64; omega, by simp⟩
  have HKN : Hid (∀ (g : Nat → Nat → Pl), prG g → _) := fun g hpr => put_knows (f := g (homeN (fixV kv2) (fixM m2) S B)) (n := n) HRE.out (hpr _)
  have HLK : Hid (∀ w D p q (g : Nat → Nat → Pl), BkAt w D p q S B n g → Calls Try.prog 53 #[.pointer (some ⟨p, 0, none⟩), .agg #[.int .i64 (fixV kv2), .int .u64 (fixM m2 : Nat)]] w (Says (.int .i64 (portF (g (homeN (fixV kv2) (fixM m2) S B)) (fixV kv2) (fixM m2) n)) w)) := fun w D p q g hk => book_Lookup hk ⟨hS1, hS2⟩ ⟨hB1, hB2⟩ (by omega) _ _ (by have := fixM_lt m2; omega)
  have HLE : Hid (∀ w D p q (g : Nat → Nat → Pl), BkAt w D p q S B n g → (∀ b, D b → b < w.heap.size) → D q → stG g → Calls Try.prog 54 #[.pointer (some ⟨p, 0, none⟩), .agg #[.int .i64 (fixV kv2), .int .u64 (fixM m2 : Nat)], .int .i64 (P : Int), .int .u32 (n2 : Int)] w fun e w' =>
      e = .returned (.int .i64 ((putF (fun i => ownP (g (homeN (fixV kv2) (fixM m2) S B) i)) ⟨fixV kv2, fixM m2, (P : Int), false, n2⟩ n2 n).2 : Nat)) ∧ BkAt w' D p q S B n (updR g (homeN (fixV kv2) (fixM m2) S B) (putF (fun i => ownP (g (homeN (fixV kv2) (fixM m2) S B) i)) ⟨fixV kv2, fixM m2, (P : Int), false, n2⟩ n2 n).1) ∧ But q w w') := fun w D p q g hk hD hq hst => book_Learn hk hD hq ⟨hS1, hS2⟩ ⟨hB1, hB2⟩ (by omega) (fun i _ j _ => hst i j) _ _ (by have := fixM_lt m2; omega) _ _ hn2
  obtain ⟨K, hK⟩ : ∃ K, K = min len 100 := ⟨_, rfl⟩
  have hK1 : K ≤ len := by omega
  have hK2 : K ≤ 100 := by omega
  have HNN : Hid (∀ k, k ≤ K → ¬ k < K → (len ≤ k ∨ (k < len ∧ 100 ≤ k))) := fun k a b => by omega
  clear hK h3 hm2 hn2 ho2 hSw hBw hnw
  go_enter Try.func13, Try.ntmps13
  go_wp2_with fail
  refine (HFIX.out _).mono ?_
  rintro e w1 ⟨rfl, hb⟩
  have s0 : w1.cell? ⟨W.heap.size, 0, none⟩ = some (.int .i64 a0) := by rw [(bcell hb).1 _ _ (by first | (simp; done) | (simp; omega))]; simp [go_sem]
  have s1 : w1.cell? ⟨W.heap.size, 1, none⟩ = some (.int .i64 e0) := by rw [(bcell hb).1 _ _ (by first | (simp; done) | (simp; omega))]; simp [go_sem]
  have s2 : w1.cell? ⟨W.heap.size, 2, none⟩ = some (.int .i64 c0) := by rw [(bcell hb).1 _ _ (by first | (simp; done) | (simp; omega))]; simp [go_sem]
  have s3 : w1.cell? ⟨W.heap.size + 1, 0, none⟩ = some (.int .i64 kd2) := by rw [(bcell hb).1 _ _ (by first | (simp; done) | (simp; omega))]; simp [go_sem]
  have s4 : w1.cell? ⟨W.heap.size + 1, 1, none⟩ = some (.int .i64 kv2) := by rw [(bcell hb).1 _ _ (by first | (simp; done) | (simp; omega))]; simp [go_sem]
  have s5 : w1.cell? ⟨W.heap.size + 1, 2, none⟩ = some (.int .u64 (m2 : Int)) := by rw [(bcell hb).1 _ _ (by first | (simp; done) | (simp; omega))]; simp [go_sem]
  have s6 : w1.cell? ⟨W.heap.size + 1, 3, none⟩ = some (.int .i64 p2) := by rw [(bcell hb).1 _ _ (by first | (simp; done) | (simp; omega))]; simp [go_sem]
  have s7 : w1.cell? ⟨W.heap.size + 1, 4, none⟩ = some (.int .i64 d2) := by rw [(bcell hb).1 _ _ (by first | (simp; done) | (simp; omega))]; simp [go_sem]
  have s8 : w1.cell? ⟨W.heap.size + 1, 5, none⟩ = some (.int .u32 (n2 : Int)) := by rw [(bcell hb).1 _ _ (by first | (simp; done) | (simp; omega))]; simp [go_sem]
  have s9 : w1.cell? ⟨W.heap.size + 1, 6, none⟩ = some (.int .u32 (o2 : Int)) := by rw [(bcell hb).1 _ _ (by first | (simp; done) | (simp; omega))]; simp [go_sem]
  have f0 : ∀ o, w1.frozen? ⟨W.heap.size, o, none⟩ = false := fun o => by rw [(bcell hb).2 _ _ (by simp; omega)]; simp [go_sem]
  have HB : Hid (Below W.heap.size W w1) := Below.trans (by (repeat' (first | (with_reducible exact Below.refl _ _) | (with_reducible assumption) | (with_reducible refine Below.setCell ?_ ?_ _) | (with_reducible refine Below.alloc ?_ ?_ _) | (with_reducible refine below_drewN ?_ _) | (with_reducible refine Below.drew ?_) | go_size))) (hb.mono (by go_size))
  have hz : W.heap.size + 2 ≤ w1.heap.size := by have := hb.size; simpa using this
  obtain ⟨w2, hw2⟩ : ∃ w', w' = ((w1.setCell ⟨W.heap.size, 0, none⟩ (.int .i64 (S : Nat))).setCell ⟨W.heap.size, 1, none⟩ (.int .i64 (B : Nat))).setCell ⟨W.heap.size, 2, none⟩ (.int .i64 (n : Nat)) := ⟨_, rfl⟩
  have t0 : w2.cell? ⟨W.heap.size, 0, none⟩ = some (.int .i64 (S : Nat)) := by rw [hw2]; simp [go_sem, s0, s1, s2]
  have t1 : w2.cell? ⟨W.heap.size, 1, none⟩ = some (.int .i64 (B : Nat)) := by rw [hw2]; simp [go_sem, s0, s1, s2]
  have t2 : w2.cell? ⟨W.heap.size, 2, none⟩ = some (.int .i64 (n : Nat)) := by rw [hw2]; simp [go_sem, s0, s1, s2]
  have t3 : w2.cell? ⟨W.heap.size + 1, 0, none⟩ = some (.int .i64 kd2) := by rw [hw2]; simp [go_sem, s3]
  have t4 : w2.cell? ⟨W.heap.size + 1, 1, none⟩ = some (.int .i64 kv2) := by rw [hw2]; simp [go_sem, s4]
  have t5 : w2.cell? ⟨W.heap.size + 1, 2, none⟩ = some (.int .u64 (m2 : Int)) := by rw [hw2]; simp [go_sem, s5]
  have t6 : w2.cell? ⟨W.heap.size + 1, 3, none⟩ = some (.int .i64 p2) := by rw [hw2]; simp [go_sem, s6]
  have t7 : w2.cell? ⟨W.heap.size + 1, 4, none⟩ = some (.int .i64 d2) := by rw [hw2]; simp [go_sem, s7]
  have t8 : w2.cell? ⟨W.heap.size + 1, 5, none⟩ = some (.int .u32 (n2 : Int)) := by rw [hw2]; simp [go_sem, s8]
  have t9 : w2.cell? ⟨W.heap.size + 1, 6, none⟩ = some (.int .u32 (o2 : Int)) := by rw [hw2]; simp [go_sem, s9]
  have HB2 : Hid (Below W.heap.size W w2) := by rw [hw2]; exact ((HB.out.setCell (Nat.le_refl _) _).setCell (Nat.le_refl _) _).setCell (Nat.le_refl _) _
  have hz2 : W.heap.size + 2 ≤ w2.heap.size := by rw [hw2]; simpa using hz
  clear hb HFIX
  go_wp2_with fail
  rw [← hw2]
  clear hw2 s0 s1 s2 s3 s4 s5 s6 s7 s8 s9 f0 HB hz
  have s0 := t0
  have s1 := t1
  have s2 := t2
  have s3 := t3
  have s4 := t4
  have s5 := t5
  have s6 := t6
  have s7 := t7
  have s8 := t8
  have s9 := t9
  have HB := HB2
  have hz := hz2
  clear t0 t1 t2 t3 t4 t5 t6 t7 t8 t9 HB2 hz2
  refine (HTO.out _).mono ?_
  rintro e w3 ⟨rfl, hb⟩
  have s0 := ((bcell hb).1 (W.heap.size) 0 (by omega)).trans s0
  have s1 := ((bcell hb).1 (W.heap.size) 1 (by omega)).trans s1
  have s2 := ((bcell hb).1 (W.heap.size) 2 (by omega)).trans s2
  have s3 := ((bcell hb).1 (W.heap.size + 1) 0 (by omega)).trans s3
  have s4 := ((bcell hb).1 (W.heap.size + 1) 1 (by omega)).trans s4
  have s5 := ((bcell hb).1 (W.heap.size + 1) 2 (by omega)).trans s5
  have s6 := ((bcell hb).1 (W.heap.size + 1) 3 (by omega)).trans s6
  have s7 := ((bcell hb).1 (W.heap.size + 1) 4 (by omega)).trans s7
  have s8 := ((bcell hb).1 (W.heap.size + 1) 5 (by omega)).trans s8
  have s9 := ((bcell hb).1 (W.heap.size + 1) 6 (by omega)).trans s9
  have HB := Lib.hid (HB.out.trans (hb.mono HB.out.size))
  have hz := Nat.le_trans hz hb.size
  clear hb
  go_wp2_with fail
  refine (HNEW.out _).mono ?_
  rintro e w4 ⟨p, q, rfl, hbk, hpw, hqw, hqp, hb⟩
  have s0 := ((bcell hb).1 (W.heap.size) 0 (by omega)).trans s0
  have s1 := ((bcell hb).1 (W.heap.size) 1 (by omega)).trans s1
  have s2 := ((bcell hb).1 (W.heap.size) 2 (by omega)).trans s2
  have s3 := ((bcell hb).1 (W.heap.size + 1) 0 (by omega)).trans s3
  have s4 := ((bcell hb).1 (W.heap.size + 1) 1 (by omega)).trans s4
  have s5 := ((bcell hb).1 (W.heap.size + 1) 2 (by omega)).trans s5
  have s6 := ((bcell hb).1 (W.heap.size + 1) 3 (by omega)).trans s6
  have s7 := ((bcell hb).1 (W.heap.size + 1) 4 (by omega)).trans s7
  have s8 := ((bcell hb).1 (W.heap.size + 1) 5 (by omega)).trans s8
  have s9 := ((bcell hb).1 (W.heap.size + 1) 6 (by omega)).trans s9
  have HB := Lib.hid (HB.out.trans (hb.mono HB.out.size))
  have hz := Nat.le_trans hz hb.size
  have HK0 := Lib.hid hbk
  have HPW : Hid (W.heap.size < p) := by show W.heap.size < p; omega
  have HQW : Hid (W.heap.size ≤ q) := by show W.heap.size ≤ q; omega
  have q1 : W.heap.size + 1 < q := by omega
  clear hbk hb hpw hqw
  go_wp2_with fail
  refine (HTOLD.out _).mono ?_
  rintro e w5 ⟨rfl, hb⟩
  have s0 := ((bcell hb).1 (W.heap.size) 0 (by omega)).trans s0
  have s1 := ((bcell hb).1 (W.heap.size) 1 (by omega)).trans s1
  have s2 := ((bcell hb).1 (W.heap.size) 2 (by omega)).trans s2
  have s3 := ((bcell hb).1 (W.heap.size + 1) 0 (by omega)).trans s3
  have s4 := ((bcell hb).1 (W.heap.size + 1) 1 (by omega)).trans s4
  have s5 := ((bcell hb).1 (W.heap.size + 1) 2 (by omega)).trans s5
  have s6 := ((bcell hb).1 (W.heap.size + 1) 3 (by omega)).trans s6
  have s7 := ((bcell hb).1 (W.heap.size + 1) 4 (by omega)).trans s7
  have s8 := ((bcell hb).1 (W.heap.size + 1) 5 (by omega)).trans s8
  have s9 := ((bcell hb).1 (W.heap.size + 1) 6 (by omega)).trans s9
  have HB := Lib.hid (HB.out.trans (hb.mono HB.out.size))
  have hz := Nat.le_trans hz hb.size
  have HK0 := Lib.hid (HK0.out.call hb)
  clear hb s0 s1 s2
  have HX0 : Hid (w5.cell? ⟨W.heap.size + 1, 0, none⟩ = some (.int .i64 kd2) ∧ w5.cell? ⟨W.heap.size + 1, 1, none⟩ = some (.int .i64 kv2) ∧ w5.cell? ⟨W.heap.size + 1, 2, none⟩ = some (.int .u64 (m2 : Int)) ∧ w5.cell? ⟨W.heap.size + 1, 3, none⟩ = some (.int .i64 p2) ∧ w5.cell? ⟨W.heap.size + 1, 4, none⟩ = some (.int .i64 d2) ∧ w5.cell? ⟨W.heap.size + 1, 5, none⟩ = some (.int .u32 (n2 : Int)) ∧ w5.cell? ⟨W.heap.size + 1, 6, none⟩ = some (.int .u32 (o2 : Int))) := ⟨s3, s4, s5, s6, s7, s8, s9⟩
  clear s3 s4 s5 s6 s7 s8 s9
  go_wp2
  go_loopw [9] (fun i wr => ∃ (k : Nat) (g : Nat → Nat → Pl), k ≤ K ∧ i = .int .i64 k ∧ stG g ∧ prG g ∧ Hid (BkAt wr (fun b => b ≤ p) p q S B n g) ∧ W.heap.size + 1 < wr.heap.size ∧ Hid (wr.cell? ⟨W.heap.size + 1, 0, none⟩ = some (.int .i64 kd2) ∧ wr.cell? ⟨W.heap.size + 1, 1, none⟩ = some (.int .i64 kv2) ∧ wr.cell? ⟨W.heap.size + 1, 2, none⟩ = some (.int .u64 (m2 : Int)) ∧ wr.cell? ⟨W.heap.size + 1, 3, none⟩ = some (.int .i64 p2) ∧ wr.cell? ⟨W.heap.size + 1, 4, none⟩ = some (.int .i64 d2) ∧ wr.cell? ⟨W.heap.size + 1, 5, none⟩ = some (.int .u32 (n2 : Int)) ∧ wr.cell? ⟨W.heap.size + 1, 6, none⟩ = some (.int .u32 (o2 : Int))) ∧ Hid (Below W.heap.size W wr)) (fun i _ => K - (intOf i).toNat)
  case atStart => exact ⟨0, _, by omega, rfl, fun _ _ => (by show (0 : Nat) < 4294967296; omega), fun _ _ hu => absurd hu (by decide), HK0, by omega, HX0, HB⟩
  case round =>
    obtain ⟨k, g, hk, rfl, hst, hpr, HK, hzx, HX, HB⟩ := hrel
    obtain ⟨x0, x1, x2, x3, x4, x5, x6⟩ := HX.out
    by_cases hlt : k < K
    · obtain ⟨b, off, rfl, hb0, hcell⟩ := HOPS.out (by omega)
      obtain ⟨kd, kv, m, port, vid, now, old, hm, hnow, hold, e0', e1', e2', e3', e4', e5', e6'⟩ := hcell k (by omega)
      have g0 : (0 : Int) ≤ (k : Int) := Int.natCast_nonneg _
      have g1 : (k : Int) < (len : Int) := by omega
      have g2 : (k : Int) < 100 := by omega
      have z0 : wr.cell? ⟨b, off + k * 7, none⟩ = some (.int .i64 kd) := (HB.out.cell (p := ⟨b, _, none⟩) (by show b < _; omega)).trans e0'
      have z1 : wr.cell? ⟨b, off + k * 7 + 1, none⟩ = some (.int .i64 kv) := (HB.out.cell (p := ⟨b, _, none⟩) (by show b < _; omega)).trans e1'
      have z2 : wr.cell? ⟨b, off + k * 7 + 2, none⟩ = some (.int .u64 (m : Int)) := (HB.out.cell (p := ⟨b, _, none⟩) (by show b < _; omega)).trans e2'
      have z3 : wr.cell? ⟨b, off + k * 7 + 3, none⟩ = some (.int .i64 port) := (HB.out.cell (p := ⟨b, _, none⟩) (by show b < _; omega)).trans e3'
      have z4 : wr.cell? ⟨b, off + k * 7 + 4, none⟩ = some (.int .i64 vid) := (HB.out.cell (p := ⟨b, _, none⟩) (by show b < _; omega)).trans e4'
      have z5 : wr.cell? ⟨b, off + k * 7 + 5, none⟩ = some (.int .u32 (now : Int)) := (HB.out.cell (p := ⟨b, _, none⟩) (by show b < _; omega)).trans e5'
      have z6 : wr.cell? ⟨b, off + k * 7 + 6, none⟩ = some (.int .u32 (old : Int)) := (HB.out.cell (p := ⟨b, _, none⟩) (by show b < _; omega)).trans e6'
      have hpz : p < wr.heap.size := HK.out.1
      clear e0' e1' e2' e3' e4' e5' e6' hcell
      have HD1 := Lib.hid (HDO.out wr _ p q g HK.out (fun b hb => by show b < _; have : b ≤ p := hb; omega) (by show q ≤ p; omega) hst hpr kd kv m port vid now old hm hnow)
      clear HDO HOPS hm hnow hold
      go_wp2_with fail
      refine (HD1.out).mono ?_
      rintro e w6 ⟨r, g', rfl, hk6, hbt, hst', hpr'⟩
      have HK6 := Lib.hid hk6
      have hzz := hbt.below.size
      have HB6 := Lib.hid (HB.out.trans (hbt.below.mono HQW.out))
      have y0 := (hbt.cell (p := ⟨W.heap.size + 1, 0, none⟩) hzx (show W.heap.size + 1 ≠ q by omega)).trans x0
      have y1 := (hbt.cell (p := ⟨W.heap.size + 1, 1, none⟩) hzx (show W.heap.size + 1 ≠ q by omega)).trans x1
      have y2 := (hbt.cell (p := ⟨W.heap.size + 1, 2, none⟩) hzx (show W.heap.size + 1 ≠ q by omega)).trans x2
      have y3 := (hbt.cell (p := ⟨W.heap.size + 1, 3, none⟩) hzx (show W.heap.size + 1 ≠ q by omega)).trans x3
      have y4 := (hbt.cell (p := ⟨W.heap.size + 1, 4, none⟩) hzx (show W.heap.size + 1 ≠ q by omega)).trans x4
      have y5 := (hbt.cell (p := ⟨W.heap.size + 1, 5, none⟩) hzx (show W.heap.size + 1 ≠ q by omega)).trans x5
      have y6 := (hbt.cell (p := ⟨W.heap.size + 1, 6, none⟩) hzx (show W.heap.size + 1 ≠ q by omega)).trans x6
      have HX6 : Hid (w6.cell? ⟨W.heap.size + 1, 0, none⟩ = some (.int .i64 kd2) ∧ w6.cell? ⟨W.heap.size + 1, 1, none⟩ = some (.int .i64 kv2) ∧ w6.cell? ⟨W.heap.size + 1, 2, none⟩ = some (.int .u64 (m2 : Int)) ∧ w6.cell? ⟨W.heap.size + 1, 3, none⟩ = some (.int .i64 p2) ∧ w6.cell? ⟨W.heap.size + 1, 4, none⟩ = some (.int .i64 d2) ∧ w6.cell? ⟨W.heap.size + 1, 5, none⟩ = some (.int .u32 (n2 : Int)) ∧ w6.cell? ⟨W.heap.size + 1, 6, none⟩ = some (.int .u32 (o2 : Int))) := ⟨y0, y1, y2, y3, y4, y5, y6⟩
      clear hk6 hbt y0 y1 y2 y3 y4 y5 y6 HD1
      go_wp2
      go_roundw
      case rel => exact ⟨k + 1, g', by omega, by go_num, hst', hpr', HK6, by omega, HX6, HB6⟩
      case measure => simp [intOf]; omega
    · have hfin := HNN.out k hk hlt
      clear HX HDO HOPS HNN
      have hzx' := hzx
      rcases hfin with hfin | ⟨hfin0, hfin⟩
      · have hf : ¬ (k : Int) < (len : Int) := by omega
        go_wp2_with fail
        refine (HF8.out _).mono ?_
        rintro e v1 ⟨rfl, hb⟩
        have HKA := Lib.hid (HK.out.call hb)
        have HBA := Lib.hid (HB.out.trans (hb.mono HB.out.size))
        have x0 := (hb.cell (p := ⟨W.heap.size + 1, 0, none⟩) hzx).trans x0
        have x1 := (hb.cell (p := ⟨W.heap.size + 1, 1, none⟩) hzx).trans x1
        have x2 := (hb.cell (p := ⟨W.heap.size + 1, 2, none⟩) hzx).trans x2
        have x3 := (hb.cell (p := ⟨W.heap.size + 1, 3, none⟩) hzx).trans x3
        have x4 := (hb.cell (p := ⟨W.heap.size + 1, 4, none⟩) hzx).trans x4
        have x5 := (hb.cell (p := ⟨W.heap.size + 1, 5, none⟩) hzx).trans x5
        have x6 := (hb.cell (p := ⟨W.heap.size + 1, 6, none⟩) hzx).trans x6
        have hzx := Nat.lt_of_lt_of_le hzx hb.size
        clear hb HK HB
        go_wp2_with fail
        refine (HT8.out _).mono ?_
        rintro e v2 ⟨rfl, hb⟩
        have HKB := Lib.hid (HKA.out.call hb)
        have HBB := Lib.hid (HBA.out.trans (hb.mono HBA.out.size))
        have x0 := (hb.cell (p := ⟨W.heap.size + 1, 0, none⟩) hzx).trans x0
        have x1 := (hb.cell (p := ⟨W.heap.size + 1, 1, none⟩) hzx).trans x1
        have x2 := (hb.cell (p := ⟨W.heap.size + 1, 2, none⟩) hzx).trans x2
        have x3 := (hb.cell (p := ⟨W.heap.size + 1, 3, none⟩) hzx).trans x3
        have x4 := (hb.cell (p := ⟨W.heap.size + 1, 4, none⟩) hzx).trans x4
        have x5 := (hb.cell (p := ⟨W.heap.size + 1, 5, none⟩) hzx).trans x5
        have x6 := (hb.cell (p := ⟨W.heap.size + 1, 6, none⟩) hzx).trans x6
        have hzx := Nat.lt_of_lt_of_le hzx hb.size
        obtain ⟨v3, hv3⟩ : ∃ w', w' = v2.alloc (.cells #[.int .i64 (fixV kv2), .int .u64 (fixM m2 : Nat)] 36) := ⟨_, rfl⟩
        obtain ⟨y, hy⟩ : ∃ y, y = v2.heap.size := ⟨_, rfl⟩
        have y0 : v3.cell? ⟨y, 0, none⟩ = some (.int .i64 (fixV kv2)) := by rw [hv3, hy]; simp [go_sem]
        have y1 : v3.cell? ⟨y, 1, none⟩ = some (.int .u64 (fixM m2 : Nat)) := by rw [hv3, hy]; simp [go_sem]
        have yz : y < v3.heap.size := by rw [hv3, hy]; simp
        have yp : p < y := by have h := HKB.out.1; rw [hy]; exact h
        have r0 : ∀ o, (v2.alloc o).cell? ⟨W.heap.size + 1, 0, none⟩ = some (.int .i64 kd2) := fun o => (World.cell?_alloc_lt _ _ _ (by show W.heap.size + 1 < _; omega)).trans x0
        have r1 : ∀ o, (v2.alloc o).cell? ⟨W.heap.size + 1, 1, none⟩ = some (.int .i64 kv2) := fun o => (World.cell?_alloc_lt _ _ _ (by show W.heap.size + 1 < _; omega)).trans x1
        have r2 : ∀ o, (v2.alloc o).cell? ⟨W.heap.size + 1, 2, none⟩ = some (.int .u64 (m2 : Int)) := fun o => (World.cell?_alloc_lt _ _ _ (by show W.heap.size + 1 < _; omega)).trans x2
        have r3 : ∀ o, (v2.alloc o).cell? ⟨W.heap.size + 1, 3, none⟩ = some (.int .i64 p2) := fun o => (World.cell?_alloc_lt _ _ _ (by show W.heap.size + 1 < _; omega)).trans x3
        have r4 : ∀ o, (v2.alloc o).cell? ⟨W.heap.size + 1, 4, none⟩ = some (.int .i64 d2) := fun o => (World.cell?_alloc_lt _ _ _ (by show W.heap.size + 1 < _; omega)).trans x4
        have r5 : ∀ o, (v2.alloc o).cell? ⟨W.heap.size + 1, 5, none⟩ = some (.int .u32 (n2 : Int)) := fun o => (World.cell?_alloc_lt _ _ _ (by show W.heap.size + 1 < _; omega)).trans x5
        have r6 : ∀ o, (v2.alloc o).cell? ⟨W.heap.size + 1, 6, none⟩ = some (.int .u32 (o2 : Int)) := fun o => (World.cell?_alloc_lt _ _ _ (by show W.heap.size + 1 < _; omega)).trans x6
        have x5' : v3.cell? ⟨W.heap.size + 1, 5, none⟩ = some (.int .u32 (n2 : Int)) := by rw [hv3]; exact r5 _
        have HKC : Hid (BkAt v3 (fun b => b ≤ p) p q S B n g) := by rw [hv3]; exact HKB.out.call ((Below.refl _ _).alloc (Nat.le_refl _) _)
        have HBC : Hid (Below W.heap.size W v3) := by rw [hv3]; exact HBB.out.alloc HBB.out.size _
        have xz3 : W.heap.size + 1 < v3.heap.size := by rw [hv3, World.size_alloc]; omega
        clear hb HKA HBA HKB HBB x0 x1 x2 x3 x4 x5 x6 hzx
        go_wp2_with fail
        rw [← hv3]
        (try rw [← hy])
        clear hv3 hy r0 r1 r2 r3 r4 r5 r6
        refine (HLK.out _ _ _ _ _ HKC.out).mono ?_
        rintro e v4 ⟨rfl, hb⟩
        have HKD := Lib.hid (HKC.out.call hb)
        have HBD := Lib.hid (HBC.out.trans (hb.mono HBC.out.size))
        have y0 := (hb.cell (p := ⟨y, 0, none⟩) yz).trans y0
        have y1 := (hb.cell (p := ⟨y, 1, none⟩) yz).trans y1
        have x5 := (hb.cell (p := ⟨W.heap.size + 1, 5, none⟩) xz3).trans x5'
        have yz := Nat.lt_of_lt_of_le yz hb.size
        have xz4 := Nat.lt_of_lt_of_le xz3 hb.size
        have hp4 : p < v4.heap.size := HKD.out.1
        clear hb HKC HBC x5' xz3
        go_wp2_with fail
        refine (HLE.out _ _ _ _ _ HKD.out (fun b hb => by show b < _; have : b ≤ p := hb; omega) (by show q ≤ p; omega) hst).mono ?_
        rintro e v5 ⟨rfl, hk5, hbt⟩
        have HKE := Lib.hid hk5
        have HBE := Lib.hid (HBD.out.trans (hbt.below.mono HQW.out))
        have y0 := (hbt.cell (p := ⟨y, 0, none⟩) yz (show y ≠ q by omega)).trans y0
        have y1 := (hbt.cell (p := ⟨y, 1, none⟩) yz (show y ≠ q by omega)).trans y1
        have HL2 := Lib.hid (HLK.out _ _ _ _ _ HKE.out)
        have hup : ∀ (f : Nat → Pl) H, updR g H f H = f := fun f H => by unfold updR; rw [if_pos rfl]
        rw [hup] at HL2
        have hkn := HKN.out g hpr
        clear hk5 hbt HKD HBD HKE hup HLE HLK HKN
        generalize portF (putF (fun i => ownP (g (homeN (fixV kv2) (fixM m2) S B) i)) ⟨fixV kv2, fixM m2, (P : Int), false, n2⟩ n2 n).1 (fixV kv2) (fixM m2) n = z at *
        generalize (putF (fun i => ownP (g (homeN (fixV kv2) (fixM m2) S B) i)) ⟨fixV kv2, fixM m2, (P : Int), false, n2⟩ n2 n).2 = did at *
        generalize portF (g (homeN (fixV kv2) (fixM m2) S B)) (fixV kv2) (fixM m2) n = x at *
        rcases hkn with ⟨rfl, rfl, rfl⟩ | ⟨rfl, rfl, hx⟩ | ⟨rfl, rfl, rfl⟩ | ⟨rfl, rfl, hx, hx2⟩ | ⟨rfl | rfl, rfl, rfl⟩
        all_goals
          go_wp2_with fail
          refine (HL2.out).mono ?_
          rintro e v6 ⟨rfl, hb⟩
          have HBF := Lib.hid (HBE.out.trans (hb.mono HBE.out.size))
          clear hb
          go_wp2
          all_goals go_ret
          all_goals exact ⟨by first | rfl | (simp; done) | (simp; omega), HBF.out⟩
      · have hf0 : (k : Int) < (len : Int) := by omega
        have hf : ¬ (k : Int) < 100 := by omega
        go_wp2_with fail
        refine (HF8.out _).mono ?_
        rintro e v1 ⟨rfl, hb⟩
        have HKA := Lib.hid (HK.out.call hb)
        have HBA := Lib.hid (HB.out.trans (hb.mono HB.out.size))
        have x0 := (hb.cell (p := ⟨W.heap.size + 1, 0, none⟩) hzx).trans x0
        have x1 := (hb.cell (p := ⟨W.heap.size + 1, 1, none⟩) hzx).trans x1
        have x2 := (hb.cell (p := ⟨W.heap.size + 1, 2, none⟩) hzx).trans x2
        have x3 := (hb.cell (p := ⟨W.heap.size + 1, 3, none⟩) hzx).trans x3
        have x4 := (hb.cell (p := ⟨W.heap.size + 1, 4, none⟩) hzx).trans x4
        have x5 := (hb.cell (p := ⟨W.heap.size + 1, 5, none⟩) hzx).trans x5
        have x6 := (hb.cell (p := ⟨W.heap.size + 1, 6, none⟩) hzx).trans x6
        have hzx := Nat.lt_of_lt_of_le hzx hb.size
        clear hb HK HB
        go_wp2_with fail
        refine (HT8.out _).mono ?_
        rintro e v2 ⟨rfl, hb⟩
        have HKB := Lib.hid (HKA.out.call hb)
        have HBB := Lib.hid (HBA.out.trans (hb.mono HBA.out.size))
        have x0 := (hb.cell (p := ⟨W.heap.size + 1, 0, none⟩) hzx).trans x0
        have x1 := (hb.cell (p := ⟨W.heap.size + 1, 1, none⟩) hzx).trans x1
        have x2 := (hb.cell (p := ⟨W.heap.size + 1, 2, none⟩) hzx).trans x2
        have x3 := (hb.cell (p := ⟨W.heap.size + 1, 3, none⟩) hzx).trans x3
        have x4 := (hb.cell (p := ⟨W.heap.size + 1, 4, none⟩) hzx).trans x4
        have x5 := (hb.cell (p := ⟨W.heap.size + 1, 5, none⟩) hzx).trans x5
        have x6 := (hb.cell (p := ⟨W.heap.size + 1, 6, none⟩) hzx).trans x6
        have hzx := Nat.lt_of_lt_of_le hzx hb.size
        obtain ⟨v3, hv3⟩ : ∃ w', w' = v2.alloc (.cells #[.int .i64 (fixV kv2), .int .u64 (fixM m2 : Nat)] 36) := ⟨_, rfl⟩
        obtain ⟨y, hy⟩ : ∃ y, y = v2.heap.size := ⟨_, rfl⟩
        have y0 : v3.cell? ⟨y, 0, none⟩ = some (.int .i64 (fixV kv2)) := by rw [hv3, hy]; simp [go_sem]
        have y1 : v3.cell? ⟨y, 1, none⟩ = some (.int .u64 (fixM m2 : Nat)) := by rw [hv3, hy]; simp [go_sem]
        have yz : y < v3.heap.size := by rw [hv3, hy]; simp
        have yp : p < y := by have h := HKB.out.1; rw [hy]; exact h
        have r0 : ∀ o, (v2.alloc o).cell? ⟨W.heap.size + 1, 0, none⟩ = some (.int .i64 kd2) := fun o => (World.cell?_alloc_lt _ _ _ (by show W.heap.size + 1 < _; omega)).trans x0
        have r1 : ∀ o, (v2.alloc o).cell? ⟨W.heap.size + 1, 1, none⟩ = some (.int .i64 kv2) := fun o => (World.cell?_alloc_lt _ _ _ (by show W.heap.size + 1 < _; omega)).trans x1
        have r2 : ∀ o, (v2.alloc o).cell? ⟨W.heap.size + 1, 2, none⟩ = some (.int .u64 (m2 : Int)) := fun o => (World.cell?_alloc_lt _ _ _ (by show W.heap.size + 1 < _; omega)).trans x2
        have r3 : ∀ o, (v2.alloc o).cell? ⟨W.heap.size + 1, 3, none⟩ = some (.int .i64 p2) := fun o => (World.cell?_alloc_lt _ _ _ (by show W.heap.size + 1 < _; omega)).trans x3
        have r4 : ∀ o, (v2.alloc o).cell? ⟨W.heap.size + 1, 4, none⟩ = some (.int .i64 d2) := fun o => (World.cell?_alloc_lt _ _ _ (by show W.heap.size + 1 < _; omega)).trans x4
        have r5 : ∀ o, (v2.alloc o).cell? ⟨W.heap.size + 1, 5, none⟩ = some (.int .u32 (n2 : Int)) := fun o => (World.cell?_alloc_lt _ _ _ (by show W.heap.size + 1 < _; omega)).trans x5
        have r6 : ∀ o, (v2.alloc o).cell? ⟨W.heap.size + 1, 6, none⟩ = some (.int .u32 (o2 : Int)) := fun o => (World.cell?_alloc_lt _ _ _ (by show W.heap.size + 1 < _; omega)).trans x6
        have x5' : v3.cell? ⟨W.heap.size + 1, 5, none⟩ = some (.int .u32 (n2 : Int)) := by rw [hv3]; exact r5 _
        have HKC : Hid (BkAt v3 (fun b => b ≤ p) p q S B n g) := by rw [hv3]; exact HKB.out.call ((Below.refl _ _).alloc (Nat.le_refl _) _)
        have HBC : Hid (Below W.heap.size W v3) := by rw [hv3]; exact HBB.out.alloc HBB.out.size _
        have xz3 : W.heap.size + 1 < v3.heap.size := by rw [hv3, World.size_alloc]; omega
        clear hb HKA HBA HKB HBB x0 x1 x2 x3 x4 x5 x6 hzx
        go_wp2_with fail
        rw [← hv3]
        (try rw [← hy])
        clear hv3 hy r0 r1 r2 r3 r4 r5 r6
        refine (HLK.out _ _ _ _ _ HKC.out).mono ?_
        rintro e v4 ⟨rfl, hb⟩
        have HKD := Lib.hid (HKC.out.call hb)
        have HBD := Lib.hid (HBC.out.trans (hb.mono HBC.out.size))
        have y0 := (hb.cell (p := ⟨y, 0, none⟩) yz).trans y0
        have y1 := (hb.cell (p := ⟨y, 1, none⟩) yz).trans y1
        have x5 := (hb.cell (p := ⟨W.heap.size + 1, 5, none⟩) xz3).trans x5'
        have yz := Nat.lt_of_lt_of_le yz hb.size
        have xz4 := Nat.lt_of_lt_of_le xz3 hb.size
        have hp4 : p < v4.heap.size := HKD.out.1
        clear hb HKC HBC x5' xz3
        go_wp2_with fail
        refine (HLE.out _ _ _ _ _ HKD.out (fun b hb => by show b < _; have : b ≤ p := hb; omega) (by show q ≤ p; omega) hst).mono ?_
        rintro e v5 ⟨rfl, hk5, hbt⟩
        have HKE := Lib.hid hk5
        have HBE := Lib.hid (HBD.out.trans (hbt.below.mono HQW.out))
        have y0 := (hbt.cell (p := ⟨y, 0, none⟩) yz (show y ≠ q by omega)).trans y0
        have y1 := (hbt.cell (p := ⟨y, 1, none⟩) yz (show y ≠ q by omega)).trans y1
        have HL2 := Lib.hid (HLK.out _ _ _ _ _ HKE.out)
        have hup : ∀ (f : Nat → Pl) H, updR g H f H = f := fun f H => by unfold updR; rw [if_pos rfl]
        rw [hup] at HL2
        have hkn := HKN.out g hpr
        clear hk5 hbt HKD HBD HKE hup HLE HLK HKN
        generalize portF (putF (fun i => ownP (g (homeN (fixV kv2) (fixM m2) S B) i)) ⟨fixV kv2, fixM m2, (P : Int), false, n2⟩ n2 n).1 (fixV kv2) (fixM m2) n = z at *
        generalize (putF (fun i => ownP (g (homeN (fixV kv2) (fixM m2) S B) i)) ⟨fixV kv2, fixM m2, (P : Int), false, n2⟩ n2 n).2 = did at *
        generalize portF (g (homeN (fixV kv2) (fixM m2) S B)) (fixV kv2) (fixM m2) n = x at *
        rcases hkn with ⟨rfl, rfl, rfl⟩ | ⟨rfl, rfl, hx⟩ | ⟨rfl, rfl, rfl⟩ | ⟨rfl, rfl, hx, hx2⟩ | ⟨rfl | rfl, rfl, rfl⟩
        all_goals
          go_wp2_with fail
          refine (HL2.out).mono ?_
          rintro e v6 ⟨rfl, hb⟩
          have HBF := Lib.hid (HBE.out.trans (hb.mono HBE.out.size))
          clear hb
          go_wp2
          all_goals go_ret
          all_goals exact ⟨by first | rfl | (simp; done) | (simp; omega), HBF.out⟩

set_option maxRecDepth 100000 in
/-- What the walk gives, for every argument: the row's own words. -/
theorem contract (H : Type) (enc : TypeId × Value → H) (W : World) (base : Nat) (args : Array Value) (ds gs : List (DataW H)) (before : List MemPlace)
    (hval : ∀ (j : Nat) t v, Try.f13.params[j]? = some t → args[j]? = some v → Value.okWide Try.prog W .any base t v)
    (hW : DataW.Whole enc Try.prog Try.f13.params.toList Rows.bookKnowsSpec.vars false W args.toList ds gs before) :
    Calls Try.prog 13 args W fun e W' => ∃ v, e = .returned v ∧ Rows.bookKnowsSpec.post enc Try.prog Try.f13 false true false false W args v W' := by
  have hW' := hW
  obtain ⟨p, q, hA0, hV, rfl, hfz, hnd⟩ := hW
  have hA : DataW.TrodAll enc Try.prog W 0 (fun _ => true) true Try.f13.params.toList args.toList ds p := hA0
  rw [Try.params13] at hA hval
  obtain ⟨v0, vs0, d0, ds0, p0, q0, hargs, rfl, rfl, h0, r0⟩ := trodAll_cons hA
  obtain ⟨v1, vs1, d1, ds1, p1, q1, rfl, rfl, rfl, h1, r1⟩ := trodAll_cons r0
  obtain ⟨v2, vs2, d2, ds2, p2, q2, rfl, rfl, rfl, h2, r2⟩ := trodAll_cons r1
  obtain ⟨rfl, rfl, rfl⟩ := trodAll_nil r2
  obtain rfl : args = #[v0, v1, v2] := by cases args; simp_all
  obtain ⟨a0, e0, c0, rfl⟩ := open_size Try.underlying79 (t0 := 3) (t1 := 3) (t2 := 3) (by kernel_rfl) (by kernel_rfl) (by kernel_rfl) (by kernel_rfl) (by kernel_rfl) (hval 0 79 v0 rfl rfl) h0
  have b1 := open_ops11 Try.underlying80 (t0 := 3) (t1 := 3) (t2 := 23) (t3 := 3) (t4 := 3) (t5 := 26) (t6 := 26) (by kernel_rfl) (by kernel_rfl) (by kernel_rfl) (by kernel_rfl) (by kernel_rfl) (by kernel_rfl) (by kernel_rfl) (by kernel_rfl) (by kernel_rfl) (hval 1 80 v1 rfl rfl) h1
  obtain ⟨kd2, kv2, m2, pp2, dd2, n2, o2, rfl, hm2, hn2, ho2⟩ := open_op11 Try.underlying93 (t0 := 3) (t1 := 3) (t2 := 23) (t3 := 3) (t4 := 3) (t5 := 26) (t6 := 26) (by kernel_rfl) (by kernel_rfl) (by kernel_rfl) (by kernel_rfl) (by kernel_rfl) (by kernel_rfl) (by kernel_rfl) (by kernel_rfl) (by kernel_rfl) (hval 2 93 v2 rfl rfl) h2
  refine (walk W a0 e0 c0 v1 b1 kd2 kv2 m2 pp2 dd2 n2 o2 hm2 hn2 ho2).mono fun e W' ⟨he, hb⟩ => ?_
  subst he
  exact close_true (by kernel_rfl) Try.underlying4 (by kernel_rfl) (by kernel_rfl) rfl rfl hW' hb

set_option maxRecDepth 100000 in
theorem lifted (os : Os) (started : os.Started) (H : Type) (enc : TypeId × Value → H) :
    ReturnsInHanded {} Try.checked os 13 .any (Rows.bookKnowsSpec.pre6 enc Try.prog Try.f13 Rows.bookKnowsRow.domain false) (Rows.bookKnowsSpec.post enc Try.prog Try.f13 false true false false) := by
  refine returnsInHanded_of_change (C := Try.checked) own started (by kernel_rfl) Try.func13
    (ChangeSpec.witness6 (enc := enc) (C := Try.checked) false ⟨#[], #[.agg #[.int .i64 0, .int .i64 0, .int .i64 0], .slice none 0 0, .agg #[.int .i64 0, .int .i64 0, .int .u64 0, .int .i64 0, .int .i64 0, .int .u32 0, .int .u32 0]], []⟩ 8 (by kernel_rfl) (by kernel_rfl) (by kernel_rfl) (by kernel_rfl)) ?_
  intro W base args ds gs before hval hW _ _
  exact contract H enc W base args ds gs before hval hW

theorem proved : Rows.BookKnowsSaid :=
  OpenClaim.holds_of_wide 13 Try.f13 rfl rfl rfl rfl rfl rfl rfl ⟨rfl, rfl, rfl, rfl, rfl⟩ rfl rfl rfl rfl rfl (by kernel_rfl) Try.func13 (by kernel_rfl)
    (of_decide_eq_true (by kernel_rfl)) (by unfold Func.isWrapper; first | (rw [if_pos (by decide +kernel)]; kernel_rfl) | (rw [if_neg (by decide +kernel)]; exact ⟨rfl, rfl⟩))
    (fun os started H enc _ => lifted os started H enc)
#print axioms proved
end Go.Proofs.Ytocdljhjmhmfkaa.bookKnows
