/-
  A copy has the same, and goes its own way. No condition.
-/
import Derived.Test.YtccnfcjaehcfkaaRows
import Derived.Test.YtccnfcjaehcfkaaBkC2
import Derived.Test.YtccnfcjaehcfkaaOpenBk
import Derived.Deep.RegionHeld3
import Derived.WalkKit
import Derived.ProofKit
import Derived.OpenShut
namespace Go.Proofs.Ytccnfcjaehcfkaa.bookCopies
open Go.ChangeShapes Go.WideShapes Go.ChangeAt Go.RowKit
open Go.ChangeMaps (open_string)
set_option linter.unusedVariables false

theorem own : ownKnob Try.prog.godebug = none := by kernel_rfl
theorem fix_size (x : Int) (k : Nat) (hk : 1 ≤ k) (hk2 : k ≤ 16) : ∃ S : Nat, 1 ≤ S ∧ S ≤ k ∧ wrap64 (1 + wrap64 ((IntKind.u64.wrap x).tmod (k : Int))) = (S : Int) := by
  have h1 : 0 ≤ IntKind.u64.wrap x := by rw [IntKind.wrap_u64]; omega
  rw [Int.tmod_eq_emod_of_nonneg h1]
  have a1 := Int.emod_nonneg (IntKind.u64.wrap x) (show (k : Int) ≠ 0 by omega)
  have a2 := Int.emod_lt_of_pos (IntKind.u64.wrap x) (show 0 < (k : Int) by omega)
  generalize IntKind.u64.wrap x % (k : Int) = y at *
  refine ⟨(1 + y).toNat, by omega, by omega, ?_⟩
  rw [IntWalk.wrap64_in y (by omega), IntWalk.wrap64_in _ (by omega)]
  omega
theorem port64 (x : Int) : ∃ P : Nat, P < 64 ∧ wrap64 ((IntKind.u64.wrap x).tmod 64) = (P : Int) ∧ IntKind.i64.wrap ((IntKind.u64.wrap x).tmod 64) = (P : Int) := by
  have h1 : 0 ≤ IntKind.u64.wrap x := by rw [IntKind.wrap_u64]; omega
  rw [Int.tmod_eq_emod_of_nonneg h1]
  refine ⟨(IntKind.u64.wrap x % 64).toNat, by omega, ?_, ?_⟩
  · rw [IntWalk.wrap64_in _ (by omega)]; omega
  · rw [IntWalk.i64_in _ (by omega)]; omega
set_option maxHeartbeats 1600000 in
theorem ref11_Fix (a b c : Int) (S B n : Nat) (h1 : wrap64 (1 + wrap64 ((IntKind.u64.wrap a).tmod ((8 : Nat) : Int))) = (S : Int)) (h2 : wrap64 (1 + wrap64 ((IntKind.u64.wrap b).tmod ((16 : Nat) : Int))) = (B : Int)) (h3 : wrap64 (1 + wrap64 ((IntKind.u64.wrap c).tmod ((8 : Nat) : Int))) = (n : Int)) (w : World) :
    Calls Try.prog 35 #[.agg #[.int .i64 a, .int .i64 b, .int .i64 c]] w (Says (.agg #[.int .i64 (S : Nat), .int .i64 (B : Nat), .int .i64 (n : Nat)]) w) := by
  rw [show ((8 : Nat) : Int) = 8 from rfl] at h1 h3
  rw [show ((16 : Nat) : Int) = 16 from rfl] at h2
  go_enter Try.func35, Try.ntmps35
  go_wp2
  exact bodyPost_ret (v := .agg #[.int .i64 (S : Nat), .int .i64 (B : Nat), .int .i64 (n : Nat)]) (by simp [results, Try.results35, go_sem]) rfl ⟨rfl, (by (repeat' (first | (with_reducible exact Below.refl _ _) | (with_reducible refine Below.setCell ?_ ?_ _) | (with_reducible refine Below.alloc ?_ ?_ _) | go_size)))⟩
theorem ne_word {j H : Nat} (h : ¬ j = H) : ((j : Int) != (H : Int)) = true := by simp; omega
theorem pos_word {B : Nat} (h : 1 ≤ B) : (¬ B = 0) ∧ (¬ (B : Int) = 0) ∧ ((B : Int) == 0) = false := ⟨by omega, by omega, by simp; omega⟩
theorem wrap_ok {x : Int} {y : Nat} (h : x = (y : Int)) (hy : y < 1000000) : wrap64 x = (y : Int) ∧ IntKind.i64.wrap x = (y : Int) := by
  rw [h]
  exact ⟨IntWalk.wrap64_in _ (by omega), IntWalk.i64_in _ (by omega)⟩
theorem home_parts {xa xb B H : Nat} (h : (xa : Int) * (B : Int) + (xb : Int) = (H : Int)) : (xa : Int) * (B : Int) = ((H - xb : Nat) : Int) ∧ ((H - xb : Nat) : Int) + (xb : Int) = (H : Int) := by
  have e : ((xa * B : Nat) : Int) = (xa : Int) * (B : Int) := by simp
  rw [← e] at h ⊢
  generalize xa * B = y at *
  omega

set_option maxRecDepth 20000 in
set_option maxHeartbeats 25600000 in
theorem walk (W : World) (a0 e0 c0 : Int) (a1 : Value) (b1 : Ops11 W a1) (a2 : Value) (b2 : Ops11 W a2) :
    Calls Try.prog 10 #[.agg #[.int .i64 a0, .int .i64 e0, .int .i64 c0], a1, a2] W (Says (.bool true) W) := by
  obtain ⟨S, hS1, hS2, hSw⟩ := fix_size a0 8 (by omega) (by omega)
  obtain ⟨B, hB1, hB2, hBw⟩ := fix_size e0 16 (by omega) (by omega)
  obtain ⟨n, hN1, hN2, hnw⟩ := fix_size c0 8 (by omega) (by omega)
  obtain ⟨A2, len2, cap2', rfl, h4, h5, h6⟩ := b2
  have HOPS2 := Lib.hid h6
  unfold maxLen at h5
  obtain ⟨A, len, cap, rfl, h1, h2, h3⟩ := b1
  have HOPS := Lib.hid h3
  unfold maxLen at h2
  have HFIX := Lib.hid fun w => ref11_Fix a0 e0 c0 S B n hSw hBw hnw w
  clear hSw hBw hnw
  have HTO := Lib.hid fun w => law11_To (S : Int) (B : Int) (n : Int) w
  have HNEW := Lib.hid fun w => book_New S B n ⟨hS1, hS2⟩ ⟨hB1, hB2⟩ ⟨hN1, hN2⟩ w
  have HNEWR := Lib.hid fun w => ref11_New S B n ⟨hS1, hS2⟩ ⟨hB1, hB2⟩ ⟨hN1, hN2⟩ w
  have HTOLD := Lib.hid told11
  obtain ⟨K, hK⟩ : ∃ K, K = min len 100 := ⟨_, rfl⟩
  have hK1 : K ≤ len := by omega
  have hK2 : K ≤ 100 := by omega
  have HNN : Hid (∀ k, k ≤ K → ¬ k < K → (len ≤ k ∨ (k < len ∧ 100 ≤ k))) := fun k a b => by omega
  clear hK h3
  obtain ⟨KK, hKK⟩ : ∃ K, K = min len2 100 := ⟨_, rfl⟩
  have hKK1 : KK ≤ len2 := by omega
  have hKK2 : KK ≤ 100 := by omega
  have HNN2 : Hid (∀ k, k ≤ KK → ¬ k < KK → (len2 ≤ k ∨ (k < len2 ∧ 100 ≤ k))) := fun k a b => by omega
  clear hKK h6
  have HCP := Lib.hid fun w D p q (g : Nat → Nat → Pl) (h : BkAt w D p q S B n g) => book_Copy h ⟨hS1, hS2⟩ ⟨hB1, hB2⟩ ⟨hN1, hN2⟩
  have HCR := Lib.hid fun w D p q (g : Nat → Nat → Pl) (h : BkAt w D p q S B n g) => ref11_Copy h ⟨hS1, hS2⟩ ⟨hB1, hB2⟩ ⟨hN1, hN2⟩
  obtain ⟨M, hM⟩ : ∃ M, M = S * B := ⟨_, rfl⟩
  have hMB : M ≤ 128 := by rw [hM]; exact Nat.mul_le_mul hS2 hB2
  have HLI := Lib.hid fun w D p q (g : Nat → Nat → Pl) (h : BkAt w D p q S B n g) => law11_list h (by rw [← hM]; exact hMB) hN2
  have HLR := Lib.hid fun w D p q (g : Nat → Nat → Pl) (h : BkAt w D p q S B n g) => ref11_List h (by rw [← hM]; exact hMB) hN2
  have HM := Lib.hid hM
  clear hM
  have HDO : Hid (∀ w D p q (g : Nat → Nat → Pl) (kd kv : Int) (m : Nat) (port vid : Int) (now old : Nat), BkAt w D p q S B n g → (∀ b, D b → b < w.heap.size) → D q → stG g → m < 18446744073709551616 → now < 4294967296 → ∀ K1 : Nat, K1 < 7 → wrap64 ((IntKind.u64.wrap kd).tmod 7) = (K1 : Int) → IntKind.i64.wrap ((IntKind.u64.wrap kd).tmod 7) = (K1 : Int) →
      Calls Try.prog 41 #[.pointer (some ⟨p, 0, none⟩), .agg #[.int .i64 kd, .int .i64 kv, .int .u64 (m : Int), .int .i64 port, .int .i64 vid, .int .u32 (now : Int), .int .u32 (old : Int)]] w fun e w' => e = .returned (.int .i64 (doG K1 kv m port vid now old S B n g).2) ∧ BkAt w' D p q S B n (doG K1 kv m port vid now old S B n g).1 ∧ But q w w') := fun w D p q g kd kv m port vid now old hk hD hq hst hm hnow K1 h1 h2 h3 => book_Do hk hD hq ⟨hS1, hS2⟩ ⟨hB1, hB2⟩ hN2 hst kd kv m hm port vid now old hnow K1 h1 h2 h3
  have HWA : Hid (∀ w D p q (g : Nat → Nat → Pl) (kd kv : Int) (m : Nat) (port vid : Int) (now old : Nat), BkAt w D p q S B n g → (∀ b, D b → b < w.heap.size) → D q → stG g → m < 18446744073709551616 → now < 4294967296 → ∀ K1 : Nat, K1 < 7 → wrap64 ((IntKind.u64.wrap kd).tmod 7) = (K1 : Int) → IntKind.i64.wrap ((IntKind.u64.wrap kd).tmod 7) = (K1 : Int) →
      Calls Try.prog 42 #[.pointer (some ⟨p, 0, none⟩), .agg #[.int .i64 kd, .int .i64 kv, .int .u64 (m : Int), .int .i64 port, .int .i64 vid, .int .u32 (now : Int), .int .u32 (old : Int)]] w fun e w' => e = .returned (.int .i64 (doG K1 kv m port vid now old S B n g).2) ∧ BkAt w' D p q S B n (doG K1 kv m port vid now old S B n g).1 ∧ But q w w') := fun w D p q g kd kv m port vid now old hk hD hq hst hm hnow K1 h1 h2 h3 => ref11_Want hk hD hq ⟨hS1, hS2⟩ ⟨hB1, hB2⟩ hN2 hst kd kv m hm port vid now old hnow K1 h1 h2 h3
  go_enter Try.func10, Try.ntmps10
  go_wp2_with fail
  refine (HFIX.out _).mono ?_
  rintro e w1 ⟨rfl, hb⟩
  have s0 : w1.cell? ⟨W.heap.size, 0, none⟩ = some (.int .i64 a0) := by rw [(bcell hb).1 _ _ (by simp)]; simp [go_sem]
  have s1 : w1.cell? ⟨W.heap.size, 1, none⟩ = some (.int .i64 e0) := by rw [(bcell hb).1 _ _ (by simp)]; simp [go_sem]
  have s2 : w1.cell? ⟨W.heap.size, 2, none⟩ = some (.int .i64 c0) := by rw [(bcell hb).1 _ _ (by simp)]; simp [go_sem]
  have f0 : ∀ o, w1.frozen? ⟨W.heap.size, o, none⟩ = false := fun o => by rw [(bcell hb).2 _ _ (by simp)]; simp [go_sem]
  have HB1 : Hid (Below W.heap.size W w1) := Below.trans ((Below.refl _ _).alloc (Nat.le_refl _) _) (hb.mono (by simp))
  have hz1 : W.heap.size < w1.heap.size := by have := hb.size; simp at this; omega
  obtain ⟨w2, hw2⟩ : ∃ w', w' = ((w1.setCell ⟨W.heap.size, 0, none⟩ (.int .i64 (S : Nat))).setCell ⟨W.heap.size, 1, none⟩ (.int .i64 (B : Nat))).setCell ⟨W.heap.size, 2, none⟩ (.int .i64 (n : Nat)) := ⟨_, rfl⟩
  have t0 : w2.cell? ⟨W.heap.size, 0, none⟩ = some (.int .i64 (S : Nat)) := by rw [hw2]; simp [go_sem, s0]
  have t1 : w2.cell? ⟨W.heap.size, 1, none⟩ = some (.int .i64 (B : Nat)) := by rw [hw2]; simp [go_sem, s1]
  have t2 : w2.cell? ⟨W.heap.size, 2, none⟩ = some (.int .i64 (n : Nat)) := by rw [hw2]; simp [go_sem, s2]
  have HB : Hid (Below W.heap.size W w2) := by rw [hw2]; exact ((HB1.out.setCell (Nat.le_refl _) _).setCell (Nat.le_refl _) _).setCell (Nat.le_refl _) _
  have hz : W.heap.size < w2.heap.size := by rw [hw2]; simpa using hz1
  clear hb HFIX
  go_wp2_with fail
  rw [← hw2]
  clear hw2 s0 s1 s2 f0 HB1 hz1
  have s0 := t0
  have s1 := t1
  have s2 := t2
  clear t0 t1 t2
  refine (HTO.out _).mono ?_
  rintro e w3 ⟨rfl, hb⟩
  have s0 := (hb.cell (p := ⟨W.heap.size, 0, none⟩) (by show W.heap.size < _; omega)).trans s0
  have s1 := (hb.cell (p := ⟨W.heap.size, 1, none⟩) (by show W.heap.size < _; omega)).trans s1
  have s2 := (hb.cell (p := ⟨W.heap.size, 2, none⟩) (by show W.heap.size < _; omega)).trans s2
  have HB := Lib.hid (HB.out.trans (hb.mono HB.out.size))
  have hz := Nat.lt_of_lt_of_le hz hb.size
  clear hb
  go_wp2_with fail
  refine (HNEW.out _).mono ?_
  rintro e w4 ⟨p, q, rfl, hbk, hpw, hqw, hqp, hb⟩
  have s0 := (hb.cell (p := ⟨W.heap.size, 0, none⟩) (by show W.heap.size < _; omega)).trans s0
  have s1 := (hb.cell (p := ⟨W.heap.size, 1, none⟩) (by show W.heap.size < _; omega)).trans s1
  have s2 := (hb.cell (p := ⟨W.heap.size, 2, none⟩) (by show W.heap.size < _; omega)).trans s2
  have HB := Lib.hid (HB.out.trans (hb.mono HB.out.size))
  have hz := Nat.lt_of_lt_of_le hz hb.size
  have hp4 : p < w4.heap.size := hbk.1
  have HK0 := Lib.hid hbk
  have hWq : W.heap.size < q := by omega
  clear hbk hb hqw hpw
  go_wp2_with fail
  refine (HNEWR.out _).mono ?_
  rintro e w5 ⟨p2, q2, rfl, hbk, hpw, hqw, hb⟩
  have s0 := (hb.cell (p := ⟨W.heap.size, 0, none⟩) (by show W.heap.size < _; omega)).trans s0
  have s1 := (hb.cell (p := ⟨W.heap.size, 1, none⟩) (by show W.heap.size < _; omega)).trans s1
  have s2 := (hb.cell (p := ⟨W.heap.size, 2, none⟩) (by show W.heap.size < _; omega)).trans s2
  have HB := Lib.hid (HB.out.trans (hb.mono HB.out.size))
  have hz := Nat.lt_of_lt_of_le hz hb.size
  have HT : Hid (Two w5 W.heap.size p q p2 q2 S B n (fun _ _ => pl0)) :=
    ⟨(HK0.out.dom (D' := DD p q p2 q2) fun b h1 h2 => by
        rcases h2 with e | e | e
        · exact e
        · omega
        · omega).call hb, hbk.dom fun b h1 h2 => by
        rcases h2 with e | e | e
        · left; omega
        · exact .inr (.inl e)
        · exact .inr (.inr e), hWq, hqp, by omega, by omega⟩
  have hpp2 : p < p2 := by omega
  have hpq2 : p < q2 := by omega
  clear hbk hb HK0 hpw hqw hp4
  go_wp2_with fail
  refine (HTOLD.out _).mono ?_
  rintro e w6 ⟨rfl, hb⟩
  have HB := Lib.hid (HB.out.trans (hb.mono HB.out.size))
  have hz := Nat.lt_of_lt_of_le hz hb.size
  have HT := Lib.hid (HT.out.call hb)
  clear hb s0 s1 s2 HTO HNEW HNEWR HTOLD
  go_wp2
  go_loopw [10] (fun i wr => ∃ (k : Nat) (g : Nat → Nat → Pl), k ≤ K ∧ i = .int .i64 k ∧ stG g ∧ clG g ∧ Hid (Two wr W.heap.size p q p2 q2 S B n g) ∧ W.heap.size < wr.heap.size ∧ Hid (Below W.heap.size W wr)) (fun i _ => K - (intOf i).toNat)
  case atStart => exact ⟨0, _, by omega, rfl, fun _ _ => (by show (0 : Nat) < 4294967296; omega), fun _ _ => rfl, HT, by omega, HB⟩
  case round =>
    obtain ⟨k, g, hk, rfl, hst, hcl, HT', hzx, HB'⟩ := hrel
    have HT := HT'
    have HB := HB'
    clear HT' HB'
    by_cases hlt : k < K
    · obtain ⟨b, off, rfl, hb0, hcell⟩ := HOPS.out (by omega)
      obtain ⟨kd, kv, m, port, vid, now, old, hm, hnow, hold, e0', e1', e2', e3', e4', e5', e6'⟩ := hcell k (by omega)
      have g0 : (0 : Int) ≤ (k : Int) := Int.natCast_nonneg _
      have g1 : (k : Int) < (len : Int) := by omega
      have g2 : (k : Int) < 100 := by omega
      have HOPC : Hid (∀ w', Below W.heap.size W w' → w'.cell? ⟨b, off + k * 7, none⟩ = some (.int .i64 kd) ∧ w'.cell? ⟨b, off + k * 7 + 1, none⟩ = some (.int .i64 kv) ∧ w'.cell? ⟨b, off + k * 7 + 2, none⟩ = some (.int .u64 (m : Int)) ∧ w'.cell? ⟨b, off + k * 7 + 3, none⟩ = some (.int .i64 port) ∧ w'.cell? ⟨b, off + k * 7 + 4, none⟩ = some (.int .i64 vid) ∧ w'.cell? ⟨b, off + k * 7 + 5, none⟩ = some (.int .u32 (now : Int)) ∧ w'.cell? ⟨b, off + k * 7 + 6, none⟩ = some (.int .u32 (old : Int))) := fun w' hb => ⟨(hb.cell (p := ⟨b, _, none⟩) hb0).trans e0', (hb.cell (p := ⟨b, _, none⟩) hb0).trans e1', (hb.cell (p := ⟨b, _, none⟩) hb0).trans e2', (hb.cell (p := ⟨b, _, none⟩) hb0).trans e3', (hb.cell (p := ⟨b, _, none⟩) hb0).trans e4', (hb.cell (p := ⟨b, _, none⟩) hb0).trans e5', (hb.cell (p := ⟨b, _, none⟩) hb0).trans e6'⟩
      obtain ⟨z0, z1, z2, z3, z4, z5, z6⟩ := HOPC.out _ HB.out
      obtain ⟨K1, hK7, hk1, hk2⟩ := kind7 kd
      have hst' := doG_st K1 kv m port vid now old S B n g hst hnow
      have hcl' := doG_cl K1 kv m port vid now old S B n g hcl
      have HD1 := Lib.hid fun w hk hD => HDO.out w (DD p q p2 q2) p q g kd kv m port vid now old hk hD (Two.dq HT.out.l2) hst hm hnow K1 hK7 hk1 hk2
      have HW1 := Lib.hid fun w hk hD => HWA.out w (DD p q p2 q2) p2 q2 g kd kv m port vid now old hk hD Two.dq2 hst hm hnow K1 hK7 hk1 hk2
      obtain ⟨y, hy⟩ : ∃ y, y = doG K1 kv m port vid now old S B n g := ⟨_, rfl⟩
      rw [← hy] at HD1 HW1 hst' hcl'
      obtain ⟨g', r⟩ := y
      simp only at HD1 HW1 hst' hcl'
      clear hy e0' e1' e2' e3' e4' e5' e6' hcell HDO HWA HOPS HOPS2 hm hnow hold hk1 hk2 hK7
      go_wp2_with fail
      refine (HD1.out _ HT.out.one HT.out.lt).mono ?_
      intro e w6 hpost
      obtain ⟨he, hk6, hbt⟩ := hpost
      subst he
      have HA6 := Lib.hid hk6
      have HC6 := Lib.hid (HT.out.two.but hbt (by have := HT.out.l2; have := HT.out.l3; omega) (by have := HT.out.l2; have := HT.out.l4; omega) (Two.dq HT.out.l2))
      have HL6 : Hid (∀ b, DD p q p2 q2 b → b < w6.heap.size) := fun b hb => Nat.lt_of_lt_of_le (HT.out.lt b hb) hbt.below.size
      have hz6 : W.heap.size < w6.heap.size := Nat.lt_of_lt_of_le hzx hbt.below.size
      have HB6 := Lib.hid (HB.out.trans (hbt.below.mono (by have := HT.out.l1; omega)))
      obtain ⟨v0, v1, v2, v3, v4, v5, v6⟩ := HOPC.out _ HB6.out
      clear hk6 hbt z0 z1 z2 z3 z4 z5 z6
      go_wp2_with fail
      refine (HW1.out _ HC6.out HL6.out).mono ?_
      intro e w7 hpost
      obtain ⟨he, hk7, hbt⟩ := hpost
      subst he
      have HT7 : Hid (Two w7 W.heap.size p q p2 q2 S B n g') := ⟨HA6.out.but hbt (by have := HT.out.l4; omega) (by have := HT.out.l2; have := HT.out.l4; omega) Two.dq2, hk7, HT.out.l1, HT.out.l2, HT.out.l3, HT.out.l4⟩
      have hz7 : W.heap.size < w7.heap.size := Nat.lt_of_lt_of_le hz6 hbt.below.size
      have HB7 := Lib.hid (HB6.out.trans (hbt.below.mono (by have := HT.out.l1; have := HT.out.l2; have := HT.out.l4; omega)))
      clear hk7 hbt v0 v1 v2 v3 v4 v5 v6
      go_wp2
      go_roundw
      case rel => exact ⟨k + 1, g', by omega, by go_num, hst', hcl', HT7.out, hz7, HB7⟩
      case measure => simp [intOf]; omega
    · have hfin := HNN.out k hk hlt
      clear HNN HOPS
      rcases hfin with hfin | ⟨hfin0, hfin⟩
      · have hf : ¬ (k : Int) < (len : Int) := by omega
        go_wp2_with fail
        clear hf
        refine (HCP.out _ _ _ _ _ HT.out.one).mono ?_
        rintro e u1 ⟨p3, q3, rfl, hk3, hq3w, hq3p, hb1⟩
        have hlt := HT.out.lt
        have hpN : p < wr.heap.size ∧ q < wr.heap.size ∧ p2 < wr.heap.size ∧ q2 < wr.heap.size := ⟨HT.out.one.1, HT.out.one.2.1, HT.out.two.1, HT.out.two.2.1⟩
        have HTa := Lib.hid (HT.out.call hb1)
        have HO1 := Lib.hid ((HT.out.one.dom (D' := fun b => wr.heap.size ≤ b ∨ DD p q p2 q2 b) fun b h1 h2 => by
          rcases h2 with e | e
          · omega
          · exact e).call hb1)
        have HO2 := Lib.hid ((HT.out.two.dom (D' := fun b => wr.heap.size ≤ b ∨ DD p q p2 q2 b) fun b h1 h2 => by
          rcases h2 with e | e
          · omega
          · exact e).call hb1)
        have HB1 := Lib.hid (HB.out.trans (hb1.mono HB.out.size))
        have hp3 := hk3.1
        have hu1 := hb1.size
        have HK3 := Lib.hid hk3
        clear hk3 hb1 hlt
        go_wp2_with fail
        refine (HCR.out _ _ _ _ _ HTa.out.two).mono ?_
        rintro e u2 ⟨p4, q4, rfl, hk4, hp4w, hq4w, hb2⟩
        have hcg : (fun i j => ownP (g i j)) = g := by funext i j; exact hcl i j
        rw [hcg] at hk4
        have HT2 : Hid (Two u2 W.heap.size p3 q3 p4 q4 S B n g) :=
          ⟨(HK3.out.dom (D' := DD p3 q3 p4 q4) fun b h1 h2 => by
              rcases h2 with e | e | e
              · exact e
              · omega
              · omega).call hb2, hk4.dom fun b h1 h2 => by
              rcases h2 with e | e | e
              · left; omega
              · exact .inr (.inl e)
              · exact .inr (.inr e), by omega, hq3p, by omega, by omega⟩
        have HO1 := Lib.hid (HO1.out.call hb2)
        have HO2 := Lib.hid (HO2.out.call hb2)
        have HB2' := Lib.hid (HB1.out.trans (hb2.mono HB1.out.size))
        have hz2 : W.heap.size < u2.heap.size := by have := hb2.size; omega
        have hq3 : wr.heap.size ≤ q3 ∧ wr.heap.size ≤ q4 := ⟨hq3w, by omega⟩
        have l12 : q3 < p3 ∧ p3 < p4 ∧ p3 < q4 ∧ W.heap.size < q3 := ⟨hq3p, by omega, by omega, by omega⟩
        obtain ⟨gg, hgg⟩ : ∃ gg, gg = g := ⟨_, rfl⟩
        rw [← hgg] at HO1 HO2
        obtain ⟨Nz, hNz⟩ : ∃ Nz, Nz = wr.heap.size := ⟨_, rfl⟩
        rw [← hNz] at HO1 HO2 hq3 hpN
        clear hgg hNz hk4 hb2 hcg HK3 HTa HB1 HT HB hp3 hu1 hp4w hq4w hq3w hq3p
        go_wp2
        go_loopw [13] (fun i wr => ∃ (k : Nat) (g : Nat → Nat → Pl), k ≤ KK ∧ i = .int .i64 k ∧ stG g ∧ Hid (Two wr W.heap.size p3 q3 p4 q4 S B n g) ∧ W.heap.size < wr.heap.size ∧ Hid (BkAt wr (fun b => Nz ≤ b ∨ DD p q p2 q2 b) p q S B n gg) ∧ Hid (BkAt wr (fun b => Nz ≤ b ∨ DD p q p2 q2 b) p2 q2 S B n gg) ∧ Hid (Below W.heap.size W wr)) (fun i _ => KK - (intOf i).toNat)
        case atStart => exact ⟨0, _, by omega, rfl, hst, HT2, hz2, HO1, HO2, HB2'⟩
        case round =>
          clear hst hcl
          obtain ⟨k, g, hk, rfl, hst, HT', hzx, HO1', HO2', HB'⟩ := hrel
          have HT := HT'
          have HB := HB'
          have HO1 := HO1'
          have HO2 := HO2'
          clear HT' HB' HO1' HO2' HT2 HB2'
          by_cases hlt : k < KK
          · obtain ⟨b, off, rfl, hb0, hcell⟩ := HOPS2.out (by omega)
            obtain ⟨kd, kv, m, port, vid, now, old, hm, hnow, hold, e0', e1', e2', e3', e4', e5', e6'⟩ := hcell k (by omega)
            have g0 : (0 : Int) ≤ (k : Int) := Int.natCast_nonneg _
            have g1 : (k : Int) < (len2 : Int) := by omega
            have g2 : (k : Int) < 100 := by omega
            have HOPC : Hid (∀ w', Below W.heap.size W w' → w'.cell? ⟨b, off + k * 7, none⟩ = some (.int .i64 kd) ∧ w'.cell? ⟨b, off + k * 7 + 1, none⟩ = some (.int .i64 kv) ∧ w'.cell? ⟨b, off + k * 7 + 2, none⟩ = some (.int .u64 (m : Int)) ∧ w'.cell? ⟨b, off + k * 7 + 3, none⟩ = some (.int .i64 port) ∧ w'.cell? ⟨b, off + k * 7 + 4, none⟩ = some (.int .i64 vid) ∧ w'.cell? ⟨b, off + k * 7 + 5, none⟩ = some (.int .u32 (now : Int)) ∧ w'.cell? ⟨b, off + k * 7 + 6, none⟩ = some (.int .u32 (old : Int))) := fun w' hb => ⟨(hb.cell (p := ⟨b, _, none⟩) hb0).trans e0', (hb.cell (p := ⟨b, _, none⟩) hb0).trans e1', (hb.cell (p := ⟨b, _, none⟩) hb0).trans e2', (hb.cell (p := ⟨b, _, none⟩) hb0).trans e3', (hb.cell (p := ⟨b, _, none⟩) hb0).trans e4', (hb.cell (p := ⟨b, _, none⟩) hb0).trans e5', (hb.cell (p := ⟨b, _, none⟩) hb0).trans e6'⟩
            obtain ⟨z0, z1, z2, z3, z4, z5, z6⟩ := HOPC.out _ HB.out
            obtain ⟨K1, hK7, hk1, hk2⟩ := kind7 kd
            have hst' := doG_st K1 kv m port vid now old S B n g hst hnow
            have HD1 := Lib.hid fun w hk hD => HDO.out w (DD p3 q3 p4 q4) p3 q3 g kd kv m port vid now old hk hD (Two.dq HT.out.l2) hst hm hnow K1 hK7 hk1 hk2
            have HW1 := Lib.hid fun w hk hD => HWA.out w (DD p3 q3 p4 q4) p4 q4 g kd kv m port vid now old hk hD Two.dq2 hst hm hnow K1 hK7 hk1 hk2
            obtain ⟨y, hy⟩ : ∃ y, y = doG K1 kv m port vid now old S B n g := ⟨_, rfl⟩
            rw [← hy] at HD1 HW1 hst'
            obtain ⟨g', r⟩ := y
            simp only at HD1 HW1 hst'
            have hrr : ((r : Int) != (r : Int)) = false := by simp
            clear hy e0' e1' e2' e3' e4' e5' e6' hcell HDO HWA HOPS2 hm hnow hold hk1 hk2 hK7
            go_wp2_with fail
            refine wp_region_held_drew (S := fun w' => w'.cell? ⟨b, off + k * 7, none⟩ = some (.int .i64 kd) ∧ w'.cell? ⟨b, off + k * 7 + 1, none⟩ = some (.int .i64 kv) ∧ w'.cell? ⟨b, off + k * 7 + 2, none⟩ = some (.int .u64 (m : Int)) ∧ w'.cell? ⟨b, off + k * 7 + 3, none⟩ = some (.int .i64 port) ∧ w'.cell? ⟨b, off + k * 7 + 4, none⟩ = some (.int .i64 vid) ∧ w'.cell? ⟨b, off + k * 7 + 5, none⟩ = some (.int .u32 (now : Int)) ∧ w'.cell? ⟨b, off + k * 7 + 6, none⟩ = some (.int .u32 (old : Int))) (by kernel_rfl) ?_ (fun hHeld => ?_)
            · exact ⟨z0, z1, z2, z3, z4, z5, z6⟩
            refine wpAnyH_take (i := 0) (oi := { dst := some 72, op := Go.Op.move (Go.Operand.tmp 11), type := 82, pos := "law.go:144", after := #[], guard := none }) (v := ?_) rfl (by kernel_rfl) (by kernel_rfl) (by kernel_rfl) (fun _ _ _ h => h) (Or.inl ⟨by rfl, ?_⟩) (by assumption) ?_
            rotate_left
            · intro w hSw
              (try dsimp only at hSw)
              go_simp
              try with_reducible rfl
            (try simp only [Act.put, List.setIfInBounds_toArray, List.set_cons_zero, List.set_cons_succ])
            refine wpAnyH_take (i := 1) (oi := { dst := some 73, op := Go.Op.move (Go.Operand.tmp 2), type := 80, pos := "law.go:144", after := #[], guard := none }) (v := ?_) rfl (by kernel_rfl) (by kernel_rfl) (by kernel_rfl) (fun _ _ _ h => h) (Or.inl ⟨by rfl, ?_⟩) (by assumption) ?_
            rotate_left
            · intro w hSw
              (try dsimp only at hSw)
              go_simp
              try with_reducible rfl
            (try simp only [Act.put, List.setIfInBounds_toArray, List.set_cons_zero, List.set_cons_succ])
            refine wpAnyH_take (i := 2) (oi := { dst := some 74, op := Go.Op.move (Go.Operand.tmp 13), type := 3, pos := "law.go:144", after := #[], guard := none }) (v := ?_) rfl (by kernel_rfl) (by kernel_rfl) (by kernel_rfl) (fun _ _ _ h => h) (Or.inl ⟨by rfl, ?_⟩) (by assumption) ?_
            rotate_left
            · intro w hSw
              (try dsimp only at hSw)
              go_simp
              try with_reducible rfl
            (try simp only [Act.put, List.setIfInBounds_toArray, List.set_cons_zero, List.set_cons_succ])
            refine wpAnyH_take (i := 3) (oi := { dst := some 75, op := Go.Op.indexAddr 80 (Go.Operand.tmp 73) (Go.Operand.tmp 74), type := 0, pos := "law.go:144", after := #[{ on := 1, ground := Go.Ground.data }, { on := 2, ground := Go.Ground.data }], guard := none }) (v := ?_) rfl (by kernel_rfl) (by kernel_rfl) (by kernel_rfl) (fun _ _ _ h => h) (Or.inl ⟨by rfl, ?_⟩) (by assumption) ?_
            rotate_left
            · intro w hSw
              (try dsimp only at hSw)
              go_simp
              try with_reducible rfl
            (try simp only [Act.put, List.setIfInBounds_toArray, List.set_cons_zero, List.set_cons_succ])
            refine wpAnyH_take (i := 4) (oi := { dst := some 76, op := Go.Op.load 93 (Go.Operand.tmp 75), type := 93, pos := "law.go:144", after := #[{ on := 3, ground := Go.Ground.data }], guard := none }) (v := ?_) rfl (by kernel_rfl) (by kernel_rfl) (by kernel_rfl) (fun _ _ _ h => h) (Or.inl ⟨by rfl, ?_⟩) (by assumption) ?_
            rotate_left
            · intro w hSw
              (try dsimp only at hSw)
              go_simp
              try with_reducible rfl
            (try simp only [Act.put, List.setIfInBounds_toArray, List.set_cons_zero, List.set_cons_succ])
            refine wpAnyH_take (i := 6) (oi := { dst := some 78, op := Go.Op.move (Go.Operand.tmp 12), type := 88, pos := "law.go:144", after := #[], guard := none }) (v := ?_) rfl (by kernel_rfl) (by kernel_rfl) (by kernel_rfl) (fun _ _ _ h => h) (Or.inl ⟨by rfl, ?_⟩) (by assumption) ?_
            rotate_left
            · intro w hSw
              (try dsimp only at hSw)
              go_simp
              try with_reducible rfl
            (try simp only [Act.put, List.setIfInBounds_toArray, List.set_cons_zero, List.set_cons_succ])
            refine wpAnyH_take (i := 7) (oi := { dst := some 79, op := Go.Op.move (Go.Operand.tmp 2), type := 80, pos := "law.go:144", after := #[], guard := none }) (v := ?_) rfl (by kernel_rfl) (by kernel_rfl) (by kernel_rfl) (fun _ _ _ h => h) (Or.inl ⟨by rfl, ?_⟩) (by assumption) ?_
            rotate_left
            · intro w hSw
              (try dsimp only at hSw)
              go_simp
              try with_reducible rfl
            (try simp only [Act.put, List.setIfInBounds_toArray, List.set_cons_zero, List.set_cons_succ])
            refine wpAnyH_take (i := 8) (oi := { dst := some 80, op := Go.Op.move (Go.Operand.tmp 13), type := 3, pos := "law.go:144", after := #[], guard := none }) (v := ?_) rfl (by kernel_rfl) (by kernel_rfl) (by kernel_rfl) (fun _ _ _ h => h) (Or.inl ⟨by rfl, ?_⟩) (by assumption) ?_
            rotate_left
            · intro w hSw
              (try dsimp only at hSw)
              go_simp
              try with_reducible rfl
            (try simp only [Act.put, List.setIfInBounds_toArray, List.set_cons_zero, List.set_cons_succ])
            refine wpAnyH_take (i := 9) (oi := { dst := some 81, op := Go.Op.indexAddr 80 (Go.Operand.tmp 79) (Go.Operand.tmp 80), type := 0, pos := "law.go:144", after := #[{ on := 7, ground := Go.Ground.data }, { on := 8, ground := Go.Ground.data }], guard := none }) (v := ?_) rfl (by kernel_rfl) (by kernel_rfl) (by kernel_rfl) (fun _ _ _ h => h) (Or.inl ⟨by rfl, ?_⟩) (by assumption) ?_
            rotate_left
            · intro w hSw
              (try dsimp only at hSw)
              go_simp
              try with_reducible rfl
            (try simp only [Act.put, List.setIfInBounds_toArray, List.set_cons_zero, List.set_cons_succ])
            refine wpAnyH_take (i := 10) (oi := { dst := some 82, op := Go.Op.load 93 (Go.Operand.tmp 81), type := 93, pos := "law.go:144", after := #[{ on := 9, ground := Go.Ground.data }], guard := none }) (v := ?_) rfl (by kernel_rfl) (by kernel_rfl) (by kernel_rfl) (fun _ _ _ h => h) (Or.inl ⟨by rfl, ?_⟩) (by assumption) ?_
            rotate_left
            · intro w hSw
              (try dsimp only at hSw)
              go_simp
              try with_reducible rfl
            (try simp only [Act.put, List.setIfInBounds_toArray, List.set_cons_zero, List.set_cons_succ])
            refine wpAnyH_ready (rs := [5]) (by kernel_rfl) (by simp) ?_
            refine (AllReadyH.cons (o := { dst := some 77, op := Go.Op.call { callee := Go.Callee.value (Go.Operand.func 41), args := #[Go.Operand.tmp 72, Go.Operand.tmp 76], argTypes := #[82, 93] }, type := 3, pos := "law.go:144", after := #[{ on := 0, ground := Go.Ground.data }, { on := 4, ground := Go.Ground.data }], guard := none }) rfl (fun K hK => ?_) AllReadyH.nil)
            go_simp
            refine Calls.mono (HD1.out _ (HT.out.one.call (Below.drew (Below.refl _ _))) HT.out.lt) ?_
            intro e w6 hpost
            obtain ⟨he, hk6, hbt'⟩ := hpost
            subst he
            have hbt : But q3 wr w6 := (But.of (Below.drew (Below.refl _ _)) (by have := HT.out.lt q3 (Two.dq HT.out.l2); omega)).trans hbt'
            have HA6 := Lib.hid hk6
            have HC6 := Lib.hid (HT.out.two.but hbt (by omega) (by omega) (Two.dq HT.out.l2))
            have HL6 : Hid (∀ b, DD p3 q3 p4 q4 b → b < w6.heap.size) := fun b hb => Nat.lt_of_lt_of_le (HT.out.lt b hb) hbt.below.size
            have hz6 : W.heap.size < w6.heap.size := Nat.lt_of_lt_of_le hzx hbt.below.size
            have HB6 := Lib.hid (HB.out.trans (hbt.below.mono (by omega)))
            have HO1b := Lib.hid (HO1.out.but hbt (by omega) (by omega) (Or.inl hq3.1))
            have HO2b := Lib.hid (HO2.out.but hbt (by omega) (by omega) (Or.inl hq3.1))
            clear hk6 hbt hbt'
            refine hK.out _ _ ?_ (fun hHeld => ?_)
            · (try dsimp only)
              exact HOPC.out _ HB6.out
            clear hK K
            (try simp only [Act.put, List.setIfInBounds_toArray, List.set_cons_zero, List.set_cons_succ])
            refine wpAnyH_ready (rs := [11]) (by kernel_rfl) (by simp) ?_
            refine (AllReadyH.cons (o := { dst := some 83, op := Go.Op.call { callee := Go.Callee.value (Go.Operand.func 42), args := #[Go.Operand.tmp 78, Go.Operand.tmp 82], argTypes := #[88, 93] }, type := 3, pos := "law.go:144", after := #[{ on := 6, ground := Go.Ground.data }, { on := 10, ground := Go.Ground.data }, { on := 5, ground := Go.Ground.chain }], guard := none }) rfl (fun K hK => ?_) AllReadyH.nil)
            go_simp
            refine Calls.mono (HW1.out _ HC6.out HL6.out) ?_
            intro e w7 hpost
            obtain ⟨he, hk7, hbt⟩ := hpost
            subst he
            have HT7 : Hid (Two w7 W.heap.size p3 q3 p4 q4 S B n g') := ⟨HA6.out.but hbt (by omega) (by omega) Two.dq2, hk7, HT.out.l1, HT.out.l2, HT.out.l3, HT.out.l4⟩
            have hz7 : W.heap.size < w7.heap.size := Nat.lt_of_lt_of_le hz6 hbt.below.size
            have HB7 := Lib.hid (HB6.out.trans (hbt.below.mono (by omega)))
            have HO1c := Lib.hid (HO1b.out.but hbt (by omega) (by omega) (Or.inl hq3.2))
            have HO2c := Lib.hid (HO2b.out.but hbt (by omega) (by omega) (Or.inl hq3.2))
            clear hk7 hbt
            refine hK.out _ _ ?_ (fun hHeld => ?_)
            · (try dsimp only)
              exact HOPC.out _ HB7.out
            clear hK K
            (try simp only [Act.put, List.setIfInBounds_toArray, List.set_cons_zero, List.set_cons_succ])
            refine wpAnyH_take (i := 12) (oi := { dst := some 84, op := Go.Op.binOp Go.BinOp.neq 3 (Go.Operand.tmp 77) (Go.Operand.tmp 83) 3, type := 4, pos := "law.go:144", after := #[{ on := 5, ground := Go.Ground.data }, { on := 11, ground := Go.Ground.data }], guard := none }) (v := ?_) rfl (by kernel_rfl) (by kernel_rfl) (by kernel_rfl) (fun _ _ _ h => h) (Or.inl ⟨by rfl, ?_⟩) (by assumption) ?_
            rotate_left
            · intro w hSw
              (try dsimp only at hSw)
              go_simp
              try with_reducible rfl
            (try simp only [Act.put, List.setIfInBounds_toArray, List.set_cons_zero, List.set_cons_succ])
            refine wpAnyH_done (by kernel_rfl) ?_ _
            clear hHeld
            go_wp2
            go_roundw
            case rel => exact ⟨k + 1, g', by omega, by go_num, hst', HT7, hz7, HO1c, HO2c, HB7⟩
            case measure => simp [intOf]; omega
          · have hfin := HNN2.out k hk hlt
            clear HDO HWA HOPS2 HNN2
            rcases hfin with hfin | ⟨hfin0, hfin⟩
            · have hf : ¬ (k : Int) < (len2 : Int) := by omega
              have HTn := HT
              have HO1n := HO1
              have HO2n := HO2
              have HBn := HB
              clear HT HO1 HO2 HB
              have HLA1 := HLI.out _ _ _ _ _ (HO1n.out)
              have HLB1 := Lib.hid fun w' D' p' q' (h : BkAt w' D' p' q' S B n gg) => HLR.out w' D' p' q' gg h
              obtain ⟨L1, hL1⟩ : ∃ LL, LL = bookL gg n (S * B) := ⟨_, rfl⟩
              rw [← hL1] at HLA1 HLB1
              have HLA1 := Lib.hid HLA1
              clear hL1
              go_wp2_with fail
              refine (HLA1.out).mono ?_
              rintro e u1a ⟨va1, rfl, hoa, hb⟩
              have OA1 := Lib.hid (Sl.of_own hoa)
              have HTn := Lib.hid (HTn.out.call hb)
              have HO1n := Lib.hid (HO1n.out.call hb)
              have HO2n := Lib.hid (HO2n.out.call hb)
              have HBn := Lib.hid (HBn.out.trans (hb.mono HBn.out.size))
              clear hoa
              have OA1 := Lib.hid OA1.out
              clear hb HLA1
              go_wp2_with fail
              refine (HLB1.out _ _ _ _ HO2n.out).mono ?_
              rintro e u1b ⟨vb1, rfl, hob, hb⟩
              have OB1 := Lib.hid (Sl.of_own hob)
              have OA1 := Lib.hid (OA1.out.below hb)
              have HTn := Lib.hid (HTn.out.call hb)
              have HO1n := Lib.hid (HO1n.out.call hb)
              have HO2n := Lib.hid (HO2n.out.call hb)
              have HBn := Lib.hid (HBn.out.trans (hb.mono HBn.out.size))
              clear hob hb HLB1
              go_wp2_with fail
              refine (law11_Entries rfl OA1.out OB1.out).mono ?_
              rintro e u1c ⟨rfl, mq1, rfl⟩
              have HTn := Lib.hid (HTn.out.call (below_drewN (Below.refl _ _) mq1))
              have HO1n := Lib.hid (HO1n.out.call (below_drewN (Below.refl _ _) mq1))
              have HO2n := Lib.hid (HO2n.out.call (below_drewN (Below.refl _ _) mq1))
              have HBn := Lib.hid (below_drewN HBn.out mq1)
              clear OA1 OB1
              have HLA2 := HLI.out _ _ _ _ _ (HTn.out.one)
              have HLB2 := Lib.hid fun w' D' p' q' (h : BkAt w' D' p' q' S B n g) => HLR.out w' D' p' q' g h
              obtain ⟨L2, hL2⟩ : ∃ LL, LL = bookL g n (S * B) := ⟨_, rfl⟩
              rw [← hL2] at HLA2 HLB2
              have HLA2 := Lib.hid HLA2
              clear hL2
              go_wp2_with fail
              refine (HLA2.out).mono ?_
              rintro e u2a ⟨va2, rfl, hoa, hb⟩
              have OA2 := Lib.hid (Sl.of_own hoa)
              have HTn := Lib.hid (HTn.out.call hb)
              have HO1n := Lib.hid (HO1n.out.call hb)
              have HO2n := Lib.hid (HO2n.out.call hb)
              have HBn := Lib.hid (HBn.out.trans (hb.mono HBn.out.size))
              clear hoa
              have OA2 := Lib.hid OA2.out
              clear hb HLA2
              go_wp2_with fail
              refine (HLB2.out _ _ _ _ HTn.out.two).mono ?_
              rintro e u2b ⟨vb2, rfl, hob, hb⟩
              have OB2 := Lib.hid (Sl.of_own hob)
              have OA2 := Lib.hid (OA2.out.below hb)
              have HTn := Lib.hid (HTn.out.call hb)
              have HO1n := Lib.hid (HO1n.out.call hb)
              have HO2n := Lib.hid (HO2n.out.call hb)
              have HBn := Lib.hid (HBn.out.trans (hb.mono HBn.out.size))
              clear hob hb HLB2
              go_wp2_with fail
              refine (law11_Entries rfl OA2.out OB2.out).mono ?_
              rintro e u2c ⟨rfl, mq2, rfl⟩
              have HTn := Lib.hid (HTn.out.call (below_drewN (Below.refl _ _) mq2))
              have HO1n := Lib.hid (HO1n.out.call (below_drewN (Below.refl _ _) mq2))
              have HO2n := Lib.hid (HO2n.out.call (below_drewN (Below.refl _ _) mq2))
              have HBn := Lib.hid (below_drewN HBn.out mq2)
              clear OA2 OB2
              go_wp2
              go_ret
              exact ⟨by first | rfl | (simp; done), HBn.out⟩
            · have hf0 : (k : Int) < (len2 : Int) := by omega
              have hf : ¬ (k : Int) < 100 := by omega
              have HTn := HT
              have HO1n := HO1
              have HO2n := HO2
              have HBn := HB
              clear HT HO1 HO2 HB
              have HLA1 := HLI.out _ _ _ _ _ (HO1n.out)
              have HLB1 := Lib.hid fun w' D' p' q' (h : BkAt w' D' p' q' S B n gg) => HLR.out w' D' p' q' gg h
              obtain ⟨L1, hL1⟩ : ∃ LL, LL = bookL gg n (S * B) := ⟨_, rfl⟩
              rw [← hL1] at HLA1 HLB1
              have HLA1 := Lib.hid HLA1
              clear hL1
              go_wp2_with fail
              refine (HLA1.out).mono ?_
              rintro e u1a ⟨va1, rfl, hoa, hb⟩
              have OA1 := Lib.hid (Sl.of_own hoa)
              have HTn := Lib.hid (HTn.out.call hb)
              have HO1n := Lib.hid (HO1n.out.call hb)
              have HO2n := Lib.hid (HO2n.out.call hb)
              have HBn := Lib.hid (HBn.out.trans (hb.mono HBn.out.size))
              clear hoa
              have OA1 := Lib.hid OA1.out
              clear hb HLA1
              go_wp2_with fail
              refine (HLB1.out _ _ _ _ HO2n.out).mono ?_
              rintro e u1b ⟨vb1, rfl, hob, hb⟩
              have OB1 := Lib.hid (Sl.of_own hob)
              have OA1 := Lib.hid (OA1.out.below hb)
              have HTn := Lib.hid (HTn.out.call hb)
              have HO1n := Lib.hid (HO1n.out.call hb)
              have HO2n := Lib.hid (HO2n.out.call hb)
              have HBn := Lib.hid (HBn.out.trans (hb.mono HBn.out.size))
              clear hob hb HLB1
              go_wp2_with fail
              refine (law11_Entries rfl OA1.out OB1.out).mono ?_
              rintro e u1c ⟨rfl, mq1, rfl⟩
              have HTn := Lib.hid (HTn.out.call (below_drewN (Below.refl _ _) mq1))
              have HO1n := Lib.hid (HO1n.out.call (below_drewN (Below.refl _ _) mq1))
              have HO2n := Lib.hid (HO2n.out.call (below_drewN (Below.refl _ _) mq1))
              have HBn := Lib.hid (below_drewN HBn.out mq1)
              clear OA1 OB1
              have HLA2 := HLI.out _ _ _ _ _ (HTn.out.one)
              have HLB2 := Lib.hid fun w' D' p' q' (h : BkAt w' D' p' q' S B n g) => HLR.out w' D' p' q' g h
              obtain ⟨L2, hL2⟩ : ∃ LL, LL = bookL g n (S * B) := ⟨_, rfl⟩
              rw [← hL2] at HLA2 HLB2
              have HLA2 := Lib.hid HLA2
              clear hL2
              go_wp2_with fail
              refine (HLA2.out).mono ?_
              rintro e u2a ⟨va2, rfl, hoa, hb⟩
              have OA2 := Lib.hid (Sl.of_own hoa)
              have HTn := Lib.hid (HTn.out.call hb)
              have HO1n := Lib.hid (HO1n.out.call hb)
              have HO2n := Lib.hid (HO2n.out.call hb)
              have HBn := Lib.hid (HBn.out.trans (hb.mono HBn.out.size))
              clear hoa
              have OA2 := Lib.hid OA2.out
              clear hb HLA2
              go_wp2_with fail
              refine (HLB2.out _ _ _ _ HTn.out.two).mono ?_
              rintro e u2b ⟨vb2, rfl, hob, hb⟩
              have OB2 := Lib.hid (Sl.of_own hob)
              have OA2 := Lib.hid (OA2.out.below hb)
              have HTn := Lib.hid (HTn.out.call hb)
              have HO1n := Lib.hid (HO1n.out.call hb)
              have HO2n := Lib.hid (HO2n.out.call hb)
              have HBn := Lib.hid (HBn.out.trans (hb.mono HBn.out.size))
              clear hob hb HLB2
              go_wp2_with fail
              refine (law11_Entries rfl OA2.out OB2.out).mono ?_
              rintro e u2c ⟨rfl, mq2, rfl⟩
              have HTn := Lib.hid (HTn.out.call (below_drewN (Below.refl _ _) mq2))
              have HO1n := Lib.hid (HO1n.out.call (below_drewN (Below.refl _ _) mq2))
              have HO2n := Lib.hid (HO2n.out.call (below_drewN (Below.refl _ _) mq2))
              have HBn := Lib.hid (below_drewN HBn.out mq2)
              clear OA2 OB2
              go_wp2
              go_ret
              exact ⟨by first | rfl | (simp; done), HBn.out⟩
      · have hf0 : (k : Int) < (len : Int) := by omega
        have hf : ¬ (k : Int) < 100 := by omega
        go_wp2_with fail
        clear hf hf0
        refine (HCP.out _ _ _ _ _ HT.out.one).mono ?_
        rintro e u1 ⟨p3, q3, rfl, hk3, hq3w, hq3p, hb1⟩
        have hlt := HT.out.lt
        have hpN : p < wr.heap.size ∧ q < wr.heap.size ∧ p2 < wr.heap.size ∧ q2 < wr.heap.size := ⟨HT.out.one.1, HT.out.one.2.1, HT.out.two.1, HT.out.two.2.1⟩
        have HTa := Lib.hid (HT.out.call hb1)
        have HO1 := Lib.hid ((HT.out.one.dom (D' := fun b => wr.heap.size ≤ b ∨ DD p q p2 q2 b) fun b h1 h2 => by
          rcases h2 with e | e
          · omega
          · exact e).call hb1)
        have HO2 := Lib.hid ((HT.out.two.dom (D' := fun b => wr.heap.size ≤ b ∨ DD p q p2 q2 b) fun b h1 h2 => by
          rcases h2 with e | e
          · omega
          · exact e).call hb1)
        have HB1 := Lib.hid (HB.out.trans (hb1.mono HB.out.size))
        have hp3 := hk3.1
        have hu1 := hb1.size
        have HK3 := Lib.hid hk3
        clear hk3 hb1 hlt
        go_wp2_with fail
        refine (HCR.out _ _ _ _ _ HTa.out.two).mono ?_
        rintro e u2 ⟨p4, q4, rfl, hk4, hp4w, hq4w, hb2⟩
        have hcg : (fun i j => ownP (g i j)) = g := by funext i j; exact hcl i j
        rw [hcg] at hk4
        have HT2 : Hid (Two u2 W.heap.size p3 q3 p4 q4 S B n g) :=
          ⟨(HK3.out.dom (D' := DD p3 q3 p4 q4) fun b h1 h2 => by
              rcases h2 with e | e | e
              · exact e
              · omega
              · omega).call hb2, hk4.dom fun b h1 h2 => by
              rcases h2 with e | e | e
              · left; omega
              · exact .inr (.inl e)
              · exact .inr (.inr e), by omega, hq3p, by omega, by omega⟩
        have HO1 := Lib.hid (HO1.out.call hb2)
        have HO2 := Lib.hid (HO2.out.call hb2)
        have HB2' := Lib.hid (HB1.out.trans (hb2.mono HB1.out.size))
        have hz2 : W.heap.size < u2.heap.size := by have := hb2.size; omega
        have hq3 : wr.heap.size ≤ q3 ∧ wr.heap.size ≤ q4 := ⟨hq3w, by omega⟩
        have l12 : q3 < p3 ∧ p3 < p4 ∧ p3 < q4 ∧ W.heap.size < q3 := ⟨hq3p, by omega, by omega, by omega⟩
        obtain ⟨gg, hgg⟩ : ∃ gg, gg = g := ⟨_, rfl⟩
        rw [← hgg] at HO1 HO2
        obtain ⟨Nz, hNz⟩ : ∃ Nz, Nz = wr.heap.size := ⟨_, rfl⟩
        rw [← hNz] at HO1 HO2 hq3 hpN
        clear hgg hNz hk4 hb2 hcg HK3 HTa HB1 HT HB hp3 hu1 hp4w hq4w hq3w hq3p
        go_wp2
        go_loopw [13] (fun i wr => ∃ (k : Nat) (g : Nat → Nat → Pl), k ≤ KK ∧ i = .int .i64 k ∧ stG g ∧ Hid (Two wr W.heap.size p3 q3 p4 q4 S B n g) ∧ W.heap.size < wr.heap.size ∧ Hid (BkAt wr (fun b => Nz ≤ b ∨ DD p q p2 q2 b) p q S B n gg) ∧ Hid (BkAt wr (fun b => Nz ≤ b ∨ DD p q p2 q2 b) p2 q2 S B n gg) ∧ Hid (Below W.heap.size W wr)) (fun i _ => KK - (intOf i).toNat)
        case atStart => exact ⟨0, _, by omega, rfl, hst, HT2, hz2, HO1, HO2, HB2'⟩
        case round =>
          clear hst hcl
          obtain ⟨k, g, hk, rfl, hst, HT', hzx, HO1', HO2', HB'⟩ := hrel
          have HT := HT'
          have HB := HB'
          have HO1 := HO1'
          have HO2 := HO2'
          clear HT' HB' HO1' HO2' HT2 HB2'
          by_cases hlt : k < KK
          · obtain ⟨b, off, rfl, hb0, hcell⟩ := HOPS2.out (by omega)
            obtain ⟨kd, kv, m, port, vid, now, old, hm, hnow, hold, e0', e1', e2', e3', e4', e5', e6'⟩ := hcell k (by omega)
            have g0 : (0 : Int) ≤ (k : Int) := Int.natCast_nonneg _
            have g1 : (k : Int) < (len2 : Int) := by omega
            have g2 : (k : Int) < 100 := by omega
            have HOPC : Hid (∀ w', Below W.heap.size W w' → w'.cell? ⟨b, off + k * 7, none⟩ = some (.int .i64 kd) ∧ w'.cell? ⟨b, off + k * 7 + 1, none⟩ = some (.int .i64 kv) ∧ w'.cell? ⟨b, off + k * 7 + 2, none⟩ = some (.int .u64 (m : Int)) ∧ w'.cell? ⟨b, off + k * 7 + 3, none⟩ = some (.int .i64 port) ∧ w'.cell? ⟨b, off + k * 7 + 4, none⟩ = some (.int .i64 vid) ∧ w'.cell? ⟨b, off + k * 7 + 5, none⟩ = some (.int .u32 (now : Int)) ∧ w'.cell? ⟨b, off + k * 7 + 6, none⟩ = some (.int .u32 (old : Int))) := fun w' hb => ⟨(hb.cell (p := ⟨b, _, none⟩) hb0).trans e0', (hb.cell (p := ⟨b, _, none⟩) hb0).trans e1', (hb.cell (p := ⟨b, _, none⟩) hb0).trans e2', (hb.cell (p := ⟨b, _, none⟩) hb0).trans e3', (hb.cell (p := ⟨b, _, none⟩) hb0).trans e4', (hb.cell (p := ⟨b, _, none⟩) hb0).trans e5', (hb.cell (p := ⟨b, _, none⟩) hb0).trans e6'⟩
            obtain ⟨z0, z1, z2, z3, z4, z5, z6⟩ := HOPC.out _ HB.out
            obtain ⟨K1, hK7, hk1, hk2⟩ := kind7 kd
            have hst' := doG_st K1 kv m port vid now old S B n g hst hnow
            have HD1 := Lib.hid fun w hk hD => HDO.out w (DD p3 q3 p4 q4) p3 q3 g kd kv m port vid now old hk hD (Two.dq HT.out.l2) hst hm hnow K1 hK7 hk1 hk2
            have HW1 := Lib.hid fun w hk hD => HWA.out w (DD p3 q3 p4 q4) p4 q4 g kd kv m port vid now old hk hD Two.dq2 hst hm hnow K1 hK7 hk1 hk2
            obtain ⟨y, hy⟩ : ∃ y, y = doG K1 kv m port vid now old S B n g := ⟨_, rfl⟩
            rw [← hy] at HD1 HW1 hst'
            obtain ⟨g', r⟩ := y
            simp only at HD1 HW1 hst'
            have hrr : ((r : Int) != (r : Int)) = false := by simp
            clear hy e0' e1' e2' e3' e4' e5' e6' hcell HDO HWA HOPS2 hm hnow hold hk1 hk2 hK7
            go_wp2_with fail
            refine wp_region_held_drew (S := fun w' => w'.cell? ⟨b, off + k * 7, none⟩ = some (.int .i64 kd) ∧ w'.cell? ⟨b, off + k * 7 + 1, none⟩ = some (.int .i64 kv) ∧ w'.cell? ⟨b, off + k * 7 + 2, none⟩ = some (.int .u64 (m : Int)) ∧ w'.cell? ⟨b, off + k * 7 + 3, none⟩ = some (.int .i64 port) ∧ w'.cell? ⟨b, off + k * 7 + 4, none⟩ = some (.int .i64 vid) ∧ w'.cell? ⟨b, off + k * 7 + 5, none⟩ = some (.int .u32 (now : Int)) ∧ w'.cell? ⟨b, off + k * 7 + 6, none⟩ = some (.int .u32 (old : Int))) (by kernel_rfl) ?_ (fun hHeld => ?_)
            · exact ⟨z0, z1, z2, z3, z4, z5, z6⟩
            refine wpAnyH_take (i := 0) (oi := { dst := some 72, op := Go.Op.move (Go.Operand.tmp 11), type := 82, pos := "law.go:144", after := #[], guard := none }) (v := ?_) rfl (by kernel_rfl) (by kernel_rfl) (by kernel_rfl) (fun _ _ _ h => h) (Or.inl ⟨by rfl, ?_⟩) (by assumption) ?_
            rotate_left
            · intro w hSw
              (try dsimp only at hSw)
              go_simp
              try with_reducible rfl
            (try simp only [Act.put, List.setIfInBounds_toArray, List.set_cons_zero, List.set_cons_succ])
            refine wpAnyH_take (i := 1) (oi := { dst := some 73, op := Go.Op.move (Go.Operand.tmp 2), type := 80, pos := "law.go:144", after := #[], guard := none }) (v := ?_) rfl (by kernel_rfl) (by kernel_rfl) (by kernel_rfl) (fun _ _ _ h => h) (Or.inl ⟨by rfl, ?_⟩) (by assumption) ?_
            rotate_left
            · intro w hSw
              (try dsimp only at hSw)
              go_simp
              try with_reducible rfl
            (try simp only [Act.put, List.setIfInBounds_toArray, List.set_cons_zero, List.set_cons_succ])
            refine wpAnyH_take (i := 2) (oi := { dst := some 74, op := Go.Op.move (Go.Operand.tmp 13), type := 3, pos := "law.go:144", after := #[], guard := none }) (v := ?_) rfl (by kernel_rfl) (by kernel_rfl) (by kernel_rfl) (fun _ _ _ h => h) (Or.inl ⟨by rfl, ?_⟩) (by assumption) ?_
            rotate_left
            · intro w hSw
              (try dsimp only at hSw)
              go_simp
              try with_reducible rfl
            (try simp only [Act.put, List.setIfInBounds_toArray, List.set_cons_zero, List.set_cons_succ])
            refine wpAnyH_take (i := 3) (oi := { dst := some 75, op := Go.Op.indexAddr 80 (Go.Operand.tmp 73) (Go.Operand.tmp 74), type := 0, pos := "law.go:144", after := #[{ on := 1, ground := Go.Ground.data }, { on := 2, ground := Go.Ground.data }], guard := none }) (v := ?_) rfl (by kernel_rfl) (by kernel_rfl) (by kernel_rfl) (fun _ _ _ h => h) (Or.inl ⟨by rfl, ?_⟩) (by assumption) ?_
            rotate_left
            · intro w hSw
              (try dsimp only at hSw)
              go_simp
              try with_reducible rfl
            (try simp only [Act.put, List.setIfInBounds_toArray, List.set_cons_zero, List.set_cons_succ])
            refine wpAnyH_take (i := 4) (oi := { dst := some 76, op := Go.Op.load 93 (Go.Operand.tmp 75), type := 93, pos := "law.go:144", after := #[{ on := 3, ground := Go.Ground.data }], guard := none }) (v := ?_) rfl (by kernel_rfl) (by kernel_rfl) (by kernel_rfl) (fun _ _ _ h => h) (Or.inl ⟨by rfl, ?_⟩) (by assumption) ?_
            rotate_left
            · intro w hSw
              (try dsimp only at hSw)
              go_simp
              try with_reducible rfl
            (try simp only [Act.put, List.setIfInBounds_toArray, List.set_cons_zero, List.set_cons_succ])
            refine wpAnyH_take (i := 6) (oi := { dst := some 78, op := Go.Op.move (Go.Operand.tmp 12), type := 88, pos := "law.go:144", after := #[], guard := none }) (v := ?_) rfl (by kernel_rfl) (by kernel_rfl) (by kernel_rfl) (fun _ _ _ h => h) (Or.inl ⟨by rfl, ?_⟩) (by assumption) ?_
            rotate_left
            · intro w hSw
              (try dsimp only at hSw)
              go_simp
              try with_reducible rfl
            (try simp only [Act.put, List.setIfInBounds_toArray, List.set_cons_zero, List.set_cons_succ])
            refine wpAnyH_take (i := 7) (oi := { dst := some 79, op := Go.Op.move (Go.Operand.tmp 2), type := 80, pos := "law.go:144", after := #[], guard := none }) (v := ?_) rfl (by kernel_rfl) (by kernel_rfl) (by kernel_rfl) (fun _ _ _ h => h) (Or.inl ⟨by rfl, ?_⟩) (by assumption) ?_
            rotate_left
            · intro w hSw
              (try dsimp only at hSw)
              go_simp
              try with_reducible rfl
            (try simp only [Act.put, List.setIfInBounds_toArray, List.set_cons_zero, List.set_cons_succ])
            refine wpAnyH_take (i := 8) (oi := { dst := some 80, op := Go.Op.move (Go.Operand.tmp 13), type := 3, pos := "law.go:144", after := #[], guard := none }) (v := ?_) rfl (by kernel_rfl) (by kernel_rfl) (by kernel_rfl) (fun _ _ _ h => h) (Or.inl ⟨by rfl, ?_⟩) (by assumption) ?_
            rotate_left
            · intro w hSw
              (try dsimp only at hSw)
              go_simp
              try with_reducible rfl
            (try simp only [Act.put, List.setIfInBounds_toArray, List.set_cons_zero, List.set_cons_succ])
            refine wpAnyH_take (i := 9) (oi := { dst := some 81, op := Go.Op.indexAddr 80 (Go.Operand.tmp 79) (Go.Operand.tmp 80), type := 0, pos := "law.go:144", after := #[{ on := 7, ground := Go.Ground.data }, { on := 8, ground := Go.Ground.data }], guard := none }) (v := ?_) rfl (by kernel_rfl) (by kernel_rfl) (by kernel_rfl) (fun _ _ _ h => h) (Or.inl ⟨by rfl, ?_⟩) (by assumption) ?_
            rotate_left
            · intro w hSw
              (try dsimp only at hSw)
              go_simp
              try with_reducible rfl
            (try simp only [Act.put, List.setIfInBounds_toArray, List.set_cons_zero, List.set_cons_succ])
            refine wpAnyH_take (i := 10) (oi := { dst := some 82, op := Go.Op.load 93 (Go.Operand.tmp 81), type := 93, pos := "law.go:144", after := #[{ on := 9, ground := Go.Ground.data }], guard := none }) (v := ?_) rfl (by kernel_rfl) (by kernel_rfl) (by kernel_rfl) (fun _ _ _ h => h) (Or.inl ⟨by rfl, ?_⟩) (by assumption) ?_
            rotate_left
            · intro w hSw
              (try dsimp only at hSw)
              go_simp
              try with_reducible rfl
            (try simp only [Act.put, List.setIfInBounds_toArray, List.set_cons_zero, List.set_cons_succ])
            refine wpAnyH_ready (rs := [5]) (by kernel_rfl) (by simp) ?_
            refine (AllReadyH.cons (o := { dst := some 77, op := Go.Op.call { callee := Go.Callee.value (Go.Operand.func 41), args := #[Go.Operand.tmp 72, Go.Operand.tmp 76], argTypes := #[82, 93] }, type := 3, pos := "law.go:144", after := #[{ on := 0, ground := Go.Ground.data }, { on := 4, ground := Go.Ground.data }], guard := none }) rfl (fun K hK => ?_) AllReadyH.nil)
            go_simp
            refine Calls.mono (HD1.out _ (HT.out.one.call (Below.drew (Below.refl _ _))) HT.out.lt) ?_
            intro e w6 hpost
            obtain ⟨he, hk6, hbt'⟩ := hpost
            subst he
            have hbt : But q3 wr w6 := (But.of (Below.drew (Below.refl _ _)) (by have := HT.out.lt q3 (Two.dq HT.out.l2); omega)).trans hbt'
            have HA6 := Lib.hid hk6
            have HC6 := Lib.hid (HT.out.two.but hbt (by omega) (by omega) (Two.dq HT.out.l2))
            have HL6 : Hid (∀ b, DD p3 q3 p4 q4 b → b < w6.heap.size) := fun b hb => Nat.lt_of_lt_of_le (HT.out.lt b hb) hbt.below.size
            have hz6 : W.heap.size < w6.heap.size := Nat.lt_of_lt_of_le hzx hbt.below.size
            have HB6 := Lib.hid (HB.out.trans (hbt.below.mono (by omega)))
            have HO1b := Lib.hid (HO1.out.but hbt (by omega) (by omega) (Or.inl hq3.1))
            have HO2b := Lib.hid (HO2.out.but hbt (by omega) (by omega) (Or.inl hq3.1))
            clear hk6 hbt hbt'
            refine hK.out _ _ ?_ (fun hHeld => ?_)
            · (try dsimp only)
              exact HOPC.out _ HB6.out
            clear hK K
            (try simp only [Act.put, List.setIfInBounds_toArray, List.set_cons_zero, List.set_cons_succ])
            refine wpAnyH_ready (rs := [11]) (by kernel_rfl) (by simp) ?_
            refine (AllReadyH.cons (o := { dst := some 83, op := Go.Op.call { callee := Go.Callee.value (Go.Operand.func 42), args := #[Go.Operand.tmp 78, Go.Operand.tmp 82], argTypes := #[88, 93] }, type := 3, pos := "law.go:144", after := #[{ on := 6, ground := Go.Ground.data }, { on := 10, ground := Go.Ground.data }, { on := 5, ground := Go.Ground.chain }], guard := none }) rfl (fun K hK => ?_) AllReadyH.nil)
            go_simp
            refine Calls.mono (HW1.out _ HC6.out HL6.out) ?_
            intro e w7 hpost
            obtain ⟨he, hk7, hbt⟩ := hpost
            subst he
            have HT7 : Hid (Two w7 W.heap.size p3 q3 p4 q4 S B n g') := ⟨HA6.out.but hbt (by omega) (by omega) Two.dq2, hk7, HT.out.l1, HT.out.l2, HT.out.l3, HT.out.l4⟩
            have hz7 : W.heap.size < w7.heap.size := Nat.lt_of_lt_of_le hz6 hbt.below.size
            have HB7 := Lib.hid (HB6.out.trans (hbt.below.mono (by omega)))
            have HO1c := Lib.hid (HO1b.out.but hbt (by omega) (by omega) (Or.inl hq3.2))
            have HO2c := Lib.hid (HO2b.out.but hbt (by omega) (by omega) (Or.inl hq3.2))
            clear hk7 hbt
            refine hK.out _ _ ?_ (fun hHeld => ?_)
            · (try dsimp only)
              exact HOPC.out _ HB7.out
            clear hK K
            (try simp only [Act.put, List.setIfInBounds_toArray, List.set_cons_zero, List.set_cons_succ])
            refine wpAnyH_take (i := 12) (oi := { dst := some 84, op := Go.Op.binOp Go.BinOp.neq 3 (Go.Operand.tmp 77) (Go.Operand.tmp 83) 3, type := 4, pos := "law.go:144", after := #[{ on := 5, ground := Go.Ground.data }, { on := 11, ground := Go.Ground.data }], guard := none }) (v := ?_) rfl (by kernel_rfl) (by kernel_rfl) (by kernel_rfl) (fun _ _ _ h => h) (Or.inl ⟨by rfl, ?_⟩) (by assumption) ?_
            rotate_left
            · intro w hSw
              (try dsimp only at hSw)
              go_simp
              try with_reducible rfl
            (try simp only [Act.put, List.setIfInBounds_toArray, List.set_cons_zero, List.set_cons_succ])
            refine wpAnyH_done (by kernel_rfl) ?_ _
            clear hHeld
            go_wp2
            go_roundw
            case rel => exact ⟨k + 1, g', by omega, by go_num, hst', HT7, hz7, HO1c, HO2c, HB7⟩
            case measure => simp [intOf]; omega
          · have hfin := HNN2.out k hk hlt
            clear HDO HWA HOPS2 HNN2
            rcases hfin with hfin | ⟨hfin0, hfin⟩
            · have hf : ¬ (k : Int) < (len2 : Int) := by omega
              have HTn := HT
              have HO1n := HO1
              have HO2n := HO2
              have HBn := HB
              clear HT HO1 HO2 HB
              have HLA1 := HLI.out _ _ _ _ _ (HO1n.out)
              have HLB1 := Lib.hid fun w' D' p' q' (h : BkAt w' D' p' q' S B n gg) => HLR.out w' D' p' q' gg h
              obtain ⟨L1, hL1⟩ : ∃ LL, LL = bookL gg n (S * B) := ⟨_, rfl⟩
              rw [← hL1] at HLA1 HLB1
              have HLA1 := Lib.hid HLA1
              clear hL1
              go_wp2_with fail
              refine (HLA1.out).mono ?_
              rintro e u1a ⟨va1, rfl, hoa, hb⟩
              have OA1 := Lib.hid (Sl.of_own hoa)
              have HTn := Lib.hid (HTn.out.call hb)
              have HO1n := Lib.hid (HO1n.out.call hb)
              have HO2n := Lib.hid (HO2n.out.call hb)
              have HBn := Lib.hid (HBn.out.trans (hb.mono HBn.out.size))
              clear hoa
              have OA1 := Lib.hid OA1.out
              clear hb HLA1
              go_wp2_with fail
              refine (HLB1.out _ _ _ _ HO2n.out).mono ?_
              rintro e u1b ⟨vb1, rfl, hob, hb⟩
              have OB1 := Lib.hid (Sl.of_own hob)
              have OA1 := Lib.hid (OA1.out.below hb)
              have HTn := Lib.hid (HTn.out.call hb)
              have HO1n := Lib.hid (HO1n.out.call hb)
              have HO2n := Lib.hid (HO2n.out.call hb)
              have HBn := Lib.hid (HBn.out.trans (hb.mono HBn.out.size))
              clear hob hb HLB1
              go_wp2_with fail
              refine (law11_Entries rfl OA1.out OB1.out).mono ?_
              rintro e u1c ⟨rfl, mq1, rfl⟩
              have HTn := Lib.hid (HTn.out.call (below_drewN (Below.refl _ _) mq1))
              have HO1n := Lib.hid (HO1n.out.call (below_drewN (Below.refl _ _) mq1))
              have HO2n := Lib.hid (HO2n.out.call (below_drewN (Below.refl _ _) mq1))
              have HBn := Lib.hid (below_drewN HBn.out mq1)
              clear OA1 OB1
              have HLA2 := HLI.out _ _ _ _ _ (HTn.out.one)
              have HLB2 := Lib.hid fun w' D' p' q' (h : BkAt w' D' p' q' S B n g) => HLR.out w' D' p' q' g h
              obtain ⟨L2, hL2⟩ : ∃ LL, LL = bookL g n (S * B) := ⟨_, rfl⟩
              rw [← hL2] at HLA2 HLB2
              have HLA2 := Lib.hid HLA2
              clear hL2
              go_wp2_with fail
              refine (HLA2.out).mono ?_
              rintro e u2a ⟨va2, rfl, hoa, hb⟩
              have OA2 := Lib.hid (Sl.of_own hoa)
              have HTn := Lib.hid (HTn.out.call hb)
              have HO1n := Lib.hid (HO1n.out.call hb)
              have HO2n := Lib.hid (HO2n.out.call hb)
              have HBn := Lib.hid (HBn.out.trans (hb.mono HBn.out.size))
              clear hoa
              have OA2 := Lib.hid OA2.out
              clear hb HLA2
              go_wp2_with fail
              refine (HLB2.out _ _ _ _ HTn.out.two).mono ?_
              rintro e u2b ⟨vb2, rfl, hob, hb⟩
              have OB2 := Lib.hid (Sl.of_own hob)
              have OA2 := Lib.hid (OA2.out.below hb)
              have HTn := Lib.hid (HTn.out.call hb)
              have HO1n := Lib.hid (HO1n.out.call hb)
              have HO2n := Lib.hid (HO2n.out.call hb)
              have HBn := Lib.hid (HBn.out.trans (hb.mono HBn.out.size))
              clear hob hb HLB2
              go_wp2_with fail
              refine (law11_Entries rfl OA2.out OB2.out).mono ?_
              rintro e u2c ⟨rfl, mq2, rfl⟩
              have HTn := Lib.hid (HTn.out.call (below_drewN (Below.refl _ _) mq2))
              have HO1n := Lib.hid (HO1n.out.call (below_drewN (Below.refl _ _) mq2))
              have HO2n := Lib.hid (HO2n.out.call (below_drewN (Below.refl _ _) mq2))
              have HBn := Lib.hid (below_drewN HBn.out mq2)
              clear OA2 OB2
              go_wp2
              go_ret
              exact ⟨by first | rfl | (simp; done), HBn.out⟩
            · have hf0 : (k : Int) < (len2 : Int) := by omega
              have hf : ¬ (k : Int) < 100 := by omega
              have HTn := HT
              have HO1n := HO1
              have HO2n := HO2
              have HBn := HB
              clear HT HO1 HO2 HB
              have HLA1 := HLI.out _ _ _ _ _ (HO1n.out)
              have HLB1 := Lib.hid fun w' D' p' q' (h : BkAt w' D' p' q' S B n gg) => HLR.out w' D' p' q' gg h
              obtain ⟨L1, hL1⟩ : ∃ LL, LL = bookL gg n (S * B) := ⟨_, rfl⟩
              rw [← hL1] at HLA1 HLB1
              have HLA1 := Lib.hid HLA1
              clear hL1
              go_wp2_with fail
              refine (HLA1.out).mono ?_
              rintro e u1a ⟨va1, rfl, hoa, hb⟩
              have OA1 := Lib.hid (Sl.of_own hoa)
              have HTn := Lib.hid (HTn.out.call hb)
              have HO1n := Lib.hid (HO1n.out.call hb)
              have HO2n := Lib.hid (HO2n.out.call hb)
              have HBn := Lib.hid (HBn.out.trans (hb.mono HBn.out.size))
              clear hoa
              have OA1 := Lib.hid OA1.out
              clear hb HLA1
              go_wp2_with fail
              refine (HLB1.out _ _ _ _ HO2n.out).mono ?_
              rintro e u1b ⟨vb1, rfl, hob, hb⟩
              have OB1 := Lib.hid (Sl.of_own hob)
              have OA1 := Lib.hid (OA1.out.below hb)
              have HTn := Lib.hid (HTn.out.call hb)
              have HO1n := Lib.hid (HO1n.out.call hb)
              have HO2n := Lib.hid (HO2n.out.call hb)
              have HBn := Lib.hid (HBn.out.trans (hb.mono HBn.out.size))
              clear hob hb HLB1
              go_wp2_with fail
              refine (law11_Entries rfl OA1.out OB1.out).mono ?_
              rintro e u1c ⟨rfl, mq1, rfl⟩
              have HTn := Lib.hid (HTn.out.call (below_drewN (Below.refl _ _) mq1))
              have HO1n := Lib.hid (HO1n.out.call (below_drewN (Below.refl _ _) mq1))
              have HO2n := Lib.hid (HO2n.out.call (below_drewN (Below.refl _ _) mq1))
              have HBn := Lib.hid (below_drewN HBn.out mq1)
              clear OA1 OB1
              have HLA2 := HLI.out _ _ _ _ _ (HTn.out.one)
              have HLB2 := Lib.hid fun w' D' p' q' (h : BkAt w' D' p' q' S B n g) => HLR.out w' D' p' q' g h
              obtain ⟨L2, hL2⟩ : ∃ LL, LL = bookL g n (S * B) := ⟨_, rfl⟩
              rw [← hL2] at HLA2 HLB2
              have HLA2 := Lib.hid HLA2
              clear hL2
              go_wp2_with fail
              refine (HLA2.out).mono ?_
              rintro e u2a ⟨va2, rfl, hoa, hb⟩
              have OA2 := Lib.hid (Sl.of_own hoa)
              have HTn := Lib.hid (HTn.out.call hb)
              have HO1n := Lib.hid (HO1n.out.call hb)
              have HO2n := Lib.hid (HO2n.out.call hb)
              have HBn := Lib.hid (HBn.out.trans (hb.mono HBn.out.size))
              clear hoa
              have OA2 := Lib.hid OA2.out
              clear hb HLA2
              go_wp2_with fail
              refine (HLB2.out _ _ _ _ HTn.out.two).mono ?_
              rintro e u2b ⟨vb2, rfl, hob, hb⟩
              have OB2 := Lib.hid (Sl.of_own hob)
              have OA2 := Lib.hid (OA2.out.below hb)
              have HTn := Lib.hid (HTn.out.call hb)
              have HO1n := Lib.hid (HO1n.out.call hb)
              have HO2n := Lib.hid (HO2n.out.call hb)
              have HBn := Lib.hid (HBn.out.trans (hb.mono HBn.out.size))
              clear hob hb HLB2
              go_wp2_with fail
              refine (law11_Entries rfl OA2.out OB2.out).mono ?_
              rintro e u2c ⟨rfl, mq2, rfl⟩
              have HTn := Lib.hid (HTn.out.call (below_drewN (Below.refl _ _) mq2))
              have HO1n := Lib.hid (HO1n.out.call (below_drewN (Below.refl _ _) mq2))
              have HO2n := Lib.hid (HO2n.out.call (below_drewN (Below.refl _ _) mq2))
              have HBn := Lib.hid (below_drewN HBn.out mq2)
              clear OA2 OB2
              go_wp2
              go_ret
              exact ⟨by first | rfl | (simp; done), HBn.out⟩

set_option maxRecDepth 100000 in
/-- What the walk gives, for every argument: the row's own words. -/
theorem contract (H : Type) (enc : TypeId × Value → H) (W : World) (base : Nat) (args : Array Value) (ds gs : List (DataW H)) (before : List MemPlace)
    (hval : ∀ (j : Nat) t v, Try.f10.params[j]? = some t → args[j]? = some v → Value.okWide Try.prog W .any base t v)
    (hW : DataW.Whole enc Try.prog Try.f10.params.toList Rows.bookCopiesSpec.vars false W args.toList ds gs before) :
    Calls Try.prog 10 args W fun e W' => ∃ v, e = .returned v ∧ Rows.bookCopiesSpec.post enc Try.prog Try.f10 false true false false W args v W' := by
  have hW' := hW
  obtain ⟨p, q, hA0, hV, rfl, hfz, hnd⟩ := hW
  have hA : DataW.TrodAll enc Try.prog W 0 (fun _ => true) true Try.f10.params.toList args.toList ds p := hA0
  rw [Try.params10] at hA hval
  obtain ⟨v0, vs0, d0, ds0, p0, q0, hargs, rfl, rfl, h0, r0⟩ := trodAll_cons hA
  obtain ⟨v1, vs1, d1, ds1, p1, q1, rfl, rfl, rfl, h1, r1⟩ := trodAll_cons r0
  obtain ⟨v2, vs2, d2, ds2, p2, q2, rfl, rfl, rfl, h2, r2⟩ := trodAll_cons r1
  obtain ⟨rfl, rfl, rfl⟩ := trodAll_nil r2
  obtain rfl : args = #[v0, v1, v2] := by cases args; simp_all
  obtain ⟨a0, e0, c0, rfl⟩ := open_size Try.underlying79 (t0 := 3) (t1 := 3) (t2 := 3) (by kernel_rfl) (by kernel_rfl) (by kernel_rfl) (by kernel_rfl) (by kernel_rfl) (hval 0 79 v0 rfl rfl) h0
  have b1 := open_ops11 Try.underlying80 (t0 := 3) (t1 := 3) (t2 := 23) (t3 := 3) (t4 := 3) (t5 := 26) (t6 := 26) (by kernel_rfl) (by kernel_rfl) (by kernel_rfl) (by kernel_rfl) (by kernel_rfl) (by kernel_rfl) (by kernel_rfl) (by kernel_rfl) (by kernel_rfl) (hval 1 80 v1 rfl rfl) h1
  have b2 := open_ops11 Try.underlying80 (t0 := 3) (t1 := 3) (t2 := 23) (t3 := 3) (t4 := 3) (t5 := 26) (t6 := 26) (by kernel_rfl) (by kernel_rfl) (by kernel_rfl) (by kernel_rfl) (by kernel_rfl) (by kernel_rfl) (by kernel_rfl) (by kernel_rfl) (by kernel_rfl) (hval 2 80 v2 rfl rfl) h2
  refine (walk W a0 e0 c0 v1 b1 v2 b2).mono fun e W' ⟨he, hb⟩ => ?_
  subst he
  exact close_true (by kernel_rfl) Try.underlying4 (by kernel_rfl) (by kernel_rfl) rfl rfl hW' hb

set_option maxRecDepth 100000 in
theorem lifted (os : Os) (started : os.Started) (H : Type) (enc : TypeId × Value → H) :
    ReturnsInHanded {} Try.checked os 10 .any (Rows.bookCopiesSpec.pre6 enc Try.prog Try.f10 Rows.bookCopiesRow.domain false) (Rows.bookCopiesSpec.post enc Try.prog Try.f10 false true false false) := by
  refine returnsInHanded_of_change (C := Try.checked) own started (by kernel_rfl) Try.func10
    (ChangeSpec.witness6 (enc := enc) (C := Try.checked) false ⟨#[], #[.agg #[.int .i64 0, .int .i64 0, .int .i64 0], .slice none 0 0, .slice none 0 0], []⟩ 8 (by kernel_rfl) (by kernel_rfl) (by kernel_rfl) (by kernel_rfl)) ?_
  intro W base args ds gs before hval hW _ _
  exact contract H enc W base args ds gs before hval hW

theorem proved : Rows.BookCopiesSaid :=
  OpenClaim.holds_of_wide 10 Try.f10 rfl rfl rfl rfl rfl rfl rfl ⟨rfl, rfl, rfl, rfl, rfl⟩ rfl rfl rfl rfl rfl (by kernel_rfl) Try.func10 (by kernel_rfl)
    (of_decide_eq_true (by kernel_rfl)) (by unfold Func.isWrapper; first | (rw [if_pos (by decide +kernel)]; kernel_rfl) | (rw [if_neg (by decide +kernel)]; exact ⟨rfl, rfl⟩))
    (fun os started H enc _ => lifted os started H enc)
#print axioms proved
end Go.Proofs.Ytccnfcjaehcfkaa.bookCopies
