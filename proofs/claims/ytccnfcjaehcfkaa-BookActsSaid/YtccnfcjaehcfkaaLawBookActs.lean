/-
  Whatever is done, one thing behind the other, is answered as the document says, and so all entries are left, in their buckets. No condition.
-/
import Derived.Test.YtccnfcjaehcfkaaRows
import Derived.Test.YtccnfcjaehcfkaaBkZ
import Derived.Test.YtccnfcjaehcfkaaBuN
import Derived.Test.YtccnfcjaehcfkaaOpenBk
import Derived.Deep.RegionHeld3
import Derived.WalkKit
import Derived.ProofKit
import Derived.OpenShut
namespace Go.Proofs.Ytccnfcjaehcfkaa.bookActs
open Go.ChangeShapes Go.WideShapes Go.ChangeAt Go.RowKit
open Go.ChangeMaps (open_string)
set_option linter.unusedVariables false

theorem own : ownKnob Try.prog.godebug = none := by kernel_rfl
theorem fix_size (x : Int) (k : Nat) (hk : 1 ≤ k) (hk2 : k ≤ 16) : ∃ S : Nat, 1 ≤ S ∧ S ≤ k ∧ wrap64 (1 + wrap64 ((IntKind.u64.wrap x).tmod (k : Int))) = (S : Int) := by
  have h1 : 0 ≤ IntKind.u64.wrap x := by rw [IntKind.wrap_u64]; omega
  rw [Int.tmod_eq_emod_of_nonneg h1]
  have a1 := Int.emod_nonneg (IntKind.u64.wrap x) (show (k : Int) ≠ 0 by omega)
  have a2 := Int.emod_lt_of_pos (IntKind.u64.wrap x) (show 0 < (k : Int) by omega)
  generalize IntKind.u64.wrap x % (k : Int) = y at *
  refine ⟨(1 + y).toNat, by omega, by omega, ?_⟩
  rw [IntWalk.wrap64_in y (by omega), IntWalk.wrap64_in _ (by omega)]
  omega
theorem port64 (x : Int) : ∃ P : Nat, P < 64 ∧ wrap64 ((IntKind.u64.wrap x).tmod 64) = (P : Int) ∧ IntKind.i64.wrap ((IntKind.u64.wrap x).tmod 64) = (P : Int) := by
  have h1 : 0 ≤ IntKind.u64.wrap x := by rw [IntKind.wrap_u64]; omega
  rw [Int.tmod_eq_emod_of_nonneg h1]
  refine ⟨(IntKind.u64.wrap x % 64).toNat, by omega, ?_, ?_⟩
  · rw [IntWalk.wrap64_in _ (by omega)]; omega
  · rw [IntWalk.i64_in _ (by omega)]; omega
set_option maxHeartbeats 1600000 in
theorem ref11_Fix (a b c : Int) (S B n : Nat) (h1 : wrap64 (1 + wrap64 ((IntKind.u64.wrap a).tmod ((8 : Nat) : Int))) = (S : Int)) (h2 : wrap64 (1 + wrap64 ((IntKind.u64.wrap b).tmod ((16 : Nat) : Int))) = (B : Int)) (h3 : wrap64 (1 + wrap64 ((IntKind.u64.wrap c).tmod ((8 : Nat) : Int))) = (n : Int)) (w : World) :
    Calls Try.prog 35 #[.agg #[.int .i64 a, .int .i64 b, .int .i64 c]] w (Says (.agg #[.int .i64 (S : Nat), .int .i64 (B : Nat), .int .i64 (n : Nat)]) w) := by
  rw [show ((8 : Nat) : Int) = 8 from rfl] at h1 h3
  rw [show ((16 : Nat) : Int) = 16 from rfl] at h2
  go_enter Try.func35, Try.ntmps35
  go_wp2
  exact bodyPost_ret (v := .agg #[.int .i64 (S : Nat), .int .i64 (B : Nat), .int .i64 (n : Nat)]) (by simp [results, Try.results35, go_sem]) rfl ⟨rfl, (by (repeat' (first | (with_reducible exact Below.refl _ _) | (with_reducible refine Below.setCell ?_ ?_ _) | (with_reducible refine Below.alloc ?_ ?_ _) | go_size)))⟩
theorem ne_word {j H : Nat} (h : ¬ j = H) : ((j : Int) != (H : Int)) = true := by simp; omega
theorem pos_word {B : Nat} (h : 1 ≤ B) : (¬ B = 0) ∧ (¬ (B : Int) = 0) ∧ ((B : Int) == 0) = false := ⟨by omega, by omega, by simp; omega⟩
theorem wrap_ok {x : Int} {y : Nat} (h : x = (y : Int)) (hy : y < 1000000) : wrap64 x = (y : Int) ∧ IntKind.i64.wrap x = (y : Int) := by
  rw [h]
  exact ⟨IntWalk.wrap64_in _ (by omega), IntWalk.i64_in _ (by omega)⟩
theorem home_parts {xa xb B H : Nat} (h : (xa : Int) * (B : Int) + (xb : Int) = (H : Int)) : (xa : Int) * (B : Int) = ((H - xb : Nat) : Int) ∧ ((H - xb : Nat) : Int) + (xb : Int) = (H : Int) := by
  have e : ((xa * B : Nat) : Int) = (xa : Int) * (B : Int) := by simp
  rw [← e] at h ⊢
  generalize xa * B = y at *
  omega

set_option maxRecDepth 20000 in
set_option maxHeartbeats 25600000 in
theorem walk (W : World) (a0 e0 c0 : Int) (a1 : Value) (b1 : Ops11 W a1) :
    Calls Try.prog 9 #[.agg #[.int .i64 a0, .int .i64 e0, .int .i64 c0], a1] W (Says (.bool true) W) := by
  obtain ⟨S, hS1, hS2, hSw⟩ := fix_size a0 8 (by omega) (by omega)
  obtain ⟨B, hB1, hB2, hBw⟩ := fix_size e0 16 (by omega) (by omega)
  obtain ⟨n, hN1, hN2, hnw⟩ := fix_size c0 8 (by omega) (by omega)
  obtain ⟨A, len, cap, rfl, h1, h2, h3⟩ := b1
  have HOPS := Lib.hid h3
  unfold maxLen at h2
  have HFIX := Lib.hid fun w => ref11_Fix a0 e0 c0 S B n hSw hBw hnw w
  clear hSw hBw hnw
  have HTO := Lib.hid fun w => law11_To (S : Int) (B : Int) (n : Int) w
  have HNEW := Lib.hid fun w => book_New S B n ⟨hS1, hS2⟩ ⟨hB1, hB2⟩ ⟨hN1, hN2⟩ w
  have HNEWR := Lib.hid fun w => ref11_New S B n ⟨hS1, hS2⟩ ⟨hB1, hB2⟩ ⟨hN1, hN2⟩ w
  have HTOLD := Lib.hid told11
  obtain ⟨K, hK⟩ : ∃ K, K = min len 200 := ⟨_, rfl⟩
  have hK1 : K ≤ len := by omega
  have hK2 : K ≤ 200 := by omega
  have HNN : Hid (∀ k, k ≤ K → ¬ k < K → (len ≤ k ∨ (k < len ∧ 200 ≤ k))) := fun k a b => by omega
  clear hK h3
  have HBU := Lib.hid fun w D p q (g : Nat → Nat → Pl) (h : BkAt w D p q S B n g) i (hi : i < S * B) => book_Bucket h ⟨hS1, hS2⟩ ⟨hB1, hB2⟩ hN1 hN2 _ _ i hi (at_div hB1 hi).2.2
  have HBN := Lib.hid fun w D p q (g : Nat → Nat → Pl) (h : BkAt w D p q S B n g) (s t : Int) (ha : atI S B s t = -1) => book_BucketNo h ⟨hS1, hS2⟩ ⟨hB1, hB2⟩ s t ha
  have HFR := Lib.hid fun w u f (hr : PlRow w w.heap.size u n f) => law10_From (show n ≤ 1000000 by omega) hr (Nat.le_refl _)
  obtain ⟨M, hM⟩ : ∃ M, M = S * B := ⟨_, rfl⟩
  have hMB : M ≤ 128 := by rw [hM]; exact Nat.mul_le_mul hS2 hB2
  have HLI := Lib.hid fun w D p q (g : Nat → Nat → Pl) (h : BkAt w D p q S B n g) => law11_list h (by rw [← hM]; exact hMB) hN2
  have HLR := Lib.hid fun w D p q (g : Nat → Nat → Pl) (h : BkAt w D p q S B n g) => ref11_List h (by rw [← hM]; exact hMB) hN2
  have HM := Lib.hid hM
  clear hM
  have HDO : Hid (∀ w D p q (g : Nat → Nat → Pl) (kd kv : Int) (m : Nat) (port vid : Int) (now old : Nat), BkAt w D p q S B n g → (∀ b, D b → b < w.heap.size) → D q → stG g → m < 18446744073709551616 → now < 4294967296 → ∀ K1 : Nat, K1 < 7 → wrap64 ((IntKind.u64.wrap kd).tmod 7) = (K1 : Int) → IntKind.i64.wrap ((IntKind.u64.wrap kd).tmod 7) = (K1 : Int) →
      Calls Try.prog 41 #[.pointer (some ⟨p, 0, none⟩), .agg #[.int .i64 kd, .int .i64 kv, .int .u64 (m : Int), .int .i64 port, .int .i64 vid, .int .u32 (now : Int), .int .u32 (old : Int)]] w fun e w' => e = .returned (.int .i64 (doG K1 kv m port vid now old S B n g).2) ∧ BkAt w' D p q S B n (doG K1 kv m port vid now old S B n g).1 ∧ But q w w') := fun w D p q g kd kv m port vid now old hk hD hq hst hm hnow K1 h1 h2 h3 => book_Do hk hD hq ⟨hS1, hS2⟩ ⟨hB1, hB2⟩ hN2 hst kd kv m hm port vid now old hnow K1 h1 h2 h3
  have HWA : Hid (∀ w D p q (g : Nat → Nat → Pl) (kd kv : Int) (m : Nat) (port vid : Int) (now old : Nat), BkAt w D p q S B n g → (∀ b, D b → b < w.heap.size) → D q → stG g → m < 18446744073709551616 → now < 4294967296 → ∀ K1 : Nat, K1 < 7 → wrap64 ((IntKind.u64.wrap kd).tmod 7) = (K1 : Int) → IntKind.i64.wrap ((IntKind.u64.wrap kd).tmod 7) = (K1 : Int) →
      Calls Try.prog 42 #[.pointer (some ⟨p, 0, none⟩), .agg #[.int .i64 kd, .int .i64 kv, .int .u64 (m : Int), .int .i64 port, .int .i64 vid, .int .u32 (now : Int), .int .u32 (old : Int)]] w fun e w' => e = .returned (.int .i64 (doG K1 kv m port vid now old S B n g).2) ∧ BkAt w' D p q S B n (doG K1 kv m port vid now old S B n g).1 ∧ But q w w') := fun w D p q g kd kv m port vid now old hk hD hq hst hm hnow K1 h1 h2 h3 => ref11_Want hk hD hq ⟨hS1, hS2⟩ ⟨hB1, hB2⟩ hN2 hst kd kv m hm port vid now old hnow K1 h1 h2 h3
  go_enter Try.func9, Try.ntmps9
  go_wp2_with fail
  refine (HFIX.out _).mono ?_
  rintro e w1 ⟨rfl, hb⟩
  have s0 : w1.cell? ⟨W.heap.size, 0, none⟩ = some (.int .i64 a0) := by rw [(bcell hb).1 _ _ (by simp)]; simp [go_sem]
  have s1 : w1.cell? ⟨W.heap.size, 1, none⟩ = some (.int .i64 e0) := by rw [(bcell hb).1 _ _ (by simp)]; simp [go_sem]
  have s2 : w1.cell? ⟨W.heap.size, 2, none⟩ = some (.int .i64 c0) := by rw [(bcell hb).1 _ _ (by simp)]; simp [go_sem]
  have f0 : ∀ o, w1.frozen? ⟨W.heap.size, o, none⟩ = false := fun o => by rw [(bcell hb).2 _ _ (by simp)]; simp [go_sem]
  have HB1 : Hid (Below W.heap.size W w1) := Below.trans ((Below.refl _ _).alloc (Nat.le_refl _) _) (hb.mono (by simp))
  have hz1 : W.heap.size < w1.heap.size := by have := hb.size; simp at this; omega
  obtain ⟨w2, hw2⟩ : ∃ w', w' = ((w1.setCell ⟨W.heap.size, 0, none⟩ (.int .i64 (S : Nat))).setCell ⟨W.heap.size, 1, none⟩ (.int .i64 (B : Nat))).setCell ⟨W.heap.size, 2, none⟩ (.int .i64 (n : Nat)) := ⟨_, rfl⟩
  have t0 : w2.cell? ⟨W.heap.size, 0, none⟩ = some (.int .i64 (S : Nat)) := by rw [hw2]; simp [go_sem, s0]
  have t1 : w2.cell? ⟨W.heap.size, 1, none⟩ = some (.int .i64 (B : Nat)) := by rw [hw2]; simp [go_sem, s1]
  have t2 : w2.cell? ⟨W.heap.size, 2, none⟩ = some (.int .i64 (n : Nat)) := by rw [hw2]; simp [go_sem, s2]
  have HB : Hid (Below W.heap.size W w2) := by rw [hw2]; exact ((HB1.out.setCell (Nat.le_refl _) _).setCell (Nat.le_refl _) _).setCell (Nat.le_refl _) _
  have hz : W.heap.size < w2.heap.size := by rw [hw2]; simpa using hz1
  clear hb HFIX
  go_wp2_with fail
  rw [← hw2]
  clear hw2 s0 s1 s2 f0 HB1 hz1
  have s0 := t0
  have s1 := t1
  have s2 := t2
  clear t0 t1 t2
  refine (HTO.out _).mono ?_
  rintro e w3 ⟨rfl, hb⟩
  have s0 := (hb.cell (p := ⟨W.heap.size, 0, none⟩) (by show W.heap.size < _; omega)).trans s0
  have s1 := (hb.cell (p := ⟨W.heap.size, 1, none⟩) (by show W.heap.size < _; omega)).trans s1
  have s2 := (hb.cell (p := ⟨W.heap.size, 2, none⟩) (by show W.heap.size < _; omega)).trans s2
  have HB := Lib.hid (HB.out.trans (hb.mono HB.out.size))
  have hz := Nat.lt_of_lt_of_le hz hb.size
  clear hb
  go_wp2_with fail
  refine (HNEW.out _).mono ?_
  rintro e w4 ⟨p, q, rfl, hbk, hpw, hqw, hqp, hb⟩
  have s0 := (hb.cell (p := ⟨W.heap.size, 0, none⟩) (by show W.heap.size < _; omega)).trans s0
  have s1 := (hb.cell (p := ⟨W.heap.size, 1, none⟩) (by show W.heap.size < _; omega)).trans s1
  have s2 := (hb.cell (p := ⟨W.heap.size, 2, none⟩) (by show W.heap.size < _; omega)).trans s2
  have HB := Lib.hid (HB.out.trans (hb.mono HB.out.size))
  have hz := Nat.lt_of_lt_of_le hz hb.size
  have hp4 : p < w4.heap.size := hbk.1
  have HK0 := Lib.hid hbk
  have hWq : W.heap.size < q := by omega
  clear hbk hb hqw hpw
  go_wp2_with fail
  refine (HNEWR.out _).mono ?_
  rintro e w5 ⟨p2, q2, rfl, hbk, hpw, hqw, hb⟩
  have s0 := (hb.cell (p := ⟨W.heap.size, 0, none⟩) (by show W.heap.size < _; omega)).trans s0
  have s1 := (hb.cell (p := ⟨W.heap.size, 1, none⟩) (by show W.heap.size < _; omega)).trans s1
  have s2 := (hb.cell (p := ⟨W.heap.size, 2, none⟩) (by show W.heap.size < _; omega)).trans s2
  have HB := Lib.hid (HB.out.trans (hb.mono HB.out.size))
  have hz := Nat.lt_of_lt_of_le hz hb.size
  have HT : Hid (Two w5 W.heap.size p q p2 q2 S B n (fun _ _ => pl0)) :=
    ⟨(HK0.out.dom (D' := DD p q p2 q2) fun b h1 h2 => by
        rcases h2 with e | e | e
        · exact e
        · omega
        · omega).call hb, hbk.dom fun b h1 h2 => by
        rcases h2 with e | e | e
        · left; omega
        · exact .inr (.inl e)
        · exact .inr (.inr e), hWq, hqp, by omega, by omega⟩
  have hpp2 : p < p2 := by omega
  have hpq2 : p < q2 := by omega
  clear hbk hb HK0 hpw hqw hp4
  go_wp2_with fail
  refine wp_region_held_drew (S := fun w' => w'.cell? ⟨W.heap.size, 0, none⟩ = some (.int .i64 (S : Nat)) ∧ w'.cell? ⟨W.heap.size, 1, none⟩ = some (.int .i64 (B : Nat)) ∧ w'.cell? ⟨W.heap.size, 2, none⟩ = some (.int .i64 (n : Nat))) (by kernel_rfl) ?_ (fun hHeld => ?_)
  · exact ⟨s0, s1, s2⟩
  refine wpAnyH_ready (rs := [0]) (by kernel_rfl) (by simp) ?_
  refine AllReadyH.cons (o := { dst := some 20, op := Go.Op.call { callee := Go.Callee.value (Go.Operand.func 39), args := #[], argTypes := #[] }, type := 4, pos := "law.go:111", after := #[], guard := none }) rfl (fun K hK => ?_) AllReadyH.nil
  go_simp
  refine Calls.mono (HTOLD.out _) ?_
  rintro e w6 ⟨rfl, hb'⟩
  have hb : Below w5.heap.size w5 w6 := ((Below.refl w5.heap.size w5).drew).trans hb'
  have s0 := (hb.cell (p := ⟨W.heap.size, 0, none⟩) (by show W.heap.size < _; omega)).trans s0
  have s1 := (hb.cell (p := ⟨W.heap.size, 1, none⟩) (by show W.heap.size < _; omega)).trans s1
  have s2 := (hb.cell (p := ⟨W.heap.size, 2, none⟩) (by show W.heap.size < _; omega)).trans s2
  have HB := Lib.hid (HB.out.trans (hb.mono HB.out.size))
  have hz := Nat.lt_of_lt_of_le hz hb.size
  have HT := Lib.hid (HT.out.call hb)
  clear hb hb'
  refine hK.out _ _ ?_ (fun hHeld => ?_)
  · (try dsimp only)
    exact ⟨s0, s1, s2⟩
  clear hK K
  (try simp only [Act.put, List.setIfInBounds_toArray, List.set_cons_zero, List.set_cons_succ])
  refine wpAnyH_take (i := 1) (oi := { dst := some 21, op := Go.Op.unOp Go.UnOp.not 4 (Go.Operand.tmp 20), type := 4, pos := "law.go:111", after := #[{ on := 0, ground := Go.Ground.data }], guard := none }) (v := ?_) rfl (by kernel_rfl) (by kernel_rfl) (by kernel_rfl) (fun _ _ _ h => h) (Or.inl ⟨by rfl, ?_⟩) (by assumption) ?_
  rotate_left
  · intro w hSw
    (try dsimp only at hSw)
    go_simp
    try with_reducible rfl
  (try simp only [Act.put, List.setIfInBounds_toArray, List.set_cons_zero, List.set_cons_succ])
  refine wpAnyH_take (i := 2) (oi := { dst := some 22, op := Go.Op.move (Go.Operand.tmp 21), type := 4, pos := "law.go:111", after := #[{ on := 1, ground := Go.Ground.data }, { on := 0, ground := Go.Ground.chain }], guard := none }) (v := ?_) rfl (by kernel_rfl) (by kernel_rfl) (by kernel_rfl) (fun _ _ _ h => h) (Or.inl ⟨by rfl, ?_⟩) (by assumption) ?_
  rotate_left
  · intro w hSw
    (try dsimp only at hSw)
    go_simp
    try with_reducible rfl
  (try simp only [Act.put, List.setIfInBounds_toArray, List.set_cons_zero, List.set_cons_succ])
  refine wpAnyH_take (i := 3) (oi := { dst := some 23, op := Go.Op.move (Go.Operand.tmp 5), type := 82, pos := "law.go:111", after := #[{ on := 2, ground := Go.Ground.guard }], guard := some (2, false) }) (v := ?_) rfl (by kernel_rfl) (by kernel_rfl) (by kernel_rfl) (fun _ _ _ h => h) (Or.inl ⟨by rfl, ?_⟩) (by assumption) ?_
  rotate_left
  · intro w hSw
    (try dsimp only at hSw)
    go_simp
    try with_reducible rfl
  (try simp only [Act.put, List.setIfInBounds_toArray, List.set_cons_zero, List.set_cons_succ])
  refine wpAnyH_take (i := 4) (oi := { dst := some 24, op := Go.Op.binOp Go.BinOp.eql 82 (Go.Operand.tmp 23) (Go.Operand.const (Go.Value.pointer none)) 82, type := 4, pos := "law.go:111", after := #[{ on := 3, ground := Go.Ground.data }, { on := 2, ground := Go.Ground.guard }], guard := some (2, false) }) (v := ?_) rfl (by kernel_rfl) (by kernel_rfl) (by kernel_rfl) (fun _ _ _ h => h) (Or.inl ⟨by rfl, ?_⟩) (by assumption) ?_
  rotate_left
  · intro w hSw
    (try dsimp only at hSw)
    go_simp
    try with_reducible rfl
  (try simp only [Act.put, List.setIfInBounds_toArray, List.set_cons_zero, List.set_cons_succ])
  refine wpAnyH_take (i := 5) (oi := { dst := some 25, op := Go.Op.pick (Go.Operand.tmp 22) (Go.Operand.const (Go.Value.bool true)) (Go.Operand.tmp 24), type := 4, pos := "law.go:111", after := #[{ on := 2, ground := Go.Ground.data }, { on := 4, ground := Go.Ground.data }], guard := none }) (v := ?_) rfl (by kernel_rfl) (by kernel_rfl) (by kernel_rfl) (fun _ _ _ h => h) (Or.inl ⟨by rfl, ?_⟩) (by assumption) ?_
  rotate_left
  · intro w hSw
    (try dsimp only at hSw)
    go_simp
    try with_reducible rfl
  (try simp only [Act.put, List.setIfInBounds_toArray, List.set_cons_zero, List.set_cons_succ])
  refine wpAnyH_take (i := 6) (oi := { dst := some 26, op := Go.Op.move (Go.Operand.tmp 25), type := 4, pos := "law.go:111", after := #[{ on := 5, ground := Go.Ground.data }, { on := 2, ground := Go.Ground.chain }], guard := none }) (v := ?_) rfl (by kernel_rfl) (by kernel_rfl) (by kernel_rfl) (fun _ _ _ h => h) (Or.inl ⟨by rfl, ?_⟩) (by assumption) ?_
  rotate_left
  · intro w hSw
    (try dsimp only at hSw)
    go_simp
    try with_reducible rfl
  (try simp only [Act.put, List.setIfInBounds_toArray, List.set_cons_zero, List.set_cons_succ])
  refine wpAnyH_take (i := 7) (oi := { dst := some 27, op := Go.Op.move (Go.Operand.tmp 6), type := 83, pos := "law.go:111", after := #[{ on := 6, ground := Go.Ground.guard }], guard := some (6, false) }) (v := ?_) rfl (by kernel_rfl) (by kernel_rfl) (by kernel_rfl) (fun _ _ _ h => h) (Or.inl ⟨by rfl, ?_⟩) (by assumption) ?_
  rotate_left
  · intro w hSw
    (try dsimp only at hSw)
    go_simp
    try with_reducible rfl
  (try simp only [Act.put, List.setIfInBounds_toArray, List.set_cons_zero, List.set_cons_succ])
  refine wpAnyH_take (i := 8) (oi := { dst := some 28, op := Go.Op.binOp Go.BinOp.neq 83 (Go.Operand.tmp 27) (Go.Operand.const (Go.Value.int Go.IntKind.i64 0)) 83, type := 4, pos := "law.go:111", after := #[{ on := 7, ground := Go.Ground.data }, { on := 6, ground := Go.Ground.guard }], guard := some (6, false) }) (v := ?_) rfl (by kernel_rfl) (by kernel_rfl) (by kernel_rfl) (fun _ _ _ h => h) (Or.inl ⟨by rfl, ?_⟩) (by assumption) ?_
  rotate_left
  · intro w hSw
    (try dsimp only at hSw)
    go_simp
    try with_reducible rfl
  (try simp only [Act.put, List.setIfInBounds_toArray, List.set_cons_zero, List.set_cons_succ])
  refine wpAnyH_take (i := 9) (oi := { dst := some 29, op := Go.Op.pick (Go.Operand.tmp 26) (Go.Operand.const (Go.Value.bool true)) (Go.Operand.tmp 28), type := 4, pos := "law.go:111", after := #[{ on := 6, ground := Go.Ground.data }, { on := 8, ground := Go.Ground.data }], guard := none }) (v := ?_) rfl (by kernel_rfl) (by kernel_rfl) (by kernel_rfl) (fun _ _ _ h => h) (Or.inl ⟨by rfl, ?_⟩) (by assumption) ?_
  rotate_left
  · intro w hSw
    (try dsimp only at hSw)
    go_simp
    try with_reducible rfl
  (try simp only [Act.put, List.setIfInBounds_toArray, List.set_cons_zero, List.set_cons_succ])
  refine wpAnyH_take (i := 10) (oi := { dst := some 30, op := Go.Op.move (Go.Operand.tmp 29), type := 4, pos := "law.go:111", after := #[{ on := 9, ground := Go.Ground.data }, { on := 6, ground := Go.Ground.chain }], guard := none }) (v := ?_) rfl (by kernel_rfl) (by kernel_rfl) (by kernel_rfl) (fun _ _ _ h => h) (Or.inl ⟨by rfl, ?_⟩) (by assumption) ?_
  rotate_left
  · intro w hSw
    (try dsimp only at hSw)
    go_simp
    try with_reducible rfl
  (try simp only [Act.put, List.setIfInBounds_toArray, List.set_cons_zero, List.set_cons_succ])
  refine wpAnyH_take (i := 11) (oi := { dst := some 31, op := Go.Op.move (Go.Operand.tmp 5), type := 82, pos := "law.go:111", after := #[{ on := 10, ground := Go.Ground.guard }], guard := some (10, false) }) (v := ?_) rfl (by kernel_rfl) (by kernel_rfl) (by kernel_rfl) (fun _ _ _ h => h) (Or.inl ⟨by rfl, ?_⟩) (by assumption) ?_
  rotate_left
  · intro w hSw
    (try dsimp only at hSw)
    go_simp
    try with_reducible rfl
  (try simp only [Act.put, List.setIfInBounds_toArray, List.set_cons_zero, List.set_cons_succ])
  refine wpAnyH_take (i := 13) (oi := { dst := some 33, op := Go.Op.load 79 (Go.Operand.tmp 2), type := 79, pos := "law.go:111", after := #[{ on := 10, ground := Go.Ground.guard }], guard := some (10, false) }) (v := ?_) rfl (by kernel_rfl) (by kernel_rfl) (by kernel_rfl) (fun _ _ _ h => h) (Or.inl ⟨by rfl, ?_⟩) (by assumption) ?_
  rotate_left
  · intro w hSw
    (try dsimp only at hSw)
    go_simp
    try with_reducible rfl
  (try simp only [Act.put, List.setIfInBounds_toArray, List.set_cons_zero, List.set_cons_succ])
  refine wpAnyH_ready (rs := [12]) (by kernel_rfl) (by simp) ?_
  refine AllReadyH.cons (o := { dst := some 32, op := Go.Op.call { callee := Go.Callee.value (Go.Operand.func 40), args := #[Go.Operand.tmp 31], argTypes := #[82] }, type := 86, pos := "law.go:111", after := #[{ on := 11, ground := Go.Ground.data }, { on := 10, ground := Go.Ground.chain }, { on := 10, ground := Go.Ground.guard }], guard := some (10, false) }) rfl (fun K hK => ?_) AllReadyH.nil
  go_simp
  refine Calls.mono (book_Size HT.out.one) ?_
  rintro e w7 ⟨rfl, hb⟩
  have s0 := (hb.cell (p := ⟨W.heap.size, 0, none⟩) (by show W.heap.size < _; omega)).trans s0
  have s1 := (hb.cell (p := ⟨W.heap.size, 1, none⟩) (by show W.heap.size < _; omega)).trans s1
  have s2 := (hb.cell (p := ⟨W.heap.size, 2, none⟩) (by show W.heap.size < _; omega)).trans s2
  have HB := Lib.hid (HB.out.trans (hb.mono HB.out.size))
  have hz := Nat.lt_of_lt_of_le hz hb.size
  have HT := Lib.hid (HT.out.call hb)
  clear hb
  refine hK.out _ _ ?_ (fun hHeld => ?_)
  · (try dsimp only)
    exact ⟨s0, s1, s2⟩
  clear hK K
  (try simp only [Act.put, List.setIfInBounds_toArray, List.set_cons_zero, List.set_cons_succ])
  refine wpAnyH_ready (rs := [14]) (by kernel_rfl) (by simp) ?_
  refine AllReadyH.cons (o := { dst := some 34, op := Go.Op.call { callee := Go.Callee.value (Go.Operand.func 37), args := #[Go.Operand.tmp 33], argTypes := #[79] }, type := 86, pos := "law.go:111", after := #[{ on := 13, ground := Go.Ground.data }, { on := 12, ground := Go.Ground.chain }, { on := 10, ground := Go.Ground.guard }], guard := some (10, false) }) rfl (fun K hK => ?_) AllReadyH.nil
  go_simp
  refine Calls.mono (HTO.out _) ?_
  rintro e w8 ⟨rfl, hb⟩
  have s0 := (hb.cell (p := ⟨W.heap.size, 0, none⟩) (by show W.heap.size < _; omega)).trans s0
  have s1 := (hb.cell (p := ⟨W.heap.size, 1, none⟩) (by show W.heap.size < _; omega)).trans s1
  have s2 := (hb.cell (p := ⟨W.heap.size, 2, none⟩) (by show W.heap.size < _; omega)).trans s2
  have HB := Lib.hid (HB.out.trans (hb.mono HB.out.size))
  have hz := Nat.lt_of_lt_of_le hz hb.size
  have HT := Lib.hid (HT.out.call hb)
  clear hb
  refine hK.out _ _ ?_ (fun hHeld => ?_)
  · (try dsimp only)
    exact ⟨s0, s1, s2⟩
  clear hK K
  (try simp only [Act.put, List.setIfInBounds_toArray, List.set_cons_zero, List.set_cons_succ])
  refine wpAnyH_take (i := 15) (oi := { dst := some 35, op := Go.Op.binOp Go.BinOp.neq 86 (Go.Operand.tmp 32) (Go.Operand.tmp 34) 86, type := 4, pos := "law.go:111", after := #[{ on := 12, ground := Go.Ground.data }, { on := 14, ground := Go.Ground.data }, { on := 10, ground := Go.Ground.guard }], guard := some (10, false) }) (v := ?_) rfl (by kernel_rfl) (by kernel_rfl) (by kernel_rfl) (fun _ _ _ h => h) (Or.inl ⟨by rfl, ?_⟩) (by assumption) ?_
  rotate_left
  · intro w hSw
    (try dsimp only at hSw)
    go_simp
    try with_reducible rfl
  (try simp only [Act.put, List.setIfInBounds_toArray, List.set_cons_zero, List.set_cons_succ])
  refine wpAnyH_take (i := 16) (oi := { dst := some 36, op := Go.Op.pick (Go.Operand.tmp 30) (Go.Operand.const (Go.Value.bool true)) (Go.Operand.tmp 35), type := 4, pos := "law.go:111", after := #[{ on := 10, ground := Go.Ground.data }, { on := 15, ground := Go.Ground.data }], guard := none }) (v := ?_) rfl (by kernel_rfl) (by kernel_rfl) (by kernel_rfl) (fun _ _ _ h => h) (Or.inl ⟨by rfl, ?_⟩) (by assumption) ?_
  rotate_left
  · intro w hSw
    (try dsimp only at hSw)
    go_simp
    try with_reducible rfl
  (try simp only [Act.put, List.setIfInBounds_toArray, List.set_cons_zero, List.set_cons_succ])
  refine wpAnyH_done (by kernel_rfl) ?_ _
  have HX : Hid (w8.cell? ⟨W.heap.size, 0, none⟩ = some (.int .i64 (S : Nat)) ∧ w8.cell? ⟨W.heap.size, 1, none⟩ = some (.int .i64 (B : Nat)) ∧ w8.cell? ⟨W.heap.size, 2, none⟩ = some (.int .i64 (n : Nat))) := ⟨s0, s1, s2⟩
  clear hHeld s0 s1 s2
  go_wp2
  go_loopw [8] (fun i wr => ∃ (k : Nat) (g : Nat → Nat → Pl), k ≤ K ∧ i = .int .i64 k ∧ stG g ∧ Hid (Two wr W.heap.size p q p2 q2 S B n g) ∧ W.heap.size < wr.heap.size ∧ Hid (wr.cell? ⟨W.heap.size, 0, none⟩ = some (.int .i64 (S : Nat)) ∧ wr.cell? ⟨W.heap.size, 1, none⟩ = some (.int .i64 (B : Nat)) ∧ wr.cell? ⟨W.heap.size, 2, none⟩ = some (.int .i64 (n : Nat))) ∧ Hid (Below W.heap.size W wr)) (fun i _ => K - (intOf i).toNat)
  case atStart => exact ⟨0, _, by omega, rfl, fun _ _ => (by show (0 : Nat) < 4294967296; omega), HT, by omega, HX, HB⟩
  case round =>
    obtain ⟨k, g, hk, rfl, hst, HT', hzx, HX', HB'⟩ := hrel
    have HT := HT'
    have HB := HB'
    have HX := HX'
    clear HT' HB' HX'
    obtain ⟨s0, s1, s2⟩ := HX.out
    by_cases hlt : k < K
    · obtain ⟨b, off, rfl, hb0, hcell⟩ := HOPS.out (by omega)
      obtain ⟨kd, kv, m, port, vid, now, old, hm, hnow, hold, e0', e1', e2', e3', e4', e5', e6'⟩ := hcell k (by omega)
      have g0 : (0 : Int) ≤ (k : Int) := Int.natCast_nonneg _
      have g1 : (k : Int) < (len : Int) := by omega
      have g2 : (k : Int) < 200 := by omega
      have HOPC : Hid (∀ w', Below W.heap.size W w' → w'.cell? ⟨b, off + k * 7, none⟩ = some (.int .i64 kd) ∧ w'.cell? ⟨b, off + k * 7 + 1, none⟩ = some (.int .i64 kv) ∧ w'.cell? ⟨b, off + k * 7 + 2, none⟩ = some (.int .u64 (m : Int)) ∧ w'.cell? ⟨b, off + k * 7 + 3, none⟩ = some (.int .i64 port) ∧ w'.cell? ⟨b, off + k * 7 + 4, none⟩ = some (.int .i64 vid) ∧ w'.cell? ⟨b, off + k * 7 + 5, none⟩ = some (.int .u32 (now : Int)) ∧ w'.cell? ⟨b, off + k * 7 + 6, none⟩ = some (.int .u32 (old : Int))) := fun w' hb => ⟨(hb.cell (p := ⟨b, _, none⟩) hb0).trans e0', (hb.cell (p := ⟨b, _, none⟩) hb0).trans e1', (hb.cell (p := ⟨b, _, none⟩) hb0).trans e2', (hb.cell (p := ⟨b, _, none⟩) hb0).trans e3', (hb.cell (p := ⟨b, _, none⟩) hb0).trans e4', (hb.cell (p := ⟨b, _, none⟩) hb0).trans e5', (hb.cell (p := ⟨b, _, none⟩) hb0).trans e6'⟩
      obtain ⟨z0, z1, z2, z3, z4, z5, z6⟩ := HOPC.out _ HB.out
      obtain ⟨K1, hK7, hk1, hk2⟩ := kind7 kd
      have hst' := doG_st K1 kv m port vid now old S B n g hst hnow
      have HD1 := Lib.hid fun w hk hD => HDO.out w (DD p q p2 q2) p q g kd kv m port vid now old hk hD (Two.dq HT.out.l2) hst hm hnow K1 hK7 hk1 hk2
      have HW1 := Lib.hid fun w hk hD => HWA.out w (DD p q p2 q2) p2 q2 g kd kv m port vid now old hk hD Two.dq2 hst hm hnow K1 hK7 hk1 hk2
      obtain ⟨y, hy⟩ : ∃ y, y = doG K1 kv m port vid now old S B n g := ⟨_, rfl⟩
      rw [← hy] at HD1 HW1 hst'
      obtain ⟨g', r⟩ := y
      simp only at HD1 HW1 hst'
      have hrr : ((r : Int) != (r : Int)) = false := by simp
      clear hy e0' e1' e2' e3' e4' e5' e6' hcell HDO HWA HOPS hm hnow hold hk1 hk2 hK7
      go_wp2_with fail
      refine wp_region_held_drew (S := fun w' => w'.cell? ⟨b, off + k * 7, none⟩ = some (.int .i64 kd) ∧ w'.cell? ⟨b, off + k * 7 + 1, none⟩ = some (.int .i64 kv) ∧ w'.cell? ⟨b, off + k * 7 + 2, none⟩ = some (.int .u64 (m : Int)) ∧ w'.cell? ⟨b, off + k * 7 + 3, none⟩ = some (.int .i64 port) ∧ w'.cell? ⟨b, off + k * 7 + 4, none⟩ = some (.int .i64 vid) ∧ w'.cell? ⟨b, off + k * 7 + 5, none⟩ = some (.int .u32 (now : Int)) ∧ w'.cell? ⟨b, off + k * 7 + 6, none⟩ = some (.int .u32 (old : Int))) (by kernel_rfl) ?_ (fun hHeld => ?_)
      · exact ⟨z0, z1, z2, z3, z4, z5, z6⟩
      refine wpAnyH_take (i := 0) (oi := { dst := some 47, op := Go.Op.move (Go.Operand.tmp 5), type := 82, pos := "law.go:115", after := #[], guard := none }) (v := ?_) rfl (by kernel_rfl) (by kernel_rfl) (by kernel_rfl) (fun _ _ _ h => h) (Or.inl ⟨by rfl, ?_⟩) (by assumption) ?_
      rotate_left
      · intro w hSw
        (try dsimp only at hSw)
        go_simp
        try with_reducible rfl
      (try simp only [Act.put, List.setIfInBounds_toArray, List.set_cons_zero, List.set_cons_succ])
      refine wpAnyH_take (i := 1) (oi := { dst := some 48, op := Go.Op.move (Go.Operand.tmp 1), type := 80, pos := "law.go:115", after := #[], guard := none }) (v := ?_) rfl (by kernel_rfl) (by kernel_rfl) (by kernel_rfl) (fun _ _ _ h => h) (Or.inl ⟨by rfl, ?_⟩) (by assumption) ?_
      rotate_left
      · intro w hSw
        (try dsimp only at hSw)
        go_simp
        try with_reducible rfl
      (try simp only [Act.put, List.setIfInBounds_toArray, List.set_cons_zero, List.set_cons_succ])
      refine wpAnyH_take (i := 2) (oi := { dst := some 49, op := Go.Op.move (Go.Operand.tmp 8), type := 3, pos := "law.go:115", after := #[], guard := none }) (v := ?_) rfl (by kernel_rfl) (by kernel_rfl) (by kernel_rfl) (fun _ _ _ h => h) (Or.inl ⟨by rfl, ?_⟩) (by assumption) ?_
      rotate_left
      · intro w hSw
        (try dsimp only at hSw)
        go_simp
        try with_reducible rfl
      (try simp only [Act.put, List.setIfInBounds_toArray, List.set_cons_zero, List.set_cons_succ])
      refine wpAnyH_take (i := 3) (oi := { dst := some 50, op := Go.Op.indexAddr 80 (Go.Operand.tmp 48) (Go.Operand.tmp 49), type := 0, pos := "law.go:115", after := #[{ on := 1, ground := Go.Ground.data }, { on := 2, ground := Go.Ground.data }], guard := none }) (v := ?_) rfl (by kernel_rfl) (by kernel_rfl) (by kernel_rfl) (fun _ _ _ h => h) (Or.inl ⟨by rfl, ?_⟩) (by assumption) ?_
      rotate_left
      · intro w hSw
        (try dsimp only at hSw)
        go_simp
        try with_reducible rfl
      (try simp only [Act.put, List.setIfInBounds_toArray, List.set_cons_zero, List.set_cons_succ])
      refine wpAnyH_take (i := 4) (oi := { dst := some 51, op := Go.Op.load 93 (Go.Operand.tmp 50), type := 93, pos := "law.go:115", after := #[{ on := 3, ground := Go.Ground.data }], guard := none }) (v := ?_) rfl (by kernel_rfl) (by kernel_rfl) (by kernel_rfl) (fun _ _ _ h => h) (Or.inl ⟨by rfl, ?_⟩) (by assumption) ?_
      rotate_left
      · intro w hSw
        (try dsimp only at hSw)
        go_simp
        try with_reducible rfl
      (try simp only [Act.put, List.setIfInBounds_toArray, List.set_cons_zero, List.set_cons_succ])
      refine wpAnyH_take (i := 6) (oi := { dst := some 53, op := Go.Op.move (Go.Operand.tmp 7), type := 88, pos := "law.go:115", after := #[], guard := none }) (v := ?_) rfl (by kernel_rfl) (by kernel_rfl) (by kernel_rfl) (fun _ _ _ h => h) (Or.inl ⟨by rfl, ?_⟩) (by assumption) ?_
      rotate_left
      · intro w hSw
        (try dsimp only at hSw)
        go_simp
        try with_reducible rfl
      (try simp only [Act.put, List.setIfInBounds_toArray, List.set_cons_zero, List.set_cons_succ])
      refine wpAnyH_take (i := 7) (oi := { dst := some 54, op := Go.Op.move (Go.Operand.tmp 1), type := 80, pos := "law.go:115", after := #[], guard := none }) (v := ?_) rfl (by kernel_rfl) (by kernel_rfl) (by kernel_rfl) (fun _ _ _ h => h) (Or.inl ⟨by rfl, ?_⟩) (by assumption) ?_
      rotate_left
      · intro w hSw
        (try dsimp only at hSw)
        go_simp
        try with_reducible rfl
      (try simp only [Act.put, List.setIfInBounds_toArray, List.set_cons_zero, List.set_cons_succ])
      refine wpAnyH_take (i := 8) (oi := { dst := some 55, op := Go.Op.move (Go.Operand.tmp 8), type := 3, pos := "law.go:115", after := #[], guard := none }) (v := ?_) rfl (by kernel_rfl) (by kernel_rfl) (by kernel_rfl) (fun _ _ _ h => h) (Or.inl ⟨by rfl, ?_⟩) (by assumption) ?_
      rotate_left
      · intro w hSw
        (try dsimp only at hSw)
        go_simp
        try with_reducible rfl
      (try simp only [Act.put, List.setIfInBounds_toArray, List.set_cons_zero, List.set_cons_succ])
      refine wpAnyH_take (i := 9) (oi := { dst := some 56, op := Go.Op.indexAddr 80 (Go.Operand.tmp 54) (Go.Operand.tmp 55), type := 0, pos := "law.go:115", after := #[{ on := 7, ground := Go.Ground.data }, { on := 8, ground := Go.Ground.data }], guard := none }) (v := ?_) rfl (by kernel_rfl) (by kernel_rfl) (by kernel_rfl) (fun _ _ _ h => h) (Or.inl ⟨by rfl, ?_⟩) (by assumption) ?_
      rotate_left
      · intro w hSw
        (try dsimp only at hSw)
        go_simp
        try with_reducible rfl
      (try simp only [Act.put, List.setIfInBounds_toArray, List.set_cons_zero, List.set_cons_succ])
      refine wpAnyH_take (i := 10) (oi := { dst := some 57, op := Go.Op.load 93 (Go.Operand.tmp 56), type := 93, pos := "law.go:115", after := #[{ on := 9, ground := Go.Ground.data }], guard := none }) (v := ?_) rfl (by kernel_rfl) (by kernel_rfl) (by kernel_rfl) (fun _ _ _ h => h) (Or.inl ⟨by rfl, ?_⟩) (by assumption) ?_
      rotate_left
      · intro w hSw
        (try dsimp only at hSw)
        go_simp
        try with_reducible rfl
      (try simp only [Act.put, List.setIfInBounds_toArray, List.set_cons_zero, List.set_cons_succ])
      refine wpAnyH_ready (rs := [5]) (by kernel_rfl) (by simp) ?_
      refine (AllReadyH.cons (o := { dst := some 52, op := Go.Op.call { callee := Go.Callee.value (Go.Operand.func 41), args := #[Go.Operand.tmp 47, Go.Operand.tmp 51], argTypes := #[82, 93] }, type := 3, pos := "law.go:115", after := #[{ on := 0, ground := Go.Ground.data }, { on := 4, ground := Go.Ground.data }], guard := none }) rfl (fun K hK => ?_) AllReadyH.nil)
      go_simp
      refine Calls.mono (HD1.out _ (HT.out.one.call (Below.drew (Below.refl _ _))) HT.out.lt) ?_
      intro e w6 hpost
      obtain ⟨he, hk6, hbt'⟩ := hpost
      subst he
      have hbt : But q wr w6 := (But.of (Below.drew (Below.refl _ _)) (by have := HT.out.lt q (Two.dq HT.out.l2); omega)).trans hbt'
      have HA6 := Lib.hid hk6
      have HC6 := Lib.hid (HT.out.two.but hbt (by omega) (by omega) (Two.dq HT.out.l2))
      have HL6 : Hid (∀ b, DD p q p2 q2 b → b < w6.heap.size) := fun b hb => Nat.lt_of_lt_of_le (HT.out.lt b hb) hbt.below.size
      have hz6 : W.heap.size < w6.heap.size := Nat.lt_of_lt_of_le hzx hbt.below.size
      have HB6 := Lib.hid (HB.out.trans (hbt.below.mono (by omega)))
      have s0 := (hbt.cell (p := ⟨W.heap.size, 0, none⟩) (by show W.heap.size < _; omega) (by show W.heap.size ≠ _; omega)).trans s0
      have s1 := (hbt.cell (p := ⟨W.heap.size, 1, none⟩) (by show W.heap.size < _; omega) (by show W.heap.size ≠ _; omega)).trans s1
      have s2 := (hbt.cell (p := ⟨W.heap.size, 2, none⟩) (by show W.heap.size < _; omega) (by show W.heap.size ≠ _; omega)).trans s2
      clear hk6 hbt hbt'
      refine hK.out _ _ ?_ (fun hHeld => ?_)
      · (try dsimp only)
        exact HOPC.out _ HB6.out
      clear hK K
      (try simp only [Act.put, List.setIfInBounds_toArray, List.set_cons_zero, List.set_cons_succ])
      refine wpAnyH_ready (rs := [11]) (by kernel_rfl) (by simp) ?_
      refine (AllReadyH.cons (o := { dst := some 58, op := Go.Op.call { callee := Go.Callee.value (Go.Operand.func 42), args := #[Go.Operand.tmp 53, Go.Operand.tmp 57], argTypes := #[88, 93] }, type := 3, pos := "law.go:115", after := #[{ on := 6, ground := Go.Ground.data }, { on := 10, ground := Go.Ground.data }, { on := 5, ground := Go.Ground.chain }], guard := none }) rfl (fun K hK => ?_) AllReadyH.nil)
      go_simp
      refine Calls.mono (HW1.out _ HC6.out HL6.out) ?_
      intro e w7 hpost
      obtain ⟨he, hk7, hbt⟩ := hpost
      subst he
      have HT7 : Hid (Two w7 W.heap.size p q p2 q2 S B n g') := ⟨HA6.out.but hbt (by omega) (by omega) Two.dq2, hk7, HT.out.l1, HT.out.l2, HT.out.l3, HT.out.l4⟩
      have hz7 : W.heap.size < w7.heap.size := Nat.lt_of_lt_of_le hz6 hbt.below.size
      have HB7 := Lib.hid (HB6.out.trans (hbt.below.mono (by omega)))
      have s0 := (hbt.cell (p := ⟨W.heap.size, 0, none⟩) (by show W.heap.size < _; omega) (by show W.heap.size ≠ _; omega)).trans s0
      have s1 := (hbt.cell (p := ⟨W.heap.size, 1, none⟩) (by show W.heap.size < _; omega) (by show W.heap.size ≠ _; omega)).trans s1
      have s2 := (hbt.cell (p := ⟨W.heap.size, 2, none⟩) (by show W.heap.size < _; omega) (by show W.heap.size ≠ _; omega)).trans s2
      clear hk7 hbt
      refine hK.out _ _ ?_ (fun hHeld => ?_)
      · (try dsimp only)
        exact HOPC.out _ HB7.out
      clear hK K
      (try simp only [Act.put, List.setIfInBounds_toArray, List.set_cons_zero, List.set_cons_succ])
      refine wpAnyH_take (i := 12) (oi := { dst := some 59, op := Go.Op.binOp Go.BinOp.neq 3 (Go.Operand.tmp 52) (Go.Operand.tmp 58) 3, type := 4, pos := "law.go:115", after := #[{ on := 5, ground := Go.Ground.data }, { on := 11, ground := Go.Ground.data }], guard := none }) (v := ?_) rfl (by kernel_rfl) (by kernel_rfl) (by kernel_rfl) (fun _ _ _ h => h) (Or.inl ⟨by rfl, ?_⟩) (by assumption) ?_
      rotate_left
      · intro w hSw
        (try dsimp only at hSw)
        go_simp
        try with_reducible rfl
      (try simp only [Act.put, List.setIfInBounds_toArray, List.set_cons_zero, List.set_cons_succ])
      refine wpAnyH_done (by kernel_rfl) ?_ _
      have HX7 : Hid (w7.cell? ⟨W.heap.size, 0, none⟩ = some (.int .i64 (S : Nat)) ∧ w7.cell? ⟨W.heap.size, 1, none⟩ = some (.int .i64 (B : Nat)) ∧ w7.cell? ⟨W.heap.size, 2, none⟩ = some (.int .i64 (n : Nat))) := ⟨s0, s1, s2⟩
      clear hHeld s0 s1 s2
      go_wp2
      go_roundw
      case rel => exact ⟨k + 1, g', by omega, by go_num, hst', HT7.out, hz7, HX7, HB7⟩
      case measure => simp [intOf]; omega
    · have hfin := HNN.out k hk hlt
      clear HDO HWA HOPS HNN s0 s1 s2
      rcases hfin with hfin | ⟨hfin0, hfin⟩
      · have hf : ¬ (k : Int) < (len : Int) := by omega
        go_wp2
        clear hf
        go_loopw [9] (fun i wq => ∃ j : Nat, j ≤ M ∧ i = .int .i64 j ∧ Hid (Two wq W.heap.size p q p2 q2 S B n g) ∧ W.heap.size < wq.heap.size ∧ Hid (wq.cell? ⟨W.heap.size, 0, none⟩ = some (.int .i64 (S : Nat)) ∧ wq.cell? ⟨W.heap.size, 1, none⟩ = some (.int .i64 (B : Nat)) ∧ wq.cell? ⟨W.heap.size, 2, none⟩ = some (.int .i64 (n : Nat))) ∧ Hid (Below W.heap.size W wq)) (fun i _ => M - (intOf i).toNat)
        case atStart => exact ⟨0, by omega, rfl, HT, hzx, HX, HB⟩
        case round =>
          obtain ⟨j, hj, rfl, HT', hzx', HX', HB'⟩ := hrel
          have HT := HT'
          have HB := HB'
          have HX := HX'
          have hzx := hzx'
          clear HT' HB' HX' hzx'
          obtain ⟨s0, s1, s2⟩ := HX.out
          obtain ⟨hp2, hq2, _, _, _, _, ⟨cap2, x1, x2, x3⟩, _, hrows⟩ := HT.out.two
          rw [← HM.out] at x1 x3 hrows
          unfold maxLen at x2
          have j0 : (0 : Int) ≤ (j : Int) := Int.natCast_nonneg _
          by_cases hjm : j < M
          · have j1 : (j : Int) < (M : Int) := by omega
            obtain ⟨v0, hv0, hrow⟩ := hrows j hjm
            have HROW := Lib.hid hrow.row
            have hdm := at_div (S := S) (B := B) (i := j) hB1 (by rw [← HM.out]; exact hjm)
            obtain ⟨hd1, hd2, _⟩ := hdm
            have HB1' := Lib.hid fun w (h : BkAt w (DD p q p2 q2) p q S B n g) => HBU.out w _ p q g h j (by rw [← HM.out]; exact hjm)
            have hdx : j / B ≤ 128 := Nat.le_trans (Nat.div_le_self j B) (Nat.le_trans (Nat.le_of_lt hjm) hMB)
            have hdy : j % B ≤ 128 := Nat.le_trans (Nat.mod_le j B) (Nat.le_trans (Nat.le_of_lt hjm) hMB)
            generalize hfj : g j = fj at *
            generalize j / B = dx at *
            generalize j % B = dy at *
            obtain ⟨w1', w2'⟩ := wrap_ok (x := (dx : Int)) rfl (Nat.lt_of_le_of_lt hdx (by decide))
            obtain ⟨w3', w4'⟩ := wrap_ok (x := (dy : Int)) rfl (Nat.lt_of_le_of_lt hdy (by decide))
            obtain ⟨hBn0, hB0, hB00⟩ := pos_word hB1
            clear HBU hrow hrows hfj
            go_wp2_with fail
            refine wp_region_held_drew (S := fun w' => w'.cell? ⟨W.heap.size, 1, none⟩ = some (.int .i64 (B : Nat)) ∧ w'.cell? ⟨p2, 3, none⟩ = some (.slice (some ⟨q2, 0, none⟩) M cap2) ∧ w'.cell? ⟨q2, j, none⟩ = some v0) (by kernel_rfl) ?_ (fun hHeld => ?_)
            · exact ⟨s1, x3, hv0⟩
            refine wpAnyH_take (i := 0) (oi := { dst := some 69, op := Go.Op.move (Go.Operand.tmp 5), type := 82, pos := "law.go:120", after := #[], guard := none }) (v := ?_) rfl (by kernel_rfl) (by kernel_rfl) (by kernel_rfl) (fun _ _ _ h => h) (Or.inl ⟨by rfl, ?_⟩) (by assumption) ?_
            rotate_left
            · intro w hSw
              (try dsimp only at hSw)
              go_simp
              try with_reducible rfl
            (try simp only [Act.put, List.setIfInBounds_toArray, List.set_cons_zero, List.set_cons_succ])
            refine wpAnyH_take (i := 1) (oi := { dst := some 70, op := Go.Op.move (Go.Operand.tmp 9), type := 3, pos := "law.go:120", after := #[], guard := none }) (v := ?_) rfl (by kernel_rfl) (by kernel_rfl) (by kernel_rfl) (fun _ _ _ h => h) (Or.inl ⟨by rfl, ?_⟩) (by assumption) ?_
            rotate_left
            · intro w hSw
              (try dsimp only at hSw)
              go_simp
              try with_reducible rfl
            (try simp only [Act.put, List.setIfInBounds_toArray, List.set_cons_zero, List.set_cons_succ])
            refine wpAnyH_take (i := 2) (oi := { dst := some 71, op := Go.Op.fieldAddr 79 (Go.Operand.tmp 2) 1, type := 0, pos := "law.go:120", after := #[], guard := none }) (v := ?_) rfl (by kernel_rfl) (by kernel_rfl) (by kernel_rfl) (fun _ _ _ h => h) (Or.inl ⟨by rfl, ?_⟩) (by assumption) ?_
            rotate_left
            · intro w hSw
              (try dsimp only at hSw)
              go_simp
              try with_reducible rfl
            (try simp only [Act.put, List.setIfInBounds_toArray, List.set_cons_zero, List.set_cons_succ])
            refine wpAnyH_take (i := 3) (oi := { dst := some 72, op := Go.Op.load 3 (Go.Operand.tmp 71), type := 3, pos := "law.go:120", after := #[{ on := 2, ground := Go.Ground.data }], guard := none }) (v := ?_) rfl (by kernel_rfl) (by kernel_rfl) (by kernel_rfl) (fun _ _ _ h => h) (Or.inl ⟨by rfl, ?_⟩) (by assumption) ?_
            rotate_left
            · intro w hSw
              (try dsimp only at hSw)
              go_simp
              try with_reducible rfl
            (try simp only [Act.put, List.setIfInBounds_toArray, List.set_cons_zero, List.set_cons_succ])
            refine wpAnyH_take (i := 4) (oi := { dst := some 73, op := Go.Op.binOp Go.BinOp.quo 3 (Go.Operand.tmp 70) (Go.Operand.tmp 72) 3, type := 3, pos := "law.go:120", after := #[{ on := 1, ground := Go.Ground.data }, { on := 3, ground := Go.Ground.data }], guard := none }) (v := ?_) rfl (by kernel_rfl) (by kernel_rfl) (by kernel_rfl) (fun _ _ _ h => h) (Or.inl ⟨by rfl, ?_⟩) (by assumption) ?_
            rotate_left
            · intro w hSw
              (try dsimp only at hSw)
              go_simp
              try with_reducible rfl
            (try simp only [Act.put, List.setIfInBounds_toArray, List.set_cons_zero, List.set_cons_succ])
            refine wpAnyH_take (i := 5) (oi := { dst := some 74, op := Go.Op.move (Go.Operand.tmp 9), type := 3, pos := "law.go:120", after := #[], guard := none }) (v := ?_) rfl (by kernel_rfl) (by kernel_rfl) (by kernel_rfl) (fun _ _ _ h => h) (Or.inl ⟨by rfl, ?_⟩) (by assumption) ?_
            rotate_left
            · intro w hSw
              (try dsimp only at hSw)
              go_simp
              try with_reducible rfl
            (try simp only [Act.put, List.setIfInBounds_toArray, List.set_cons_zero, List.set_cons_succ])
            refine wpAnyH_take (i := 6) (oi := { dst := some 75, op := Go.Op.fieldAddr 79 (Go.Operand.tmp 2) 1, type := 0, pos := "law.go:120", after := #[], guard := none }) (v := ?_) rfl (by kernel_rfl) (by kernel_rfl) (by kernel_rfl) (fun _ _ _ h => h) (Or.inl ⟨by rfl, ?_⟩) (by assumption) ?_
            rotate_left
            · intro w hSw
              (try dsimp only at hSw)
              go_simp
              try with_reducible rfl
            (try simp only [Act.put, List.setIfInBounds_toArray, List.set_cons_zero, List.set_cons_succ])
            refine wpAnyH_take (i := 7) (oi := { dst := some 76, op := Go.Op.load 3 (Go.Operand.tmp 75), type := 3, pos := "law.go:120", after := #[{ on := 6, ground := Go.Ground.data }], guard := none }) (v := ?_) rfl (by kernel_rfl) (by kernel_rfl) (by kernel_rfl) (fun _ _ _ h => h) (Or.inl ⟨by rfl, ?_⟩) (by assumption) ?_
            rotate_left
            · intro w hSw
              (try dsimp only at hSw)
              go_simp
              try with_reducible rfl
            (try simp only [Act.put, List.setIfInBounds_toArray, List.set_cons_zero, List.set_cons_succ])
            refine wpAnyH_take (i := 8) (oi := { dst := some 77, op := Go.Op.binOp Go.BinOp.rem 3 (Go.Operand.tmp 74) (Go.Operand.tmp 76) 3, type := 3, pos := "law.go:120", after := #[{ on := 5, ground := Go.Ground.data }, { on := 7, ground := Go.Ground.data }], guard := none }) (v := ?_) rfl (by kernel_rfl) (by kernel_rfl) (by kernel_rfl) (fun _ _ _ h => h) (Or.inl ⟨by rfl, ?_⟩) (by assumption) ?_
            rotate_left
            · intro w hSw
              (try dsimp only at hSw)
              go_simp
              try with_reducible rfl
            (try simp only [Act.put, List.setIfInBounds_toArray, List.set_cons_zero, List.set_cons_succ])
            refine wpAnyH_take (i := 11) (oi := { dst := some 80, op := Go.Op.move (Go.Operand.tmp 7), type := 88, pos := "law.go:120", after := #[], guard := none }) (v := ?_) rfl (by kernel_rfl) (by kernel_rfl) (by kernel_rfl) (fun _ _ _ h => h) (Or.inl ⟨by rfl, ?_⟩) (by assumption) ?_
            rotate_left
            · intro w hSw
              (try dsimp only at hSw)
              go_simp
              try with_reducible rfl
            (try simp only [Act.put, List.setIfInBounds_toArray, List.set_cons_zero, List.set_cons_succ])
            refine wpAnyH_take (i := 12) (oi := { dst := some 81, op := Go.Op.nilCheck (Go.Operand.tmp 80), type := 0, pos := "law.go:120", after := #[{ on := 11, ground := Go.Ground.data }], guard := none }) (v := ?_) rfl (by kernel_rfl) (by kernel_rfl) (by kernel_rfl) (fun _ _ _ h => h) (Or.inl ⟨by rfl, ?_⟩) (by assumption) ?_
            rotate_left
            · intro w hSw
              (try dsimp only at hSw)
              go_simp
              try with_reducible rfl
            (try simp only [Act.put, List.setIfInBounds_toArray, List.set_cons_zero, List.set_cons_succ])
            refine wpAnyH_take (i := 13) (oi := { dst := some 82, op := Go.Op.fieldAddr 97 (Go.Operand.tmp 81) 1, type := 0, pos := "law.go:120", after := #[{ on := 12, ground := Go.Ground.data }], guard := none }) (v := ?_) rfl (by kernel_rfl) (by kernel_rfl) (by kernel_rfl) (fun _ _ _ h => h) (Or.inl ⟨by rfl, ?_⟩) (by assumption) ?_
            rotate_left
            · intro w hSw
              (try dsimp only at hSw)
              go_simp
              try with_reducible rfl
            (try simp only [Act.put, List.setIfInBounds_toArray, List.set_cons_zero, List.set_cons_succ])
            refine wpAnyH_take (i := 14) (oi := { dst := some 83, op := Go.Op.load 95 (Go.Operand.tmp 82), type := 95, pos := "law.go:120", after := #[{ on := 13, ground := Go.Ground.data }], guard := none }) (v := ?_) rfl (by kernel_rfl) (by kernel_rfl) (by kernel_rfl) (fun _ _ _ h => h) (Or.inl ⟨by rfl, ?_⟩) (by assumption) ?_
            rotate_left
            · intro w hSw
              (try dsimp only at hSw)
              go_simp
              try with_reducible rfl
            (try simp only [Act.put, List.setIfInBounds_toArray, List.set_cons_zero, List.set_cons_succ])
            refine wpAnyH_take (i := 15) (oi := { dst := some 84, op := Go.Op.move (Go.Operand.tmp 9), type := 3, pos := "law.go:120", after := #[], guard := none }) (v := ?_) rfl (by kernel_rfl) (by kernel_rfl) (by kernel_rfl) (fun _ _ _ h => h) (Or.inl ⟨by rfl, ?_⟩) (by assumption) ?_
            rotate_left
            · intro w hSw
              (try dsimp only at hSw)
              go_simp
              try with_reducible rfl
            (try simp only [Act.put, List.setIfInBounds_toArray, List.set_cons_zero, List.set_cons_succ])
            refine wpAnyH_take (i := 16) (oi := { dst := some 85, op := Go.Op.indexAddr 95 (Go.Operand.tmp 83) (Go.Operand.tmp 84), type := 0, pos := "law.go:120", after := #[{ on := 14, ground := Go.Ground.data }, { on := 15, ground := Go.Ground.data }], guard := none }) (v := ?_) rfl (by kernel_rfl) (by kernel_rfl) (by kernel_rfl) (fun _ _ _ h => h) (Or.inl ⟨by rfl, ?_⟩) (by assumption) ?_
            rotate_left
            · intro w hSw
              (try dsimp only at hSw)
              go_simp
              try with_reducible rfl
            (try simp only [Act.put, List.setIfInBounds_toArray, List.set_cons_zero, List.set_cons_succ])
            refine wpAnyH_take (i := 17) (oi := { dst := some 86, op := Go.Op.load 22 (Go.Operand.tmp 85), type := 22, pos := "law.go:120", after := #[{ on := 16, ground := Go.Ground.data }], guard := none }) (v := ?_) rfl (by kernel_rfl) (by kernel_rfl) (by kernel_rfl) (fun _ _ _ h => h) (Or.inl ⟨by rfl, ?_⟩) (by assumption) ?_
            rotate_left
            · intro w hSw
              (try dsimp only at hSw)
              go_simp
              try with_reducible rfl
            (try simp only [Act.put, List.setIfInBounds_toArray, List.set_cons_zero, List.set_cons_succ])
            refine wpAnyH_ready (rs := [9]) (by kernel_rfl) (by simp) ?_
            refine AllReadyH.cons (o := { dst := some 78, op := Go.Op.call { callee := Go.Callee.value (Go.Operand.func 43), args := #[Go.Operand.tmp 69, Go.Operand.tmp 73, Go.Operand.tmp 77], argTypes := #[82, 3, 3] }, type := 30, pos := "law.go:120", after := #[{ on := 0, ground := Go.Ground.data }, { on := 4, ground := Go.Ground.data }, { on := 8, ground := Go.Ground.data }], guard := none }) rfl (fun K hK => ?_) AllReadyH.nil
            go_simp
            refine Calls.mono (HB1'.out _ (HT.out.one.call ((Below.refl _ _).drew))) ?_
            intro e u1 hpost
            obtain ⟨va, he, hra, hb'⟩ := hpost
            (try simp only [id] at he)
            subst he
            have hb : Below wr.heap.size wr u1 := ((Below.refl wr.heap.size wr).drew).trans hb'
            have R1 := Lib.hid hra
            have hzu := hb.size
            have HT1 := Lib.hid (HT.out.call hb)
            have HBx := Lib.hid (HB.out.trans (hb.mono (by omega)))
            have HRW1 : Hid (PlRow u1 u1.heap.size v0 n fj) := (HROW.out.below hb).up (by omega)
            have s0 := (hb.cell (p := ⟨W.heap.size, 0, none⟩) (by show W.heap.size < _; omega)).trans s0
            have s1 := (hb.cell (p := ⟨W.heap.size, 1, none⟩) (by show W.heap.size < _; omega)).trans s1
            have s2 := (hb.cell (p := ⟨W.heap.size, 2, none⟩) (by show W.heap.size < _; omega)).trans s2

            refine hK.out _ _ ?_ (fun hHeld => ?_)
            · (try dsimp only)
              exact ⟨(hb.cell (p := ⟨W.heap.size, 1, none⟩) (by show W.heap.size < _; omega)).trans hHeld.1, (hb.cell (p := ⟨p2, 3, none⟩) (by show p2 < _; omega)).trans hHeld.2.1, (hb.cell (p := ⟨q2, j, none⟩) (by show q2 < _; omega)).trans hHeld.2.2⟩
            clear hK K
            (try simp only [Act.put, List.setIfInBounds_toArray, List.set_cons_zero, List.set_cons_succ])
            refine wpAnyH_ready (rs := [10]) (by kernel_rfl) (by simp) ?_
            refine AllReadyH.cons (o := { dst := some 79, op := Go.Op.call { callee := Go.Callee.value (Go.Operand.func 21), args := #[Go.Operand.tmp 78], argTypes := #[30] }, type := 22, pos := "law.go:120", after := #[{ on := 9, ground := Go.Ground.data }, { on := 9, ground := Go.Ground.chain }], guard := none }) rfl (fun K hK => ?_) AllReadyH.nil
            go_simp
            refine Calls.mono (HFR.out _ _ _ R1.out.row) ?_
            intro e u2 hpost
            obtain ⟨vb, he, hrb, hb⟩ := hpost
            (try simp only [id] at he)
            subst he
            have R2 := Lib.hid hrb
            have hzu2 := hb.size
            have HT1 := Lib.hid (HT1.out.call hb)
            have HBx := Lib.hid (HBx.out.trans (hb.mono (by omega)))
            have HRW2 : Hid (PlRow u2 u2.heap.size v0 n fj) := (HRW1.out.below hb).up (by omega)
            have s0 := (hb.cell (p := ⟨W.heap.size, 0, none⟩) (by show W.heap.size < _; omega)).trans s0
            have s1 := (hb.cell (p := ⟨W.heap.size, 1, none⟩) (by show W.heap.size < _; omega)).trans s1
            have s2 := (hb.cell (p := ⟨W.heap.size, 2, none⟩) (by show W.heap.size < _; omega)).trans s2

            refine hK.out _ _ ?_ (fun hHeld => ?_)
            · (try dsimp only)
              exact ⟨(hb.cell (p := ⟨W.heap.size, 1, none⟩) (by show W.heap.size < _; omega)).trans hHeld.1, (hb.cell (p := ⟨p2, 3, none⟩) (by show p2 < _; omega)).trans hHeld.2.1, (hb.cell (p := ⟨q2, j, none⟩) (by show q2 < _; omega)).trans hHeld.2.2⟩
            clear hK K
            (try simp only [Act.put, List.setIfInBounds_toArray, List.set_cons_zero, List.set_cons_succ])
            refine wpAnyH_ready (rs := [18]) (by kernel_rfl) (by simp) ?_
            refine AllReadyH.cons (o := { dst := some 87, op := Go.Op.call { callee := Go.Callee.value (Go.Operand.func 20), args := #[Go.Operand.tmp 79, Go.Operand.tmp 86], argTypes := #[22, 22] }, type := 4, pos := "law.go:120", after := #[{ on := 10, ground := Go.Ground.data }, { on := 17, ground := Go.Ground.data }, { on := 10, ground := Go.Ground.chain }], guard := none }) rfl (fun K hK => ?_) AllReadyH.nil
            go_simp
            refine Calls.mono (ref10_SameEq R2.out.row HRW2.out) ?_
            intro e u3 hpost
            obtain ⟨rfl, hb⟩ := hpost
            have hzu3 := hb.size
            have HT1 := Lib.hid (HT1.out.call hb)
            have HBx := Lib.hid (HBx.out.trans (hb.mono (by omega)))
            have s0 := (hb.cell (p := ⟨W.heap.size, 0, none⟩) (by show W.heap.size < _; omega)).trans s0
            have s1 := (hb.cell (p := ⟨W.heap.size, 1, none⟩) (by show W.heap.size < _; omega)).trans s1
            have s2 := (hb.cell (p := ⟨W.heap.size, 2, none⟩) (by show W.heap.size < _; omega)).trans s2

            refine hK.out _ _ ?_ (fun hHeld => ?_)
            · (try dsimp only)
              exact ⟨(hb.cell (p := ⟨W.heap.size, 1, none⟩) (by show W.heap.size < _; omega)).trans hHeld.1, (hb.cell (p := ⟨p2, 3, none⟩) (by show p2 < _; omega)).trans hHeld.2.1, (hb.cell (p := ⟨q2, j, none⟩) (by show q2 < _; omega)).trans hHeld.2.2⟩
            clear hK K
            (try simp only [Act.put, List.setIfInBounds_toArray, List.set_cons_zero, List.set_cons_succ])
            refine wpAnyH_take (i := 19) (oi := { dst := some 88, op := Go.Op.unOp Go.UnOp.not 4 (Go.Operand.tmp 87), type := 4, pos := "law.go:120", after := #[{ on := 18, ground := Go.Ground.data }], guard := none }) (v := ?_) rfl (by kernel_rfl) (by kernel_rfl) (by kernel_rfl) (fun _ _ _ h => h) (Or.inl ⟨by rfl, ?_⟩) (by assumption) ?_
            rotate_left
            · intro w hSw
              (try dsimp only at hSw)
              go_simp
              try with_reducible rfl
            (try simp only [Act.put, List.setIfInBounds_toArray, List.set_cons_zero, List.set_cons_succ])
            refine wpAnyH_done (by kernel_rfl) ?_ _
            go_wp2
            go_roundw
            case rel => exact ⟨j + 1, by omega, by go_num, HT1, by omega, ⟨s0, s1, s2⟩, HBx⟩
            case measure => simp [intOf]; omega
          · have : M = j := by omega
            subst this
            clear hrows HBU HNEW HNEWR HTOLD HTO HFR
            have hle := bookL_le g n (S * B)
            obtain ⟨LL, hLL⟩ : ∃ LL, LL = bookL g n (S * B) := ⟨_, rfl⟩
            have HLA := HLI.out _ _ _ _ _ HT.out.one
            rw [← hLL] at HLA
            have HLA := Lib.hid HLA
            have HLB := Lib.hid fun w' (h : BkAt w' (DD p q p2 q2) p2 q2 S B n g) => HLR.out _ _ _ _ _ h
            rw [← hLL] at HLB
            clear hLL hle HLI HLR
            go_wp2_with fail
            refine (HLA.out).mono ?_
            rintro e u1 ⟨va, rfl, hoa, hb⟩
            have OA := Lib.hid (Sl.of_own hoa)
            have hzu := hb.size
            have HT1 := Lib.hid (HT.out.call hb)
            have HBx := Lib.hid (HB.out.trans (hb.mono (by omega)))
            have s0 := (hb.cell (p := ⟨W.heap.size, 0, none⟩) (by show W.heap.size < _; omega)).trans s0
            have s1 := (hb.cell (p := ⟨W.heap.size, 1, none⟩) (by show W.heap.size < _; omega)).trans s1
            have s2 := (hb.cell (p := ⟨W.heap.size, 2, none⟩) (by show W.heap.size < _; omega)).trans s2
            clear hoa hb HLA
            go_wp2_with fail
            refine (HLB.out _ HT1.out.two).mono ?_
            rintro e u2 ⟨vb, rfl, hob, hb⟩
            have OB := Lib.hid (Sl.of_own hob)
            have OA := Lib.hid (OA.out.below hb)
            have hzu2 := hb.size
            have HT1 := Lib.hid (HT1.out.call hb)
            have HBx := Lib.hid (HBx.out.trans (hb.mono (by omega)))
            have s0 := (hb.cell (p := ⟨W.heap.size, 0, none⟩) (by show W.heap.size < _; omega)).trans s0
            have s1 := (hb.cell (p := ⟨W.heap.size, 1, none⟩) (by show W.heap.size < _; omega)).trans s1
            have s2 := (hb.cell (p := ⟨W.heap.size, 2, none⟩) (by show W.heap.size < _; omega)).trans s2
            clear hob hb HLB
            go_wp2_with fail
            refine (law11_Entries rfl OA.out OB.out).mono ?_
            rintro e u3 ⟨rfl, mq, rfl⟩
            have HT1 := Lib.hid (HT1.out.call (below_drewN (Below.refl _ _) mq))
            have HBx := Lib.hid (below_drewN HBx.out mq)
            have ha1 : atI S B (S : Int) 0 = -1 := by unfold atI; rw [if_neg (by omega)]
            have ha2 : atI S B 0 (-1) = -1 := by unfold atI; rw [if_neg (by omega)]
            have HN1 := Lib.hid fun w' (h : BkAt w' (DD p q p2 q2) p q S B n g) => HBN.out w' _ _ _ _ h _ _ ha1
            have HN2 := Lib.hid fun w' (h : BkAt w' (DD p q p2 q2) p q S B n g) => HBN.out w' _ _ _ _ h _ _ ha2
            have s0' : (u2.drewN mq).cell? ⟨W.heap.size, 0, none⟩ = some (.int .i64 (S : Nat)) := s0
            clear OA OB HBN ha1 ha2
            go_wp2_with fail
            refine (HN1.out _ HT1.out.one).mono ?_
            rintro e u4 ⟨rfl, hb⟩
            have hzu4 := hb.size
            have HT1 := Lib.hid (HT1.out.call hb)
            have HBx := Lib.hid (HBx.out.trans (hb.mono HBx.out.size))
            clear hb
            go_wp2_with fail
            refine (HN2.out _ HT1.out.one).mono ?_
            rintro e u5 ⟨rfl, hb⟩
            have HBx := Lib.hid (HBx.out.trans (hb.mono HBx.out.size))
            clear hb
            go_wp2
            go_ret
            exact ⟨by first | rfl | (simp; done), HBx.out⟩
      · have hf0 : (k : Int) < (len : Int) := by omega
        have hf : ¬ (k : Int) < 200 := by omega
        go_wp2
        clear hf hf0
        go_loopw [9] (fun i wq => ∃ j : Nat, j ≤ M ∧ i = .int .i64 j ∧ Hid (Two wq W.heap.size p q p2 q2 S B n g) ∧ W.heap.size < wq.heap.size ∧ Hid (wq.cell? ⟨W.heap.size, 0, none⟩ = some (.int .i64 (S : Nat)) ∧ wq.cell? ⟨W.heap.size, 1, none⟩ = some (.int .i64 (B : Nat)) ∧ wq.cell? ⟨W.heap.size, 2, none⟩ = some (.int .i64 (n : Nat))) ∧ Hid (Below W.heap.size W wq)) (fun i _ => M - (intOf i).toNat)
        case atStart => exact ⟨0, by omega, rfl, HT, hzx, HX, HB⟩
        case round =>
          obtain ⟨j, hj, rfl, HT', hzx', HX', HB'⟩ := hrel
          have HT := HT'
          have HB := HB'
          have HX := HX'
          have hzx := hzx'
          clear HT' HB' HX' hzx'
          obtain ⟨s0, s1, s2⟩ := HX.out
          obtain ⟨hp2, hq2, _, _, _, _, ⟨cap2, x1, x2, x3⟩, _, hrows⟩ := HT.out.two
          rw [← HM.out] at x1 x3 hrows
          unfold maxLen at x2
          have j0 : (0 : Int) ≤ (j : Int) := Int.natCast_nonneg _
          by_cases hjm : j < M
          · have j1 : (j : Int) < (M : Int) := by omega
            obtain ⟨v0, hv0, hrow⟩ := hrows j hjm
            have HROW := Lib.hid hrow.row
            have hdm := at_div (S := S) (B := B) (i := j) hB1 (by rw [← HM.out]; exact hjm)
            obtain ⟨hd1, hd2, _⟩ := hdm
            have HB1' := Lib.hid fun w (h : BkAt w (DD p q p2 q2) p q S B n g) => HBU.out w _ p q g h j (by rw [← HM.out]; exact hjm)
            have hdx : j / B ≤ 128 := Nat.le_trans (Nat.div_le_self j B) (Nat.le_trans (Nat.le_of_lt hjm) hMB)
            have hdy : j % B ≤ 128 := Nat.le_trans (Nat.mod_le j B) (Nat.le_trans (Nat.le_of_lt hjm) hMB)
            generalize hfj : g j = fj at *
            generalize j / B = dx at *
            generalize j % B = dy at *
            obtain ⟨w1', w2'⟩ := wrap_ok (x := (dx : Int)) rfl (Nat.lt_of_le_of_lt hdx (by decide))
            obtain ⟨w3', w4'⟩ := wrap_ok (x := (dy : Int)) rfl (Nat.lt_of_le_of_lt hdy (by decide))
            obtain ⟨hBn0, hB0, hB00⟩ := pos_word hB1
            clear HBU hrow hrows hfj
            go_wp2_with fail
            refine wp_region_held_drew (S := fun w' => w'.cell? ⟨W.heap.size, 1, none⟩ = some (.int .i64 (B : Nat)) ∧ w'.cell? ⟨p2, 3, none⟩ = some (.slice (some ⟨q2, 0, none⟩) M cap2) ∧ w'.cell? ⟨q2, j, none⟩ = some v0) (by kernel_rfl) ?_ (fun hHeld => ?_)
            · exact ⟨s1, x3, hv0⟩
            refine wpAnyH_take (i := 0) (oi := { dst := some 69, op := Go.Op.move (Go.Operand.tmp 5), type := 82, pos := "law.go:120", after := #[], guard := none }) (v := ?_) rfl (by kernel_rfl) (by kernel_rfl) (by kernel_rfl) (fun _ _ _ h => h) (Or.inl ⟨by rfl, ?_⟩) (by assumption) ?_
            rotate_left
            · intro w hSw
              (try dsimp only at hSw)
              go_simp
              try with_reducible rfl
            (try simp only [Act.put, List.setIfInBounds_toArray, List.set_cons_zero, List.set_cons_succ])
            refine wpAnyH_take (i := 1) (oi := { dst := some 70, op := Go.Op.move (Go.Operand.tmp 9), type := 3, pos := "law.go:120", after := #[], guard := none }) (v := ?_) rfl (by kernel_rfl) (by kernel_rfl) (by kernel_rfl) (fun _ _ _ h => h) (Or.inl ⟨by rfl, ?_⟩) (by assumption) ?_
            rotate_left
            · intro w hSw
              (try dsimp only at hSw)
              go_simp
              try with_reducible rfl
            (try simp only [Act.put, List.setIfInBounds_toArray, List.set_cons_zero, List.set_cons_succ])
            refine wpAnyH_take (i := 2) (oi := { dst := some 71, op := Go.Op.fieldAddr 79 (Go.Operand.tmp 2) 1, type := 0, pos := "law.go:120", after := #[], guard := none }) (v := ?_) rfl (by kernel_rfl) (by kernel_rfl) (by kernel_rfl) (fun _ _ _ h => h) (Or.inl ⟨by rfl, ?_⟩) (by assumption) ?_
            rotate_left
            · intro w hSw
              (try dsimp only at hSw)
              go_simp
              try with_reducible rfl
            (try simp only [Act.put, List.setIfInBounds_toArray, List.set_cons_zero, List.set_cons_succ])
            refine wpAnyH_take (i := 3) (oi := { dst := some 72, op := Go.Op.load 3 (Go.Operand.tmp 71), type := 3, pos := "law.go:120", after := #[{ on := 2, ground := Go.Ground.data }], guard := none }) (v := ?_) rfl (by kernel_rfl) (by kernel_rfl) (by kernel_rfl) (fun _ _ _ h => h) (Or.inl ⟨by rfl, ?_⟩) (by assumption) ?_
            rotate_left
            · intro w hSw
              (try dsimp only at hSw)
              go_simp
              try with_reducible rfl
            (try simp only [Act.put, List.setIfInBounds_toArray, List.set_cons_zero, List.set_cons_succ])
            refine wpAnyH_take (i := 4) (oi := { dst := some 73, op := Go.Op.binOp Go.BinOp.quo 3 (Go.Operand.tmp 70) (Go.Operand.tmp 72) 3, type := 3, pos := "law.go:120", after := #[{ on := 1, ground := Go.Ground.data }, { on := 3, ground := Go.Ground.data }], guard := none }) (v := ?_) rfl (by kernel_rfl) (by kernel_rfl) (by kernel_rfl) (fun _ _ _ h => h) (Or.inl ⟨by rfl, ?_⟩) (by assumption) ?_
            rotate_left
            · intro w hSw
              (try dsimp only at hSw)
              go_simp
              try with_reducible rfl
            (try simp only [Act.put, List.setIfInBounds_toArray, List.set_cons_zero, List.set_cons_succ])
            refine wpAnyH_take (i := 5) (oi := { dst := some 74, op := Go.Op.move (Go.Operand.tmp 9), type := 3, pos := "law.go:120", after := #[], guard := none }) (v := ?_) rfl (by kernel_rfl) (by kernel_rfl) (by kernel_rfl) (fun _ _ _ h => h) (Or.inl ⟨by rfl, ?_⟩) (by assumption) ?_
            rotate_left
            · intro w hSw
              (try dsimp only at hSw)
              go_simp
              try with_reducible rfl
            (try simp only [Act.put, List.setIfInBounds_toArray, List.set_cons_zero, List.set_cons_succ])
            refine wpAnyH_take (i := 6) (oi := { dst := some 75, op := Go.Op.fieldAddr 79 (Go.Operand.tmp 2) 1, type := 0, pos := "law.go:120", after := #[], guard := none }) (v := ?_) rfl (by kernel_rfl) (by kernel_rfl) (by kernel_rfl) (fun _ _ _ h => h) (Or.inl ⟨by rfl, ?_⟩) (by assumption) ?_
            rotate_left
            · intro w hSw
              (try dsimp only at hSw)
              go_simp
              try with_reducible rfl
            (try simp only [Act.put, List.setIfInBounds_toArray, List.set_cons_zero, List.set_cons_succ])
            refine wpAnyH_take (i := 7) (oi := { dst := some 76, op := Go.Op.load 3 (Go.Operand.tmp 75), type := 3, pos := "law.go:120", after := #[{ on := 6, ground := Go.Ground.data }], guard := none }) (v := ?_) rfl (by kernel_rfl) (by kernel_rfl) (by kernel_rfl) (fun _ _ _ h => h) (Or.inl ⟨by rfl, ?_⟩) (by assumption) ?_
            rotate_left
            · intro w hSw
              (try dsimp only at hSw)
              go_simp
              try with_reducible rfl
            (try simp only [Act.put, List.setIfInBounds_toArray, List.set_cons_zero, List.set_cons_succ])
            refine wpAnyH_take (i := 8) (oi := { dst := some 77, op := Go.Op.binOp Go.BinOp.rem 3 (Go.Operand.tmp 74) (Go.Operand.tmp 76) 3, type := 3, pos := "law.go:120", after := #[{ on := 5, ground := Go.Ground.data }, { on := 7, ground := Go.Ground.data }], guard := none }) (v := ?_) rfl (by kernel_rfl) (by kernel_rfl) (by kernel_rfl) (fun _ _ _ h => h) (Or.inl ⟨by rfl, ?_⟩) (by assumption) ?_
            rotate_left
            · intro w hSw
              (try dsimp only at hSw)
              go_simp
              try with_reducible rfl
            (try simp only [Act.put, List.setIfInBounds_toArray, List.set_cons_zero, List.set_cons_succ])
            refine wpAnyH_take (i := 11) (oi := { dst := some 80, op := Go.Op.move (Go.Operand.tmp 7), type := 88, pos := "law.go:120", after := #[], guard := none }) (v := ?_) rfl (by kernel_rfl) (by kernel_rfl) (by kernel_rfl) (fun _ _ _ h => h) (Or.inl ⟨by rfl, ?_⟩) (by assumption) ?_
            rotate_left
            · intro w hSw
              (try dsimp only at hSw)
              go_simp
              try with_reducible rfl
            (try simp only [Act.put, List.setIfInBounds_toArray, List.set_cons_zero, List.set_cons_succ])
            refine wpAnyH_take (i := 12) (oi := { dst := some 81, op := Go.Op.nilCheck (Go.Operand.tmp 80), type := 0, pos := "law.go:120", after := #[{ on := 11, ground := Go.Ground.data }], guard := none }) (v := ?_) rfl (by kernel_rfl) (by kernel_rfl) (by kernel_rfl) (fun _ _ _ h => h) (Or.inl ⟨by rfl, ?_⟩) (by assumption) ?_
            rotate_left
            · intro w hSw
              (try dsimp only at hSw)
              go_simp
              try with_reducible rfl
            (try simp only [Act.put, List.setIfInBounds_toArray, List.set_cons_zero, List.set_cons_succ])
            refine wpAnyH_take (i := 13) (oi := { dst := some 82, op := Go.Op.fieldAddr 97 (Go.Operand.tmp 81) 1, type := 0, pos := "law.go:120", after := #[{ on := 12, ground := Go.Ground.data }], guard := none }) (v := ?_) rfl (by kernel_rfl) (by kernel_rfl) (by kernel_rfl) (fun _ _ _ h => h) (Or.inl ⟨by rfl, ?_⟩) (by assumption) ?_
            rotate_left
            · intro w hSw
              (try dsimp only at hSw)
              go_simp
              try with_reducible rfl
            (try simp only [Act.put, List.setIfInBounds_toArray, List.set_cons_zero, List.set_cons_succ])
            refine wpAnyH_take (i := 14) (oi := { dst := some 83, op := Go.Op.load 95 (Go.Operand.tmp 82), type := 95, pos := "law.go:120", after := #[{ on := 13, ground := Go.Ground.data }], guard := none }) (v := ?_) rfl (by kernel_rfl) (by kernel_rfl) (by kernel_rfl) (fun _ _ _ h => h) (Or.inl ⟨by rfl, ?_⟩) (by assumption) ?_
            rotate_left
            · intro w hSw
              (try dsimp only at hSw)
              go_simp
              try with_reducible rfl
            (try simp only [Act.put, List.setIfInBounds_toArray, List.set_cons_zero, List.set_cons_succ])
            refine wpAnyH_take (i := 15) (oi := { dst := some 84, op := Go.Op.move (Go.Operand.tmp 9), type := 3, pos := "law.go:120", after := #[], guard := none }) (v := ?_) rfl (by kernel_rfl) (by kernel_rfl) (by kernel_rfl) (fun _ _ _ h => h) (Or.inl ⟨by rfl, ?_⟩) (by assumption) ?_
            rotate_left
            · intro w hSw
              (try dsimp only at hSw)
              go_simp
              try with_reducible rfl
            (try simp only [Act.put, List.setIfInBounds_toArray, List.set_cons_zero, List.set_cons_succ])
            refine wpAnyH_take (i := 16) (oi := { dst := some 85, op := Go.Op.indexAddr 95 (Go.Operand.tmp 83) (Go.Operand.tmp 84), type := 0, pos := "law.go:120", after := #[{ on := 14, ground := Go.Ground.data }, { on := 15, ground := Go.Ground.data }], guard := none }) (v := ?_) rfl (by kernel_rfl) (by kernel_rfl) (by kernel_rfl) (fun _ _ _ h => h) (Or.inl ⟨by rfl, ?_⟩) (by assumption) ?_
            rotate_left
            · intro w hSw
              (try dsimp only at hSw)
              go_simp
              try with_reducible rfl
            (try simp only [Act.put, List.setIfInBounds_toArray, List.set_cons_zero, List.set_cons_succ])
            refine wpAnyH_take (i := 17) (oi := { dst := some 86, op := Go.Op.load 22 (Go.Operand.tmp 85), type := 22, pos := "law.go:120", after := #[{ on := 16, ground := Go.Ground.data }], guard := none }) (v := ?_) rfl (by kernel_rfl) (by kernel_rfl) (by kernel_rfl) (fun _ _ _ h => h) (Or.inl ⟨by rfl, ?_⟩) (by assumption) ?_
            rotate_left
            · intro w hSw
              (try dsimp only at hSw)
              go_simp
              try with_reducible rfl
            (try simp only [Act.put, List.setIfInBounds_toArray, List.set_cons_zero, List.set_cons_succ])
            refine wpAnyH_ready (rs := [9]) (by kernel_rfl) (by simp) ?_
            refine AllReadyH.cons (o := { dst := some 78, op := Go.Op.call { callee := Go.Callee.value (Go.Operand.func 43), args := #[Go.Operand.tmp 69, Go.Operand.tmp 73, Go.Operand.tmp 77], argTypes := #[82, 3, 3] }, type := 30, pos := "law.go:120", after := #[{ on := 0, ground := Go.Ground.data }, { on := 4, ground := Go.Ground.data }, { on := 8, ground := Go.Ground.data }], guard := none }) rfl (fun K hK => ?_) AllReadyH.nil
            go_simp
            refine Calls.mono (HB1'.out _ (HT.out.one.call ((Below.refl _ _).drew))) ?_
            intro e u1 hpost
            obtain ⟨va, he, hra, hb'⟩ := hpost
            (try simp only [id] at he)
            subst he
            have hb : Below wr.heap.size wr u1 := ((Below.refl wr.heap.size wr).drew).trans hb'
            have R1 := Lib.hid hra
            have hzu := hb.size
            have HT1 := Lib.hid (HT.out.call hb)
            have HBx := Lib.hid (HB.out.trans (hb.mono (by omega)))
            have HRW1 : Hid (PlRow u1 u1.heap.size v0 n fj) := (HROW.out.below hb).up (by omega)
            have s0 := (hb.cell (p := ⟨W.heap.size, 0, none⟩) (by show W.heap.size < _; omega)).trans s0
            have s1 := (hb.cell (p := ⟨W.heap.size, 1, none⟩) (by show W.heap.size < _; omega)).trans s1
            have s2 := (hb.cell (p := ⟨W.heap.size, 2, none⟩) (by show W.heap.size < _; omega)).trans s2

            refine hK.out _ _ ?_ (fun hHeld => ?_)
            · (try dsimp only)
              exact ⟨(hb.cell (p := ⟨W.heap.size, 1, none⟩) (by show W.heap.size < _; omega)).trans hHeld.1, (hb.cell (p := ⟨p2, 3, none⟩) (by show p2 < _; omega)).trans hHeld.2.1, (hb.cell (p := ⟨q2, j, none⟩) (by show q2 < _; omega)).trans hHeld.2.2⟩
            clear hK K
            (try simp only [Act.put, List.setIfInBounds_toArray, List.set_cons_zero, List.set_cons_succ])
            refine wpAnyH_ready (rs := [10]) (by kernel_rfl) (by simp) ?_
            refine AllReadyH.cons (o := { dst := some 79, op := Go.Op.call { callee := Go.Callee.value (Go.Operand.func 21), args := #[Go.Operand.tmp 78], argTypes := #[30] }, type := 22, pos := "law.go:120", after := #[{ on := 9, ground := Go.Ground.data }, { on := 9, ground := Go.Ground.chain }], guard := none }) rfl (fun K hK => ?_) AllReadyH.nil
            go_simp
            refine Calls.mono (HFR.out _ _ _ R1.out.row) ?_
            intro e u2 hpost
            obtain ⟨vb, he, hrb, hb⟩ := hpost
            (try simp only [id] at he)
            subst he
            have R2 := Lib.hid hrb
            have hzu2 := hb.size
            have HT1 := Lib.hid (HT1.out.call hb)
            have HBx := Lib.hid (HBx.out.trans (hb.mono (by omega)))
            have HRW2 : Hid (PlRow u2 u2.heap.size v0 n fj) := (HRW1.out.below hb).up (by omega)
            have s0 := (hb.cell (p := ⟨W.heap.size, 0, none⟩) (by show W.heap.size < _; omega)).trans s0
            have s1 := (hb.cell (p := ⟨W.heap.size, 1, none⟩) (by show W.heap.size < _; omega)).trans s1
            have s2 := (hb.cell (p := ⟨W.heap.size, 2, none⟩) (by show W.heap.size < _; omega)).trans s2

            refine hK.out _ _ ?_ (fun hHeld => ?_)
            · (try dsimp only)
              exact ⟨(hb.cell (p := ⟨W.heap.size, 1, none⟩) (by show W.heap.size < _; omega)).trans hHeld.1, (hb.cell (p := ⟨p2, 3, none⟩) (by show p2 < _; omega)).trans hHeld.2.1, (hb.cell (p := ⟨q2, j, none⟩) (by show q2 < _; omega)).trans hHeld.2.2⟩
            clear hK K
            (try simp only [Act.put, List.setIfInBounds_toArray, List.set_cons_zero, List.set_cons_succ])
            refine wpAnyH_ready (rs := [18]) (by kernel_rfl) (by simp) ?_
            refine AllReadyH.cons (o := { dst := some 87, op := Go.Op.call { callee := Go.Callee.value (Go.Operand.func 20), args := #[Go.Operand.tmp 79, Go.Operand.tmp 86], argTypes := #[22, 22] }, type := 4, pos := "law.go:120", after := #[{ on := 10, ground := Go.Ground.data }, { on := 17, ground := Go.Ground.data }, { on := 10, ground := Go.Ground.chain }], guard := none }) rfl (fun K hK => ?_) AllReadyH.nil
            go_simp
            refine Calls.mono (ref10_SameEq R2.out.row HRW2.out) ?_
            intro e u3 hpost
            obtain ⟨rfl, hb⟩ := hpost
            have hzu3 := hb.size
            have HT1 := Lib.hid (HT1.out.call hb)
            have HBx := Lib.hid (HBx.out.trans (hb.mono (by omega)))
            have s0 := (hb.cell (p := ⟨W.heap.size, 0, none⟩) (by show W.heap.size < _; omega)).trans s0
            have s1 := (hb.cell (p := ⟨W.heap.size, 1, none⟩) (by show W.heap.size < _; omega)).trans s1
            have s2 := (hb.cell (p := ⟨W.heap.size, 2, none⟩) (by show W.heap.size < _; omega)).trans s2

            refine hK.out _ _ ?_ (fun hHeld => ?_)
            · (try dsimp only)
              exact ⟨(hb.cell (p := ⟨W.heap.size, 1, none⟩) (by show W.heap.size < _; omega)).trans hHeld.1, (hb.cell (p := ⟨p2, 3, none⟩) (by show p2 < _; omega)).trans hHeld.2.1, (hb.cell (p := ⟨q2, j, none⟩) (by show q2 < _; omega)).trans hHeld.2.2⟩
            clear hK K
            (try simp only [Act.put, List.setIfInBounds_toArray, List.set_cons_zero, List.set_cons_succ])
            refine wpAnyH_take (i := 19) (oi := { dst := some 88, op := Go.Op.unOp Go.UnOp.not 4 (Go.Operand.tmp 87), type := 4, pos := "law.go:120", after := #[{ on := 18, ground := Go.Ground.data }], guard := none }) (v := ?_) rfl (by kernel_rfl) (by kernel_rfl) (by kernel_rfl) (fun _ _ _ h => h) (Or.inl ⟨by rfl, ?_⟩) (by assumption) ?_
            rotate_left
            · intro w hSw
              (try dsimp only at hSw)
              go_simp
              try with_reducible rfl
            (try simp only [Act.put, List.setIfInBounds_toArray, List.set_cons_zero, List.set_cons_succ])
            refine wpAnyH_done (by kernel_rfl) ?_ _
            go_wp2
            go_roundw
            case rel => exact ⟨j + 1, by omega, by go_num, HT1, by omega, ⟨s0, s1, s2⟩, HBx⟩
            case measure => simp [intOf]; omega
          · have : M = j := by omega
            subst this
            clear hrows HBU HNEW HNEWR HTOLD HTO HFR
            have hle := bookL_le g n (S * B)
            obtain ⟨LL, hLL⟩ : ∃ LL, LL = bookL g n (S * B) := ⟨_, rfl⟩
            have HLA := HLI.out _ _ _ _ _ HT.out.one
            rw [← hLL] at HLA
            have HLA := Lib.hid HLA
            have HLB := Lib.hid fun w' (h : BkAt w' (DD p q p2 q2) p2 q2 S B n g) => HLR.out _ _ _ _ _ h
            rw [← hLL] at HLB
            clear hLL hle HLI HLR
            go_wp2_with fail
            refine (HLA.out).mono ?_
            rintro e u1 ⟨va, rfl, hoa, hb⟩
            have OA := Lib.hid (Sl.of_own hoa)
            have hzu := hb.size
            have HT1 := Lib.hid (HT.out.call hb)
            have HBx := Lib.hid (HB.out.trans (hb.mono (by omega)))
            have s0 := (hb.cell (p := ⟨W.heap.size, 0, none⟩) (by show W.heap.size < _; omega)).trans s0
            have s1 := (hb.cell (p := ⟨W.heap.size, 1, none⟩) (by show W.heap.size < _; omega)).trans s1
            have s2 := (hb.cell (p := ⟨W.heap.size, 2, none⟩) (by show W.heap.size < _; omega)).trans s2
            clear hoa hb HLA
            go_wp2_with fail
            refine (HLB.out _ HT1.out.two).mono ?_
            rintro e u2 ⟨vb, rfl, hob, hb⟩
            have OB := Lib.hid (Sl.of_own hob)
            have OA := Lib.hid (OA.out.below hb)
            have hzu2 := hb.size
            have HT1 := Lib.hid (HT1.out.call hb)
            have HBx := Lib.hid (HBx.out.trans (hb.mono (by omega)))
            have s0 := (hb.cell (p := ⟨W.heap.size, 0, none⟩) (by show W.heap.size < _; omega)).trans s0
            have s1 := (hb.cell (p := ⟨W.heap.size, 1, none⟩) (by show W.heap.size < _; omega)).trans s1
            have s2 := (hb.cell (p := ⟨W.heap.size, 2, none⟩) (by show W.heap.size < _; omega)).trans s2
            clear hob hb HLB
            go_wp2_with fail
            refine (law11_Entries rfl OA.out OB.out).mono ?_
            rintro e u3 ⟨rfl, mq, rfl⟩
            have HT1 := Lib.hid (HT1.out.call (below_drewN (Below.refl _ _) mq))
            have HBx := Lib.hid (below_drewN HBx.out mq)
            have ha1 : atI S B (S : Int) 0 = -1 := by unfold atI; rw [if_neg (by omega)]
            have ha2 : atI S B 0 (-1) = -1 := by unfold atI; rw [if_neg (by omega)]
            have HN1 := Lib.hid fun w' (h : BkAt w' (DD p q p2 q2) p q S B n g) => HBN.out w' _ _ _ _ h _ _ ha1
            have HN2 := Lib.hid fun w' (h : BkAt w' (DD p q p2 q2) p q S B n g) => HBN.out w' _ _ _ _ h _ _ ha2
            have s0' : (u2.drewN mq).cell? ⟨W.heap.size, 0, none⟩ = some (.int .i64 (S : Nat)) := s0
            clear OA OB HBN ha1 ha2
            go_wp2_with fail
            refine (HN1.out _ HT1.out.one).mono ?_
            rintro e u4 ⟨rfl, hb⟩
            have hzu4 := hb.size
            have HT1 := Lib.hid (HT1.out.call hb)
            have HBx := Lib.hid (HBx.out.trans (hb.mono HBx.out.size))
            clear hb
            go_wp2_with fail
            refine (HN2.out _ HT1.out.one).mono ?_
            rintro e u5 ⟨rfl, hb⟩
            have HBx := Lib.hid (HBx.out.trans (hb.mono HBx.out.size))
            clear hb
            go_wp2
            go_ret
            exact ⟨by first | rfl | (simp; done), HBx.out⟩

set_option maxRecDepth 100000 in
/-- What the walk gives, for every argument: the row's own words. -/
theorem contract (H : Type) (enc : TypeId × Value → H) (W : World) (base : Nat) (args : Array Value) (ds gs : List (DataW H)) (before : List MemPlace)
    (hval : ∀ (j : Nat) t v, Try.f9.params[j]? = some t → args[j]? = some v → Value.okWide Try.prog W .any base t v)
    (hW : DataW.Whole enc Try.prog Try.f9.params.toList Rows.bookActsSpec.vars false W args.toList ds gs before) :
    Calls Try.prog 9 args W fun e W' => ∃ v, e = .returned v ∧ Rows.bookActsSpec.post enc Try.prog Try.f9 false true false false W args v W' := by
  have hW' := hW
  obtain ⟨p, q, hA0, hV, rfl, hfz, hnd⟩ := hW
  have hA : DataW.TrodAll enc Try.prog W 0 (fun _ => true) true Try.f9.params.toList args.toList ds p := hA0
  rw [Try.params9] at hA hval
  obtain ⟨v0, vs0, d0, ds0, p0, q0, hargs, rfl, rfl, h0, r0⟩ := trodAll_cons hA
  obtain ⟨v1, vs1, d1, ds1, p1, q1, rfl, rfl, rfl, h1, r1⟩ := trodAll_cons r0
  obtain ⟨rfl, rfl, rfl⟩ := trodAll_nil r1
  obtain rfl : args = #[v0, v1] := by cases args; simp_all
  obtain ⟨a0, e0, c0, rfl⟩ := open_size Try.underlying79 (t0 := 3) (t1 := 3) (t2 := 3) (by kernel_rfl) (by kernel_rfl) (by kernel_rfl) (by kernel_rfl) (by kernel_rfl) (hval 0 79 v0 rfl rfl) h0
  have b1 := open_ops11 Try.underlying80 (t0 := 3) (t1 := 3) (t2 := 23) (t3 := 3) (t4 := 3) (t5 := 26) (t6 := 26) (by kernel_rfl) (by kernel_rfl) (by kernel_rfl) (by kernel_rfl) (by kernel_rfl) (by kernel_rfl) (by kernel_rfl) (by kernel_rfl) (by kernel_rfl) (hval 1 80 v1 rfl rfl) h1
  refine (walk W a0 e0 c0 v1 b1).mono fun e W' ⟨he, hb⟩ => ?_
  subst he
  exact close_true (by kernel_rfl) Try.underlying4 (by kernel_rfl) (by kernel_rfl) rfl rfl hW' hb

set_option maxRecDepth 100000 in
theorem lifted (os : Os) (started : os.Started) (H : Type) (enc : TypeId × Value → H) :
    ReturnsInHanded {} Try.checked os 9 .any (Rows.bookActsSpec.pre6 enc Try.prog Try.f9 Rows.bookActsRow.domain false) (Rows.bookActsSpec.post enc Try.prog Try.f9 false true false false) := by
  refine returnsInHanded_of_change (C := Try.checked) own started (by kernel_rfl) Try.func9
    (ChangeSpec.witness6 (enc := enc) (C := Try.checked) false ⟨#[], #[.agg #[.int .i64 0, .int .i64 0, .int .i64 0], .slice none 0 0], []⟩ 8 (by kernel_rfl) (by kernel_rfl) (by kernel_rfl) (by kernel_rfl)) ?_
  intro W base args ds gs before hval hW _ _
  exact contract H enc W base args ds gs before hval hW

theorem proved : Rows.BookActsSaid :=
  OpenClaim.holds_of_wide 9 Try.f9 rfl rfl rfl rfl rfl rfl rfl ⟨rfl, rfl, rfl, rfl, rfl⟩ rfl rfl rfl rfl rfl (by kernel_rfl) Try.func9 (by kernel_rfl)
    (of_decide_eq_true (by kernel_rfl)) (by unfold Func.isWrapper; first | (rw [if_pos (by decide +kernel)]; kernel_rfl) | (rw [if_neg (by decide +kernel)]; exact ⟨rfl, rfl⟩))
    (fun os started H enc _ => lifted os started H enc)
#print axioms proved
end Go.Proofs.Ytccnfcjaehcfkaa.bookActs
