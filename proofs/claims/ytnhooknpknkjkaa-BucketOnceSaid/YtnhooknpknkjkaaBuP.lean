/-
  What layer 10 tells first of all. No statement is proved here.
-/
import Derived.Test.YtnhooknpknkjkaaBuI
import Derived.Test.YtnhooknpknkjkaaBuN
import Derived.Test.YtnhooknpknkjkaaBuH
set_option linter.unusedVariables false
namespace Go.Proofs.Ytnhooknpknkjkaa
open Go.RowKit

def p0 : Nat → Pl := fun _ => pl0
def p1 : Nat → Pl := fun _ => ⟨true, ⟨1, 2, 1, false, 5⟩⟩
def p2 : Nat → Pl := fun _ => ⟨true, ⟨1, 2, 2, false, 6⟩⟩
def p3 : Nat → Pl := fun _ => ⟨true, ⟨1, 4, 2, false, 9⟩⟩
theorem u1 : (putF (fun i => ownP (p0 i)) ⟨1, 2, 1, false, 5⟩ 5 1).2 = 3 := by decide +kernel
theorem u2 : (putF (fun i => ownP (p1 i)) ⟨1, 2, 2, false, 6⟩ 6 1).2 = 2 := by decide +kernel
theorem u3 : (putF (fun i => ownP (p2 i)) ⟨1, 4, 2, false, 9⟩ 9 1).2 = 4 := by decide +kernel
theorem v1 : ∀ i, i < 1 → (putF (fun i => ownP (p0 i)) ⟨1, 2, 1, false, 5⟩ 5 1).1 i = p1 i := by
  intro i hi
  obtain rfl : i = 0 := by omega
  decide +kernel
theorem v2 : ∀ i, i < 1 → (putF (fun i => ownP (p1 i)) ⟨1, 2, 2, false, 6⟩ 6 1).1 i = p2 i := by
  intro i hi
  obtain rfl : i = 0 := by omega
  decide +kernel
theorem v3 : ∀ i, i < 1 → (putF (fun i => ownP (p2 i)) ⟨1, 4, 2, false, 9⟩ 9 1).1 i = p3 i := by
  intro i hi
  obtain rfl : i = 0 := by omega
  decide +kernel
theorem v4 : findF p3 1 2 1 = -1 := by decide +kernel

set_option maxHeartbeats 3200000 in
theorem told10 (w : World) : Calls Try.prog 14 #[] w (Says (.bool true) w) := by
  have HA := Lib.hid fun W => law8_To 1 2 W
  have HBB := Lib.hid fun W => law8_To 1 4 W
  have hmk : ∀ W, (Instr.makeSlice 30 (.int .i64 1) (.int .i64 1)).run Try.prog W = .ok (.slice (some ⟨W.heap.size, 0, none⟩) 1 1) (W.alloc (.cells (mkC (.agg #[.bool false, .int .i64 0, .int .u64 0, .int .i64 0, .bool false, .int .u32 0]) 6 1) 67)) := fun W => run_mkFull (P := Try.prog) W stPlaces 1 (by omega)
  go_enter Try.func14, Try.ntmps14
  go_wp2_with fail
  refine (HA.out _).mono ?_
  rintro e w1 ⟨rfl, hb1⟩
  go_wp2_with fail
  refine (HBB.out _).mono ?_
  rintro e w2 ⟨rfl, hb2⟩
  have hB2 := hb1.trans (hb2.mono hb1.size)
  go_wp2_with fail
  obtain ⟨w3, hw3⟩ : ∃ w3, w3 = (w2.alloc (.cells #[.int .i64 1, .int .u64 2] 36)).alloc (.cells #[.int .i64 1, .int .u64 4] 36) := ⟨_, rfl⟩
  rw [← hw3]
  have a0 : w3.cell? ⟨w2.heap.size, 0, none⟩ = some (.int .i64 1) := by rw [hw3]; simp [go_sem]
  have a1 : w3.cell? ⟨w2.heap.size, 1, none⟩ = some (.int .u64 2) := by rw [hw3]; simp [go_sem]
  have b0 : w3.cell? ⟨w2.heap.size + 1, 0, none⟩ = some (.int .i64 1) := by rw [hw3]; simp [go_sem]
  have b1 : w3.cell? ⟨w2.heap.size + 1, 1, none⟩ = some (.int .u64 4) := by rw [hw3]; simp [go_sem]
  have hz3 : w2.heap.size + 2 ≤ w3.heap.size := by rw [hw3]; simp
  have hz2 := hB2.size
  have HB3 : Hid (Below w.heap.size w w3) := by rw [hw3]; exact (hB2.alloc hz2 _).alloc (by simp; omega) _
  have HP0 : Hid (PlRow (w3.alloc (.cells (mkC (.agg #[.bool false, .int .i64 0, .int .u64 0, .int .i64 0, .bool false, .int .u32 0]) 6 1) 67)).drew (w3.heap.size + 1) (.slice (some ⟨w3.heap.size, 0, none⟩) 1 1) 1 p0) := by
    have h : RowOf (w3.alloc (.cells (mkC (.agg #[.bool false, .int .i64 0, .int .u64 0, .int .i64 0, .bool false, .int .u32 0]) 6 1) 67)) 67 0 (.slice (some ⟨w3.heap.size, 0, none⟩) 1 1) 1 p0 := ⟨_, 1, rfl, Nat.le_refl _, by simp [maxLen], fun _ => ⟨w3.heap.size, _, rfl, Nat.zero_le _, rowIs_mk6, fun j hj => rfl⟩⟩
    exact (h.row.mono (by simp)).below (Below.refl _ _).drew
  clear hw3 hb1 hb2 hB2 HA HBB
  refine wp_region_held_drew (S := fun w' => w'.cell? ⟨w2.heap.size, 0, none⟩ = some (.int .i64 1) ∧ w'.cell? ⟨w2.heap.size, 1, none⟩ = some (.int .u64 2) ∧ w'.cell? ⟨w2.heap.size + 1, 0, none⟩ = some (.int .i64 1) ∧ w'.cell? ⟨w2.heap.size + 1, 1, none⟩ = some (.int .u64 4)) (by kernel_rfl) ?_ (fun hHeld => ?_)
  · exact ⟨a0, a1, b0, b1⟩
  refine wpAnyH_take (i := 1) (oi := { dst := some 13, op := Go.Op.load 36 (Go.Operand.tmp 1), type := 36, pos := "law.go:35", after := #[], guard := none }) (v := ?_) rfl (by kernel_rfl) (by kernel_rfl) (by kernel_rfl) (fun _ _ _ h => h) (Or.inl ⟨by rfl, ?_⟩) (by assumption) ?_
  rotate_left
  · intro w hSw
    (try dsimp only at hSw)
    go_simp
    try with_reducible rfl
  (try simp only [Act.put, List.setIfInBounds_toArray, List.set_cons_zero, List.set_cons_succ])
  refine wpAnyH_ready (rs := [0]) (by kernel_rfl) (by simp) ?_
  refine AllReadyH.cons (o := { dst := some 12, op := Go.Op.makeSlice 30 (Go.Operand.const (Go.Value.int Go.IntKind.i64 1)) (Go.Operand.const (Go.Value.int Go.IntKind.i64 1)), type := 30, pos := "law.go:35", after := #[], guard := none }) rfl (fun K hK => ?_) AllReadyH.nil
  go_simp

  refine hK.out _ _ ?_ (fun hHeld => ?_)
  · (try dsimp only)
    obtain ⟨a0, a1, b0, b1⟩ := hHeld
    exact ⟨(World.cell?_alloc_lt _ _ _ (by show _ < _; go_size)).trans a0, (World.cell?_alloc_lt _ _ _ (by show _ < _; go_size)).trans a1, (World.cell?_alloc_lt _ _ _ (by show _ < _; go_size)).trans b0, (World.cell?_alloc_lt _ _ _ (by show _ < _; go_size)).trans b1⟩
  clear hK K
  (try simp only [Act.put, List.setIfInBounds_toArray, List.set_cons_zero, List.set_cons_succ])
  refine wpAnyH_ready (rs := [2]) (by kernel_rfl) (by simp) ?_
  refine AllReadyH.cons (o := { dst := some 14, op := Go.Op.call { callee := Go.Callee.value (Go.Operand.func 11), args := #[Go.Operand.tmp 12, Go.Operand.tmp 13, Go.Operand.const (Go.Value.int Go.IntKind.i64 1), Go.Operand.const (Go.Value.int Go.IntKind.u32 5)], argTypes := #[30, 36, 3, 26] }, type := 32, pos := "law.go:35", after := #[{ on := 0, ground := Go.Ground.data }, { on := 1, ground := Go.Ground.data }], guard := none }) rfl (fun K hK => ?_) AllReadyH.nil
  go_simp
  refine Calls.mono (bucket_Learn (n := 1) (f := p0) (B := w3.heap.size + 1) (by omega) HP0.out (by simp) (fun i _ => by simp [p0, pl0, en0]) 1 2 (by omega) 1 5 (by omega)) ?_
  rw [u1]
  rintro e w4 ⟨y1, he, hrow, hb4⟩
  subst he
  have HR1 := Lib.hid ((hrow.base (Nat.zero_le _)).congr v1)
  have HB4 : Hid (Below w.heap.size w w4) := Below.trans ((HB3.out.alloc (by omega) _).drew) (hb4.mono (by simp; omega))
  have hz4 : w3.heap.size + 1 ≤ w4.heap.size := by have := hb4.size; simp at this; omega
  clear hrow
  refine hK.out _ _ ?_ (fun hHeld => ?_)
  · (try dsimp only)
    obtain ⟨a0, a1, b0, b1⟩ := hHeld
    obtain ⟨hcc, _⟩ := bcell hb4
    exact ⟨(hcc _ _ (by go_size)).trans a0, (hcc _ _ (by go_size)).trans a1, (hcc _ _ (by go_size)).trans b0, (hcc _ _ (by go_size)).trans b1⟩
  clear hK K
  refine wpAnyH_take (i := 3) (oi := { dst := some 11, op := Go.Op.move (Go.Operand.tmp 14), type := 32, pos := "law.go:35", after := #[{ on := 2, ground := Go.Ground.data }], guard := none }) (v := ?_) rfl (by kernel_rfl) (by kernel_rfl) (by kernel_rfl) (fun _ _ _ h => h) (Or.inl ⟨by rfl, ?_⟩) (by assumption) ?_
  rotate_left
  · intro w hSw
    (try dsimp only at hSw)
    go_simp
    try with_reducible rfl
  (try simp only [Act.put, List.setIfInBounds_toArray, List.set_cons_zero, List.set_cons_succ])
  refine wpAnyH_take (i := 4) (oi := { dst := some 15, op := Go.Op.extract (Go.Operand.tmp 11) 0, type := 30, pos := "law.go:35", after := #[{ on := 3, ground := Go.Ground.data }], guard := none }) (v := ?_) rfl (by kernel_rfl) (by kernel_rfl) (by kernel_rfl) (fun _ _ _ h => h) (Or.inl ⟨by rfl, ?_⟩) (by assumption) ?_
  rotate_left
  · intro w hSw
    (try dsimp only at hSw)
    go_simp
    try with_reducible rfl
  (try simp only [Act.put, List.setIfInBounds_toArray, List.set_cons_zero, List.set_cons_succ])
  refine wpAnyH_take (i := 5) (oi := { dst := some 16, op := Go.Op.extract (Go.Operand.tmp 11) 1, type := 3, pos := "law.go:35", after := #[{ on := 3, ground := Go.Ground.data }, { on := 6, ground := Go.Ground.gcOnly Go.Departure.lateStores }], guard := none }) (v := ?_) rfl (by kernel_rfl) (by kernel_rfl) (by kernel_rfl) (fun _ _ _ h => h) (Or.inl ⟨by rfl, ?_⟩) (by assumption) ?_
  rotate_left
  · intro w hSw
    (try dsimp only at hSw)
    go_simp
    try with_reducible rfl
  (try simp only [Act.put, List.setIfInBounds_toArray, List.set_cons_zero, List.set_cons_succ])
  refine wpAnyH_take (i := 6) (oi := { dst := some 3, op := Go.Op.assign (Go.Operand.tmp 15), type := 30, pos := "law.go:35", after := #[{ on := 4, ground := Go.Ground.data }, { on := 2, ground := Go.Ground.chain }, { on := 0, ground := Go.Ground.phase }, { on := 1, ground := Go.Ground.phase }, { on := 2, ground := Go.Ground.phase }, { on := 3, ground := Go.Ground.phase }, { on := 4, ground := Go.Ground.phase }, { on := 5, ground := Go.Ground.textOnly Go.Departure.lateStores }], guard := none }) (v := ?_) rfl (by kernel_rfl) (by kernel_rfl) (by kernel_rfl) (fun _ _ _ h => h) (Or.inl ⟨by rfl, ?_⟩) (by assumption) ?_
  rotate_left
  · intro w hSw
    (try dsimp only at hSw)
    go_simp
    try with_reducible rfl
  (try simp only [Act.put, List.setIfInBounds_toArray, List.set_cons_zero, List.set_cons_succ])
  refine wpAnyH_take (i := 7) (oi := { dst := some 4, op := Go.Op.assign (Go.Operand.tmp 16), type := 3, pos := "law.go:35", after := #[{ on := 5, ground := Go.Ground.data }, { on := 6, ground := Go.Ground.chain }, { on := 0, ground := Go.Ground.phase }, { on := 1, ground := Go.Ground.phase }, { on := 2, ground := Go.Ground.phase }, { on := 3, ground := Go.Ground.phase }, { on := 4, ground := Go.Ground.phase }, { on := 5, ground := Go.Ground.phase }, { on := 6, ground := Go.Ground.phase }], guard := none }) (v := ?_) rfl (by kernel_rfl) (by kernel_rfl) (by kernel_rfl) (fun _ _ _ h => h) (Or.inl ⟨by rfl, ?_⟩) (by assumption) ?_
  rotate_left
  · intro w hSw
    (try dsimp only at hSw)
    go_simp
    try with_reducible rfl
  (try simp only [Act.put, List.setIfInBounds_toArray, List.set_cons_zero, List.set_cons_succ])
  have hq := hHeld
  clear a0 a1 b0 b1
  obtain ⟨a0, a1, b0, b1⟩ := hq
  refine wpAnyH_done (by kernel_rfl) ?_ _
  clear hmk HP0 HB3
  go_wp2_with fail
  refine (bucket_Learn (n := 1) (f := p1) (B := w4.heap.size) (by omega) HR1.out.row (Nat.le_refl _) (fun i _ => by simp [p1]) 1 2 (by omega) 2 6 (by omega)).mono ?_
  rw [u2]
  rintro e w5 ⟨y5, he, hrow, hb5⟩
  subst he
  have HR2 := Lib.hid ((hrow.base (Nat.zero_le _)).congr v2)
  have a0 := ((bcell hb5).1 w2.heap.size 0 (by omega)).trans a0
  have a1 := ((bcell hb5).1 w2.heap.size 1 (by omega)).trans a1
  have b0 := ((bcell hb5).1 (w2.heap.size + 1) 0 (by omega)).trans b0
  have b1 := ((bcell hb5).1 (w2.heap.size + 1) 1 (by omega)).trans b1
  have HB5 : Hid (Below w.heap.size w w5) := HB4.out.trans (hb5.mono (by omega))
  have hz5 : w3.heap.size + 1 ≤ w5.heap.size := Nat.le_trans hz4 hb5.size
  clear hrow hb5
  go_wp2_with fail
  refine (bucket_Learn (n := 1) (f := p2) (B := w5.heap.size) (by omega) HR2.out.row (Nat.le_refl _) (fun i _ => by simp [p2]) 1 4 (by omega) 2 9 (by omega)).mono ?_
  rw [u3]
  rintro e w6 ⟨y6, he, hrow, hb6⟩
  subst he
  have HR3 := Lib.hid ((hrow.base (Nat.zero_le _)).congr v3)
  have a0 := ((bcell hb6).1 w2.heap.size 0 (by omega)).trans a0
  have a1 := ((bcell hb6).1 w2.heap.size 1 (by omega)).trans a1
  have b0 := ((bcell hb6).1 (w2.heap.size + 1) 0 (by omega)).trans b0
  have b1 := ((bcell hb6).1 (w2.heap.size + 1) 1 (by omega)).trans b1
  have HB6 : Hid (Below w.heap.size w w6) := HB5.out.trans (hb6.mono (by omega))
  have hz6 : w3.heap.size + 1 ≤ w6.heap.size := Nat.le_trans hz5 hb6.size
  clear hrow hb6
  obtain ⟨gb, cap, hv, k1, k2, k3, k4, k5, k6, k7⟩ := HR3.out.open_ (by omega)
  subst hv
  obtain ⟨_, d1', d2', d3', d4', d5'⟩ := k5 0 (by omega)
  have d1 : w6.cell? ⟨gb, 1, none⟩ = some (.int .i64 1) := d1'
  have d2 : w6.cell? ⟨gb, 2, none⟩ = some (.int .u64 4) := d2'
  have d3 : w6.cell? ⟨gb, 3, none⟩ = some (.int .i64 2) := d3'
  have d4 : w6.cell? ⟨gb, 4, none⟩ = some (.bool false) := d4'
  have d5 : w6.cell? ⟨gb, 5, none⟩ = some (.int .u32 9) := d5'
  unfold maxLen at k2
  have HF := Lib.hid fun W (h : PlRow W W.heap.size (.slice (some ⟨gb, 0, none⟩) 1 cap) 1 p3) => bucket_Find h (Nat.le_refl _) 1 2
  rw [v4] at HF
  clear d1' d2' d3' d4' d5' k3 k5 k6 k7
  go_wp2_with fail
  refine wp_region_held_drew (S := fun w' => w'.cell? ⟨w2.heap.size, 0, none⟩ = some (.int .i64 1) ∧ w'.cell? ⟨w2.heap.size, 1, none⟩ = some (.int .u64 2) ∧ w'.cell? ⟨w2.heap.size + 1, 0, none⟩ = some (.int .i64 1) ∧ w'.cell? ⟨w2.heap.size + 1, 1, none⟩ = some (.int .u64 4) ∧ w'.cell? ⟨gb, 1, none⟩ = some (.int .i64 1) ∧ w'.cell? ⟨gb, 2, none⟩ = some (.int .u64 4) ∧ w'.cell? ⟨gb, 3, none⟩ = some (.int .i64 2) ∧ w'.cell? ⟨gb, 4, none⟩ = some (.bool false) ∧ w'.cell? ⟨gb, 5, none⟩ = some (.int .u32 9)) (by kernel_rfl) ?_ (fun hHeld => ?_)
  · exact ⟨a0, a1, b0, b1, d1, d2, d3, d4, d5⟩
  refine wpAnyH_take (i := 0) (oi := { dst := some 29, op := Go.Op.move (Go.Operand.tmp 4), type := 3, pos := "law.go:38", after := #[], guard := none }) (v := ?_) rfl (by kernel_rfl) (by kernel_rfl) (by kernel_rfl) (fun _ _ _ h => h) (Or.inl ⟨by rfl, ?_⟩) (by assumption) ?_
  rotate_left
  · intro w hSw
    (try dsimp only at hSw)
    go_simp
    try with_reducible rfl
  (try simp only [Act.put, List.setIfInBounds_toArray, List.set_cons_zero, List.set_cons_succ])
  refine wpAnyH_take (i := 1) (oi := { dst := some 30, op := Go.Op.binOp Go.BinOp.eql 3 (Go.Operand.tmp 29) (Go.Operand.const (Go.Value.int Go.IntKind.i64 3)) 3, type := 4, pos := "law.go:38", after := #[{ on := 0, ground := Go.Ground.data }], guard := none }) (v := ?_) rfl (by kernel_rfl) (by kernel_rfl) (by kernel_rfl) (fun _ _ _ h => h) (Or.inl ⟨by rfl, ?_⟩) (by assumption) ?_
  rotate_left
  · intro w hSw
    (try dsimp only at hSw)
    go_simp
    try with_reducible rfl
  (try simp only [Act.put, List.setIfInBounds_toArray, List.set_cons_zero, List.set_cons_succ])
  refine wpAnyH_take (i := 2) (oi := { dst := some 31, op := Go.Op.move (Go.Operand.tmp 30), type := 4, pos := "law.go:38", after := #[{ on := 1, ground := Go.Ground.data }], guard := none }) (v := ?_) rfl (by kernel_rfl) (by kernel_rfl) (by kernel_rfl) (fun _ _ _ h => h) (Or.inl ⟨by rfl, ?_⟩) (by assumption) ?_
  rotate_left
  · intro w hSw
    (try dsimp only at hSw)
    go_simp
    try with_reducible rfl
  (try simp only [Act.put, List.setIfInBounds_toArray, List.set_cons_zero, List.set_cons_succ])
  refine wpAnyH_take (i := 3) (oi := { dst := some 32, op := Go.Op.move (Go.Operand.tmp 5), type := 3, pos := "law.go:38", after := #[{ on := 2, ground := Go.Ground.guard }], guard := some (2, true) }) (v := ?_) rfl (by kernel_rfl) (by kernel_rfl) (by kernel_rfl) (fun _ _ _ h => h) (Or.inl ⟨by rfl, ?_⟩) (by assumption) ?_
  rotate_left
  · intro w hSw
    (try dsimp only at hSw)
    go_simp
    try with_reducible rfl
  (try simp only [Act.put, List.setIfInBounds_toArray, List.set_cons_zero, List.set_cons_succ])
  refine wpAnyH_take (i := 4) (oi := { dst := some 33, op := Go.Op.binOp Go.BinOp.eql 3 (Go.Operand.tmp 32) (Go.Operand.const (Go.Value.int Go.IntKind.i64 2)) 3, type := 4, pos := "law.go:38", after := #[{ on := 3, ground := Go.Ground.data }, { on := 2, ground := Go.Ground.guard }], guard := some (2, true) }) (v := ?_) rfl (by kernel_rfl) (by kernel_rfl) (by kernel_rfl) (fun _ _ _ h => h) (Or.inl ⟨by rfl, ?_⟩) (by assumption) ?_
  rotate_left
  · intro w hSw
    (try dsimp only at hSw)
    go_simp
    try with_reducible rfl
  (try simp only [Act.put, List.setIfInBounds_toArray, List.set_cons_zero, List.set_cons_succ])
  refine wpAnyH_take (i := 5) (oi := { dst := some 34, op := Go.Op.pick (Go.Operand.tmp 31) (Go.Operand.tmp 33) (Go.Operand.const (Go.Value.bool false)), type := 4, pos := "law.go:38", after := #[{ on := 2, ground := Go.Ground.data }, { on := 4, ground := Go.Ground.data }], guard := none }) (v := ?_) rfl (by kernel_rfl) (by kernel_rfl) (by kernel_rfl) (fun _ _ _ h => h) (Or.inl ⟨by rfl, ?_⟩) (by assumption) ?_
  rotate_left
  · intro w hSw
    (try dsimp only at hSw)
    go_simp
    try with_reducible rfl
  (try simp only [Act.put, List.setIfInBounds_toArray, List.set_cons_zero, List.set_cons_succ])
  refine wpAnyH_take (i := 6) (oi := { dst := some 35, op := Go.Op.move (Go.Operand.tmp 34), type := 4, pos := "law.go:38", after := #[{ on := 5, ground := Go.Ground.data }, { on := 2, ground := Go.Ground.chain }], guard := none }) (v := ?_) rfl (by kernel_rfl) (by kernel_rfl) (by kernel_rfl) (fun _ _ _ h => h) (Or.inl ⟨by rfl, ?_⟩) (by assumption) ?_
  rotate_left
  · intro w hSw
    (try dsimp only at hSw)
    go_simp
    try with_reducible rfl
  (try simp only [Act.put, List.setIfInBounds_toArray, List.set_cons_zero, List.set_cons_succ])
  refine wpAnyH_take (i := 7) (oi := { dst := some 36, op := Go.Op.move (Go.Operand.tmp 6), type := 3, pos := "law.go:38", after := #[{ on := 6, ground := Go.Ground.guard }], guard := some (6, true) }) (v := ?_) rfl (by kernel_rfl) (by kernel_rfl) (by kernel_rfl) (fun _ _ _ h => h) (Or.inl ⟨by rfl, ?_⟩) (by assumption) ?_
  rotate_left
  · intro w hSw
    (try dsimp only at hSw)
    go_simp
    try with_reducible rfl
  (try simp only [Act.put, List.setIfInBounds_toArray, List.set_cons_zero, List.set_cons_succ])
  refine wpAnyH_take (i := 8) (oi := { dst := some 37, op := Go.Op.binOp Go.BinOp.eql 3 (Go.Operand.tmp 36) (Go.Operand.const (Go.Value.int Go.IntKind.i64 4)) 3, type := 4, pos := "law.go:38", after := #[{ on := 7, ground := Go.Ground.data }, { on := 6, ground := Go.Ground.guard }], guard := some (6, true) }) (v := ?_) rfl (by kernel_rfl) (by kernel_rfl) (by kernel_rfl) (fun _ _ _ h => h) (Or.inl ⟨by rfl, ?_⟩) (by assumption) ?_
  rotate_left
  · intro w hSw
    (try dsimp only at hSw)
    go_simp
    try with_reducible rfl
  (try simp only [Act.put, List.setIfInBounds_toArray, List.set_cons_zero, List.set_cons_succ])
  refine wpAnyH_take (i := 9) (oi := { dst := some 38, op := Go.Op.pick (Go.Operand.tmp 35) (Go.Operand.tmp 37) (Go.Operand.const (Go.Value.bool false)), type := 4, pos := "law.go:38", after := #[{ on := 6, ground := Go.Ground.data }, { on := 8, ground := Go.Ground.data }], guard := none }) (v := ?_) rfl (by kernel_rfl) (by kernel_rfl) (by kernel_rfl) (fun _ _ _ h => h) (Or.inl ⟨by rfl, ?_⟩) (by assumption) ?_
  rotate_left
  · intro w hSw
    (try dsimp only at hSw)
    go_simp
    try with_reducible rfl
  (try simp only [Act.put, List.setIfInBounds_toArray, List.set_cons_zero, List.set_cons_succ])
  refine wpAnyH_take (i := 10) (oi := { dst := some 39, op := Go.Op.move (Go.Operand.tmp 38), type := 4, pos := "law.go:38", after := #[{ on := 9, ground := Go.Ground.data }, { on := 6, ground := Go.Ground.chain }], guard := none }) (v := ?_) rfl (by kernel_rfl) (by kernel_rfl) (by kernel_rfl) (fun _ _ _ h => h) (Or.inl ⟨by rfl, ?_⟩) (by assumption) ?_
  rotate_left
  · intro w hSw
    (try dsimp only at hSw)
    go_simp
    try with_reducible rfl
  (try simp only [Act.put, List.setIfInBounds_toArray, List.set_cons_zero, List.set_cons_succ])
  refine wpAnyH_take (i := 11) (oi := { dst := some 40, op := Go.Op.move (Go.Operand.tmp 3), type := 30, pos := "law.go:38", after := #[{ on := 10, ground := Go.Ground.guard }], guard := some (10, true) }) (v := ?_) rfl (by kernel_rfl) (by kernel_rfl) (by kernel_rfl) (fun _ _ _ h => h) (Or.inl ⟨by rfl, ?_⟩) (by assumption) ?_
  rotate_left
  · intro w hSw
    (try dsimp only at hSw)
    go_simp
    try with_reducible rfl
  (try simp only [Act.put, List.setIfInBounds_toArray, List.set_cons_zero, List.set_cons_succ])
  refine wpAnyH_take (i := 12) (oi := { dst := some 41, op := Go.Op.call { callee := Go.Callee.builtin Go.Builtin.len, args := #[Go.Operand.tmp 40], argTypes := #[30] }, type := 3, pos := "law.go:38", after := #[{ on := 11, ground := Go.Ground.data }, { on := 10, ground := Go.Ground.guard }], guard := some (10, true) }) (v := ?_) rfl (by kernel_rfl) (by kernel_rfl) (by kernel_rfl) (fun _ _ _ h => h) (Or.inl ⟨by rfl, ?_⟩) (by assumption) ?_
  rotate_left
  · intro w hSw
    (try dsimp only at hSw)
    go_simp
    try with_reducible rfl
  (try simp only [Act.put, List.setIfInBounds_toArray, List.set_cons_zero, List.set_cons_succ])
  refine wpAnyH_take (i := 13) (oi := { dst := some 42, op := Go.Op.binOp Go.BinOp.eql 3 (Go.Operand.tmp 41) (Go.Operand.const (Go.Value.int Go.IntKind.i64 1)) 3, type := 4, pos := "law.go:38", after := #[{ on := 12, ground := Go.Ground.data }, { on := 10, ground := Go.Ground.guard }], guard := some (10, true) }) (v := ?_) rfl (by kernel_rfl) (by kernel_rfl) (by kernel_rfl) (fun _ _ _ h => h) (Or.inl ⟨by rfl, ?_⟩) (by assumption) ?_
  rotate_left
  · intro w hSw
    (try dsimp only at hSw)
    go_simp
    try with_reducible rfl
  (try simp only [Act.put, List.setIfInBounds_toArray, List.set_cons_zero, List.set_cons_succ])
  refine wpAnyH_take (i := 14) (oi := { dst := some 43, op := Go.Op.pick (Go.Operand.tmp 39) (Go.Operand.tmp 42) (Go.Operand.const (Go.Value.bool false)), type := 4, pos := "law.go:38", after := #[{ on := 10, ground := Go.Ground.data }, { on := 13, ground := Go.Ground.data }], guard := none }) (v := ?_) rfl (by kernel_rfl) (by kernel_rfl) (by kernel_rfl) (fun _ _ _ h => h) (Or.inl ⟨by rfl, ?_⟩) (by assumption) ?_
  rotate_left
  · intro w hSw
    (try dsimp only at hSw)
    go_simp
    try with_reducible rfl
  (try simp only [Act.put, List.setIfInBounds_toArray, List.set_cons_zero, List.set_cons_succ])
  refine wpAnyH_take (i := 15) (oi := { dst := some 44, op := Go.Op.move (Go.Operand.tmp 43), type := 4, pos := "law.go:38", after := #[{ on := 14, ground := Go.Ground.data }, { on := 10, ground := Go.Ground.chain }], guard := none }) (v := ?_) rfl (by kernel_rfl) (by kernel_rfl) (by kernel_rfl) (fun _ _ _ h => h) (Or.inl ⟨by rfl, ?_⟩) (by assumption) ?_
  rotate_left
  · intro w hSw
    (try dsimp only at hSw)
    go_simp
    try with_reducible rfl
  (try simp only [Act.put, List.setIfInBounds_toArray, List.set_cons_zero, List.set_cons_succ])
  refine wpAnyH_take (i := 16) (oi := { dst := some 45, op := Go.Op.move (Go.Operand.tmp 3), type := 30, pos := "law.go:38", after := #[{ on := 15, ground := Go.Ground.guard }], guard := some (15, true) }) (v := ?_) rfl (by kernel_rfl) (by kernel_rfl) (by kernel_rfl) (fun _ _ _ h => h) (Or.inl ⟨by rfl, ?_⟩) (by assumption) ?_
  rotate_left
  · intro w hSw
    (try dsimp only at hSw)
    go_simp
    try with_reducible rfl
  (try simp only [Act.put, List.setIfInBounds_toArray, List.set_cons_zero, List.set_cons_succ])
  refine wpAnyH_take (i := 17) (oi := { dst := some 46, op := Go.Op.indexAddr 30 (Go.Operand.tmp 45) (Go.Operand.const (Go.Value.int Go.IntKind.i64 0)), type := 0, pos := "law.go:38", after := #[{ on := 16, ground := Go.Ground.data }, { on := 15, ground := Go.Ground.guard }], guard := some (15, true) }) (v := ?_) rfl (by kernel_rfl) (by kernel_rfl) (by kernel_rfl) (fun _ _ _ h => h) (Or.inl ⟨by rfl, ?_⟩) (by assumption) ?_
  rotate_left
  · intro w hSw
    (try dsimp only at hSw)
    go_simp
    try with_reducible rfl
  (try simp only [Act.put, List.setIfInBounds_toArray, List.set_cons_zero, List.set_cons_succ])
  refine wpAnyH_take (i := 18) (oi := { dst := some 47, op := Go.Op.fieldAddr 67 (Go.Operand.tmp 46) 1, type := 0, pos := "law.go:38", after := #[{ on := 17, ground := Go.Ground.data }, { on := 15, ground := Go.Ground.guard }], guard := some (15, true) }) (v := ?_) rfl (by kernel_rfl) (by kernel_rfl) (by kernel_rfl) (fun _ _ _ h => h) (Or.inl ⟨by rfl, ?_⟩) (by assumption) ?_
  rotate_left
  · intro w hSw
    (try dsimp only at hSw)
    go_simp
    try with_reducible rfl
  (try simp only [Act.put, List.setIfInBounds_toArray, List.set_cons_zero, List.set_cons_succ])
  refine wpAnyH_take (i := 19) (oi := { dst := some 48, op := Go.Op.load 65 (Go.Operand.tmp 47), type := 65, pos := "law.go:38", after := #[{ on := 18, ground := Go.Ground.data }, { on := 15, ground := Go.Ground.guard }], guard := some (15, true) }) (v := ?_) rfl (by kernel_rfl) (by kernel_rfl) (by kernel_rfl) (fun _ _ _ h => h) (Or.inl ⟨by rfl, ?_⟩) (by assumption) ?_
  rotate_left
  · intro w hSw
    (try dsimp only at hSw)
    go_simp
    try with_reducible rfl
  (try simp only [Act.put, List.setIfInBounds_toArray, List.set_cons_zero, List.set_cons_succ])
  refine wpAnyH_take (i := 20) (oi := { dst := some 49, op := Go.Op.load 36 (Go.Operand.tmp 2), type := 36, pos := "law.go:38", after := #[{ on := 15, ground := Go.Ground.guard }], guard := some (15, true) }) (v := ?_) rfl (by kernel_rfl) (by kernel_rfl) (by kernel_rfl) (fun _ _ _ h => h) (Or.inl ⟨by rfl, ?_⟩) (by assumption) ?_
  rotate_left
  · intro w hSw
    (try dsimp only at hSw)
    go_simp
    try with_reducible rfl
  (try simp only [Act.put, List.setIfInBounds_toArray, List.set_cons_zero, List.set_cons_succ])
  refine wpAnyH_take (i := 21) (oi := { dst := some 50, op := Go.Op.build 65 #[(0, Go.Operand.tmp 49), (1, Go.Operand.const (Go.Value.int Go.IntKind.i64 2)), (3, Go.Operand.const (Go.Value.int Go.IntKind.u32 9))], type := 65, pos := "law.go:38", after := #[{ on := 20, ground := Go.Ground.data }, { on := 15, ground := Go.Ground.guard }], guard := some (15, true) }) (v := ?_) rfl (by kernel_rfl) (by kernel_rfl) (by kernel_rfl) (fun _ _ _ h => h) (Or.inl ⟨by rfl, ?_⟩) (by assumption) ?_
  rotate_left
  · intro w hSw
    (try dsimp only at hSw)
    go_simp
    try with_reducible rfl
  (try simp only [Act.put, List.setIfInBounds_toArray, List.set_cons_zero, List.set_cons_succ])
  refine wpAnyH_take (i := 22) (oi := { dst := some 51, op := Go.Op.binOp Go.BinOp.eql 65 (Go.Operand.tmp 48) (Go.Operand.tmp 50) 65, type := 4, pos := "law.go:38", after := #[{ on := 19, ground := Go.Ground.data }, { on := 21, ground := Go.Ground.data }, { on := 15, ground := Go.Ground.guard }], guard := some (15, true) }) (v := ?_) rfl (by kernel_rfl) (by kernel_rfl) (by kernel_rfl) (fun _ _ _ h => h) (Or.inl ⟨by rfl, ?_⟩) (by assumption) ?_
  rotate_left
  · intro w hSw
    (try dsimp only at hSw)
    go_simp
    try with_reducible rfl
  (try simp only [Act.put, List.setIfInBounds_toArray, List.set_cons_zero, List.set_cons_succ])
  refine wpAnyH_take (i := 23) (oi := { dst := some 52, op := Go.Op.pick (Go.Operand.tmp 44) (Go.Operand.tmp 51) (Go.Operand.const (Go.Value.bool false)), type := 4, pos := "law.go:38", after := #[{ on := 15, ground := Go.Ground.data }, { on := 22, ground := Go.Ground.data }], guard := none }) (v := ?_) rfl (by kernel_rfl) (by kernel_rfl) (by kernel_rfl) (fun _ _ _ h => h) (Or.inl ⟨by rfl, ?_⟩) (by assumption) ?_
  rotate_left
  · intro w hSw
    (try dsimp only at hSw)
    go_simp
    try with_reducible rfl
  (try simp only [Act.put, List.setIfInBounds_toArray, List.set_cons_zero, List.set_cons_succ])
  refine wpAnyH_take (i := 24) (oi := { dst := some 53, op := Go.Op.move (Go.Operand.tmp 52), type := 4, pos := "law.go:38", after := #[{ on := 23, ground := Go.Ground.data }, { on := 15, ground := Go.Ground.chain }], guard := none }) (v := ?_) rfl (by kernel_rfl) (by kernel_rfl) (by kernel_rfl) (fun _ _ _ h => h) (Or.inl ⟨by rfl, ?_⟩) (by assumption) ?_
  rotate_left
  · intro w hSw
    (try dsimp only at hSw)
    go_simp
    try with_reducible rfl
  (try simp only [Act.put, List.setIfInBounds_toArray, List.set_cons_zero, List.set_cons_succ])
  refine wpAnyH_take (i := 25) (oi := { dst := some 54, op := Go.Op.move (Go.Operand.tmp 3), type := 30, pos := "law.go:38", after := #[{ on := 24, ground := Go.Ground.guard }], guard := some (24, true) }) (v := ?_) rfl (by kernel_rfl) (by kernel_rfl) (by kernel_rfl) (fun _ _ _ h => h) (Or.inl ⟨by rfl, ?_⟩) (by assumption) ?_
  rotate_left
  · intro w hSw
    (try dsimp only at hSw)
    go_simp
    try with_reducible rfl
  (try simp only [Act.put, List.setIfInBounds_toArray, List.set_cons_zero, List.set_cons_succ])
  refine wpAnyH_take (i := 26) (oi := { dst := some 55, op := Go.Op.load 36 (Go.Operand.tmp 1), type := 36, pos := "law.go:38", after := #[{ on := 24, ground := Go.Ground.guard }], guard := some (24, true) }) (v := ?_) rfl (by kernel_rfl) (by kernel_rfl) (by kernel_rfl) (fun _ _ _ h => h) (Or.inl ⟨by rfl, ?_⟩) (by assumption) ?_
  rotate_left
  · intro w hSw
    (try dsimp only at hSw)
    go_simp
    try with_reducible rfl
  (try simp only [Act.put, List.setIfInBounds_toArray, List.set_cons_zero, List.set_cons_succ])
  refine wpAnyH_ready (rs := [27]) (by kernel_rfl) (by simp) ?_
  refine AllReadyH.cons (o := { dst := some 56, op := Go.Op.call { callee := Go.Callee.value (Go.Operand.func 17), args := #[Go.Operand.tmp 54, Go.Operand.tmp 55], argTypes := #[30, 36] }, type := 3, pos := "law.go:38", after := #[{ on := 25, ground := Go.Ground.data }, { on := 26, ground := Go.Ground.data }, { on := 24, ground := Go.Ground.chain }, { on := 24, ground := Go.Ground.guard }], guard := some (24, true) }) rfl (fun K hK => ?_) AllReadyH.nil
  go_simp
  refine Calls.mono (HF.out _ (HR3.out.row.below (Below.refl _ _).drew)) ?_
  rintro e w7 ⟨rfl, hb7⟩
  have HB7 : Hid (Below w.heap.size w w7) := Below.trans HB6.out.drew (hb7.mono (by show _ ≤ w6.heap.size; omega))
  refine hK.out _ _ ?_ (fun hHeld => ?_)
  · (try dsimp only)
    obtain ⟨a0, a1, b0, b1, d1, d2, d3, d4, d5⟩ := hHeld
    obtain ⟨hcc, _⟩ := bcell hb7
    exact ⟨(hcc _ _ (by show _ < w6.heap.size; omega)).trans a0, (hcc _ _ (by show _ < w6.heap.size; omega)).trans a1, (hcc _ _ (by show _ < w6.heap.size; omega)).trans b0, (hcc _ _ (by show _ < w6.heap.size; omega)).trans b1, (hcc _ _ (by show _ < w6.heap.size; omega)).trans d1, (hcc _ _ (by show _ < w6.heap.size; omega)).trans d2, (hcc _ _ (by show _ < w6.heap.size; omega)).trans d3, (hcc _ _ (by show _ < w6.heap.size; omega)).trans d4, (hcc _ _ (by show _ < w6.heap.size; omega)).trans d5⟩
  clear hK K
  (try simp only [Act.put, List.setIfInBounds_toArray, List.set_cons_zero, List.set_cons_succ])
  refine wpAnyH_take (i := 28) (oi := { dst := some 57, op := Go.Op.binOp Go.BinOp.eql 3 (Go.Operand.tmp 56) (Go.Operand.const (Go.Value.int Go.IntKind.i64 (-1))) 3, type := 4, pos := "law.go:38", after := #[{ on := 27, ground := Go.Ground.data }, { on := 24, ground := Go.Ground.guard }], guard := some (24, true) }) (v := ?_) rfl (by kernel_rfl) (by kernel_rfl) (by kernel_rfl) (fun _ _ _ h => h) (Or.inl ⟨by rfl, ?_⟩) (by assumption) ?_
  rotate_left
  · intro w hSw
    (try dsimp only at hSw)
    go_simp
    try with_reducible rfl
  (try simp only [Act.put, List.setIfInBounds_toArray, List.set_cons_zero, List.set_cons_succ])
  refine wpAnyH_take (i := 29) (oi := { dst := some 58, op := Go.Op.pick (Go.Operand.tmp 53) (Go.Operand.tmp 57) (Go.Operand.const (Go.Value.bool false)), type := 4, pos := "law.go:38", after := #[{ on := 24, ground := Go.Ground.data }, { on := 28, ground := Go.Ground.data }], guard := none }) (v := ?_) rfl (by kernel_rfl) (by kernel_rfl) (by kernel_rfl) (fun _ _ _ h => h) (Or.inl ⟨by rfl, ?_⟩) (by assumption) ?_
  rotate_left
  · intro w hSw
    (try dsimp only at hSw)
    go_simp
    try with_reducible rfl
  (try simp only [Act.put, List.setIfInBounds_toArray, List.set_cons_zero, List.set_cons_succ])
  refine wpAnyH_take (i := 30) (oi := { dst := some 0, op := Go.Op.assign (Go.Operand.tmp 58), type := 4, pos := "law.go:38", after := #[{ on := 29, ground := Go.Ground.data }, { on := 27, ground := Go.Ground.chain }, { on := 0, ground := Go.Ground.phase }, { on := 1, ground := Go.Ground.phase }, { on := 2, ground := Go.Ground.phase }, { on := 3, ground := Go.Ground.phase }, { on := 4, ground := Go.Ground.phase }, { on := 5, ground := Go.Ground.phase }, { on := 6, ground := Go.Ground.phase }, { on := 7, ground := Go.Ground.phase }, { on := 8, ground := Go.Ground.phase }, { on := 9, ground := Go.Ground.phase }, { on := 10, ground := Go.Ground.phase }, { on := 11, ground := Go.Ground.phase }, { on := 12, ground := Go.Ground.phase }, { on := 13, ground := Go.Ground.phase }, { on := 14, ground := Go.Ground.phase }, { on := 15, ground := Go.Ground.phase }, { on := 16, ground := Go.Ground.phase }, { on := 17, ground := Go.Ground.phase }, { on := 18, ground := Go.Ground.phase }, { on := 19, ground := Go.Ground.phase }, { on := 20, ground := Go.Ground.phase }, { on := 21, ground := Go.Ground.phase }, { on := 22, ground := Go.Ground.phase }, { on := 23, ground := Go.Ground.phase }, { on := 24, ground := Go.Ground.phase }, { on := 25, ground := Go.Ground.phase }, { on := 26, ground := Go.Ground.phase }, { on := 27, ground := Go.Ground.phase }, { on := 28, ground := Go.Ground.phase }, { on := 29, ground := Go.Ground.phase }], guard := none }) (v := ?_) rfl (by kernel_rfl) (by kernel_rfl) (by kernel_rfl) (fun _ _ _ h => h) (Or.inl ⟨by rfl, ?_⟩) (by assumption) ?_
  rotate_left
  · intro w hSw
    (try dsimp only at hSw)
    go_simp
    try with_reducible rfl
  (try simp only [Act.put, List.setIfInBounds_toArray, List.set_cons_zero])
  refine wpAnyH_done (by kernel_rfl) ?_ _
  go_wp2
  go_ret
  exact ⟨by simp, HB7.out⟩
end Go.Proofs.Ytnhooknpknkjkaa
