/-
  Of all sizes the program tells whether they may be; of a book that isn't there nothing is told. No condition.
-/
import Derived.Test.YtocdljhjmhmfkaaRows
import Derived.Test.YtocdljhjmhmfkaaBkH
import Derived.Test.YtocdljhjmhmfkaaOpenBk
import Derived.Deep.RegionHeld3
import Derived.WalkKit
import Derived.ProofKit
import Derived.OpenShut
namespace Go.Proofs.Ytocdljhjmhmfkaa.bookNews
open Go.ChangeShapes Go.WideShapes Go.ChangeAt Go.RowKit
open Go.ChangeMaps (open_string)
set_option linter.unusedVariables false

theorem own : ownKnob Try.prog.godebug = none := by kernel_rfl

set_option maxRecDepth 20000 in
set_option maxHeartbeats 12800000 in
theorem walk (W : World) (a0 e0 c0 : Int) (kd1 kv1 : Int) (m1 : Nat) (p1 d1 : Int) (n1 o1 : Nat) (hm1 : m1 < 18446744073709551616) (hn1 : n1 < 4294967296) (ho1 : o1 < 4294967296) :
    Calls Try.prog 11 #[.agg #[.int .i64 a0, .int .i64 e0, .int .i64 c0], .agg #[.int .i64 kd1, .int .i64 kv1, .int .u64 (m1 : Int), .int .i64 p1, .int .i64 d1, .int .u32 (n1 : Int), .int .u32 (o1 : Int)]] W (Says (.bool true) W) := by
  obtain ⟨K, hK7, hk1, hk2⟩ := kind7 kd1
  have HTO := Lib.hid fun w => law11_To a0 e0 c0 w
  have HR1 := Lib.hid fun w => book_Right a0 e0 c0 w
  have HR2 := Lib.hid fun w => ref11_Right a0 e0 c0 w
  have HTOLD := Lib.hid told11
  have HDO := Lib.hid fun w => Do0 kd1 kv1 m1 hm1 p1 d1 n1 o1 K hK7 hk1 hk2 w
  have HCO := Lib.hid fun w => book_Copy0 w
  have HLI := Lib.hid fun w => book_List0 w
  have HBU := Lib.hid fun w => book_Bucket0 0 0 w
  have HSZ := Lib.hid fun w => book_Size0 w
  have gK0 : (0 : Int) ≤ (K : Int) := Int.natCast_nonneg _
  have gK1 : (K : Int) < 7 := by omega
  have hw : (#[.int .i64 (-1), .int .i64 5, .int .i64 5, .int .i64 5, .int .i64 0, .int .i64 0, .int .i64 0] : Array Value)[K]? = some (.int .i64 (wantN K)) := by
    rcases (show K = 0 ∨ K = 1 ∨ K = 2 ∨ K = 3 ∨ K = 4 ∨ K = 5 ∨ K = 6 by omega) with rfl | rfl | rfl | rfl | rfl | rfl | rfl <;> rfl
  have hww : (wantN K == wantN K) = true := by simp
  generalize wantN K = wn at *
  clear hK7 hm1 hn1 ho1
  cases hr : rightS a0 e0 c0
  · have HN := Lib.hid fun w => book_New0 a0 e0 c0 hr w
    rw [hr] at HR1 HR2
    clear hr
    go_enter Try.func11, Try.ntmps11
    go_wp2_with fail
    refine (HTO.out _).mono ?_
    rintro e w1 ⟨rfl, hb⟩
    have s0 : w1.cell? ⟨W.heap.size, 0, none⟩ = some (.int .i64 a0) := by rw [(bcell hb).1 _ _ (by first | (simp; done) | (simp; omega))]; simp [go_sem]
    have s1 : w1.cell? ⟨W.heap.size, 1, none⟩ = some (.int .i64 e0) := by rw [(bcell hb).1 _ _ (by first | (simp; done) | (simp; omega))]; simp [go_sem]
    have s2 : w1.cell? ⟨W.heap.size, 2, none⟩ = some (.int .i64 c0) := by rw [(bcell hb).1 _ _ (by first | (simp; done) | (simp; omega))]; simp [go_sem]
    have s3 : w1.cell? ⟨W.heap.size + 1, 0, none⟩ = some (.int .i64 kd1) := by rw [(bcell hb).1 _ _ (by first | (simp; done) | (simp; omega))]; simp [go_sem]
    have s4 : w1.cell? ⟨W.heap.size + 1, 1, none⟩ = some (.int .i64 kv1) := by rw [(bcell hb).1 _ _ (by first | (simp; done) | (simp; omega))]; simp [go_sem]
    have s5 : w1.cell? ⟨W.heap.size + 1, 2, none⟩ = some (.int .u64 (m1 : Int)) := by rw [(bcell hb).1 _ _ (by first | (simp; done) | (simp; omega))]; simp [go_sem]
    have s6 : w1.cell? ⟨W.heap.size + 1, 3, none⟩ = some (.int .i64 p1) := by rw [(bcell hb).1 _ _ (by first | (simp; done) | (simp; omega))]; simp [go_sem]
    have s7 : w1.cell? ⟨W.heap.size + 1, 4, none⟩ = some (.int .i64 d1) := by rw [(bcell hb).1 _ _ (by first | (simp; done) | (simp; omega))]; simp [go_sem]
    have s8 : w1.cell? ⟨W.heap.size + 1, 5, none⟩ = some (.int .u32 (n1 : Int)) := by rw [(bcell hb).1 _ _ (by first | (simp; done) | (simp; omega))]; simp [go_sem]
    have s9 : w1.cell? ⟨W.heap.size + 1, 6, none⟩ = some (.int .u32 (o1 : Int)) := by rw [(bcell hb).1 _ _ (by first | (simp; done) | (simp; omega))]; simp [go_sem]
    have HB : Hid (Below W.heap.size W w1) := Below.trans (by (repeat' (first | (with_reducible exact Below.refl _ _) | (with_reducible assumption) | (with_reducible refine Below.setCell ?_ ?_ _) | (with_reducible refine Below.alloc ?_ ?_ _) | (with_reducible refine below_drewN ?_ _) | (with_reducible refine Below.drew ?_) | go_size))) (hb.mono (by go_size))
    have hz : W.heap.size + 2 ≤ w1.heap.size := by have := hb.size; simpa using this
    clear hb
    go_wp2_with fail
    refine (HN.out _).mono ?_
    rintro e w2 ⟨rfl, hb⟩
    have s0 := ((bcell hb).1 (W.heap.size) 0 (by omega)).trans s0
    have s1 := ((bcell hb).1 (W.heap.size) 1 (by omega)).trans s1
    have s2 := ((bcell hb).1 (W.heap.size) 2 (by omega)).trans s2
    have s3 := ((bcell hb).1 (W.heap.size + 1) 0 (by omega)).trans s3
    have s4 := ((bcell hb).1 (W.heap.size + 1) 1 (by omega)).trans s4
    have s5 := ((bcell hb).1 (W.heap.size + 1) 2 (by omega)).trans s5
    have s6 := ((bcell hb).1 (W.heap.size + 1) 3 (by omega)).trans s6
    have s7 := ((bcell hb).1 (W.heap.size + 1) 4 (by omega)).trans s7
    have s8 := ((bcell hb).1 (W.heap.size + 1) 5 (by omega)).trans s8
    have s9 := ((bcell hb).1 (W.heap.size + 1) 6 (by omega)).trans s9
    have HB := Lib.hid (HB.out.trans (hb.mono HB.out.size))
    have hz := Nat.le_trans hz hb.size
    clear hb
    go_wp2_with fail
    refine wp_region_held_drew (S := fun w' => w'.cell? ⟨W.heap.size, 0, none⟩ = some (.int .i64 a0) ∧ w'.cell? ⟨W.heap.size, 1, none⟩ = some (.int .i64 e0) ∧ w'.cell? ⟨W.heap.size, 2, none⟩ = some (.int .i64 c0)) (by kernel_rfl) ?_ (fun hHeld => ?_)
    · exact ⟨s0, s1, s2⟩
    refine wpAnyH_ready (rs := [0]) (by kernel_rfl) (by simp) ?_
    refine AllReadyH.cons (o := { dst := some 15, op := Go.Op.call { callee := Go.Callee.value (Go.Operand.func 39), args := #[], argTypes := #[] }, type := 4, pos := "law.go:155", after := #[], guard := none }) rfl (fun K hK => ?_) AllReadyH.nil
    go_simp
    refine (HTOLD.out _).mono ?_
    rintro e w3 ⟨rfl, hb⟩
    have hbd : Below w2.heap.size w2 w3 := ((Below.refl w2.heap.size w2).drew).trans hb
    have s0 := ((bcell hbd).1 (W.heap.size) 0 (by omega)).trans s0
    have s1 := ((bcell hbd).1 (W.heap.size) 1 (by omega)).trans s1
    have s2 := ((bcell hbd).1 (W.heap.size) 2 (by omega)).trans s2
    have s3 := ((bcell hbd).1 (W.heap.size + 1) 0 (by omega)).trans s3
    have s4 := ((bcell hbd).1 (W.heap.size + 1) 1 (by omega)).trans s4
    have s5 := ((bcell hbd).1 (W.heap.size + 1) 2 (by omega)).trans s5
    have s6 := ((bcell hbd).1 (W.heap.size + 1) 3 (by omega)).trans s6
    have s7 := ((bcell hbd).1 (W.heap.size + 1) 4 (by omega)).trans s7
    have s8 := ((bcell hbd).1 (W.heap.size + 1) 5 (by omega)).trans s8
    have s9 := ((bcell hbd).1 (W.heap.size + 1) 6 (by omega)).trans s9
    have HB := Lib.hid (HB.out.trans (hbd.mono HB.out.size))
    have hz := Nat.le_trans hz hbd.size
    clear hbd
    refine hK.out _ _ ?_ (fun hHeld => ?_)
    · (try dsimp only)
      obtain ⟨q0, q1, q2⟩ := hHeld
      exact ⟨s0, s1, s2⟩
    clear hK K
    (try simp only [Act.put, List.setIfInBounds_toArray, List.set_cons_zero, List.set_cons_succ])
    refine wpAnyH_take (i := 1) (oi := { dst := some 16, op := Go.Op.unOp Go.UnOp.not 4 (Go.Operand.tmp 15), type := 4, pos := "law.go:155", after := #[{ on := 0, ground := Go.Ground.data }], guard := none }) (v := ?_) rfl (by kernel_rfl) (by kernel_rfl) (by kernel_rfl) (fun _ _ _ h => h) (Or.inl ⟨by rfl, ?_⟩) (by assumption) ?_
    rotate_left
    · intro w hSw
      (try dsimp only at hSw)
      go_simp
      try with_reducible rfl
    (try simp only [Act.put, List.setIfInBounds_toArray, List.set_cons_zero, List.set_cons_succ])
    refine wpAnyH_take (i := 2) (oi := { dst := some 17, op := Go.Op.move (Go.Operand.tmp 16), type := 4, pos := "law.go:155", after := #[{ on := 1, ground := Go.Ground.data }, { on := 0, ground := Go.Ground.chain }], guard := none }) (v := ?_) rfl (by kernel_rfl) (by kernel_rfl) (by kernel_rfl) (fun _ _ _ h => h) (Or.inl ⟨by rfl, ?_⟩) (by assumption) ?_
    rotate_left
    · intro w hSw
      (try dsimp only at hSw)
      go_simp
      try with_reducible rfl
    (try simp only [Act.put, List.setIfInBounds_toArray, List.set_cons_zero, List.set_cons_succ])
    refine wpAnyH_take (i := 3) (oi := { dst := some 18, op := Go.Op.load 79 (Go.Operand.tmp 2), type := 79, pos := "law.go:155", after := #[{ on := 2, ground := Go.Ground.guard }], guard := some (2, false) }) (v := ?_) rfl (by kernel_rfl) (by kernel_rfl) (by kernel_rfl) (fun _ _ _ h => h) (Or.inl ⟨by rfl, ?_⟩) (by assumption) ?_
    rotate_left
    · intro w hSw
      (try dsimp only at hSw)
      go_simp
      try with_reducible rfl
    (try simp only [Act.put, List.setIfInBounds_toArray, List.set_cons_zero, List.set_cons_succ])
    refine wpAnyH_take (i := 6) (oi := { dst := some 21, op := Go.Op.load 79 (Go.Operand.tmp 2), type := 79, pos := "law.go:155", after := #[{ on := 2, ground := Go.Ground.guard }], guard := some (2, false) }) (v := ?_) rfl (by kernel_rfl) (by kernel_rfl) (by kernel_rfl) (fun _ _ _ h => h) (Or.inl ⟨by rfl, ?_⟩) (by assumption) ?_
    rotate_left
    · intro w hSw
      (try dsimp only at hSw)
      go_simp
      try with_reducible rfl
    (try simp only [Act.put, List.setIfInBounds_toArray, List.set_cons_zero, List.set_cons_succ])
    refine wpAnyH_ready (rs := [4]) (by kernel_rfl) (by simp) ?_
    refine AllReadyH.cons (o := { dst := some 19, op := Go.Op.call { callee := Go.Callee.value (Go.Operand.func 37), args := #[Go.Operand.tmp 18], argTypes := #[79] }, type := 86, pos := "law.go:155", after := #[{ on := 3, ground := Go.Ground.data }, { on := 2, ground := Go.Ground.chain }, { on := 2, ground := Go.Ground.guard }], guard := some (2, false) }) rfl (fun K hK => ?_) AllReadyH.nil
    go_simp
    refine (HTO.out _).mono ?_
    rintro e w4 ⟨rfl, hb⟩
    have hbd : Below w3.heap.size w3 w4 := hb
    have s0 := ((bcell hbd).1 (W.heap.size) 0 (by omega)).trans s0
    have s1 := ((bcell hbd).1 (W.heap.size) 1 (by omega)).trans s1
    have s2 := ((bcell hbd).1 (W.heap.size) 2 (by omega)).trans s2
    have s3 := ((bcell hbd).1 (W.heap.size + 1) 0 (by omega)).trans s3
    have s4 := ((bcell hbd).1 (W.heap.size + 1) 1 (by omega)).trans s4
    have s5 := ((bcell hbd).1 (W.heap.size + 1) 2 (by omega)).trans s5
    have s6 := ((bcell hbd).1 (W.heap.size + 1) 3 (by omega)).trans s6
    have s7 := ((bcell hbd).1 (W.heap.size + 1) 4 (by omega)).trans s7
    have s8 := ((bcell hbd).1 (W.heap.size + 1) 5 (by omega)).trans s8
    have s9 := ((bcell hbd).1 (W.heap.size + 1) 6 (by omega)).trans s9
    have HB := Lib.hid (HB.out.trans (hbd.mono HB.out.size))
    have hz := Nat.le_trans hz hbd.size
    clear hbd
    refine hK.out _ _ ?_ (fun hHeld => ?_)
    · (try dsimp only)
      obtain ⟨q0, q1, q2⟩ := hHeld
      exact ⟨s0, s1, s2⟩
    clear hK K
    (try simp only [Act.put, List.setIfInBounds_toArray, List.set_cons_zero, List.set_cons_succ])
    refine wpAnyH_ready (rs := [5]) (by kernel_rfl) (by simp) ?_
    refine AllReadyH.cons (o := { dst := some 20, op := Go.Op.call { callee := Go.Callee.value (Go.Operand.func 49), args := #[Go.Operand.tmp 19], argTypes := #[86] }, type := 4, pos := "law.go:155", after := #[{ on := 4, ground := Go.Ground.data }, { on := 4, ground := Go.Ground.chain }, { on := 2, ground := Go.Ground.guard }], guard := some (2, false) }) rfl (fun K hK => ?_) AllReadyH.nil
    go_simp
    refine (HR1.out _).mono ?_
    rintro e w5 ⟨rfl, hb⟩
    have hbd : Below w4.heap.size w4 w5 := hb
    have s0 := ((bcell hbd).1 (W.heap.size) 0 (by omega)).trans s0
    have s1 := ((bcell hbd).1 (W.heap.size) 1 (by omega)).trans s1
    have s2 := ((bcell hbd).1 (W.heap.size) 2 (by omega)).trans s2
    have s3 := ((bcell hbd).1 (W.heap.size + 1) 0 (by omega)).trans s3
    have s4 := ((bcell hbd).1 (W.heap.size + 1) 1 (by omega)).trans s4
    have s5 := ((bcell hbd).1 (W.heap.size + 1) 2 (by omega)).trans s5
    have s6 := ((bcell hbd).1 (W.heap.size + 1) 3 (by omega)).trans s6
    have s7 := ((bcell hbd).1 (W.heap.size + 1) 4 (by omega)).trans s7
    have s8 := ((bcell hbd).1 (W.heap.size + 1) 5 (by omega)).trans s8
    have s9 := ((bcell hbd).1 (W.heap.size + 1) 6 (by omega)).trans s9
    have HB := Lib.hid (HB.out.trans (hbd.mono HB.out.size))
    have hz := Nat.le_trans hz hbd.size
    clear hbd
    refine hK.out _ _ ?_ (fun hHeld => ?_)
    · (try dsimp only)
      obtain ⟨q0, q1, q2⟩ := hHeld
      exact ⟨s0, s1, s2⟩
    clear hK K
    (try simp only [Act.put, List.setIfInBounds_toArray, List.set_cons_zero, List.set_cons_succ])
    refine wpAnyH_ready (rs := [7]) (by kernel_rfl) (by simp) ?_
    refine AllReadyH.cons (o := { dst := some 22, op := Go.Op.call { callee := Go.Callee.value (Go.Operand.func 50), args := #[Go.Operand.tmp 21], argTypes := #[79] }, type := 4, pos := "law.go:155", after := #[{ on := 6, ground := Go.Ground.data }, { on := 5, ground := Go.Ground.chain }, { on := 2, ground := Go.Ground.guard }], guard := some (2, false) }) rfl (fun K hK => ?_) AllReadyH.nil
    go_simp
    refine (HR2.out _).mono ?_
    rintro e w6 ⟨rfl, hb⟩
    have hbd : Below w5.heap.size w5 w6 := hb
    have s0 := ((bcell hbd).1 (W.heap.size) 0 (by omega)).trans s0
    have s1 := ((bcell hbd).1 (W.heap.size) 1 (by omega)).trans s1
    have s2 := ((bcell hbd).1 (W.heap.size) 2 (by omega)).trans s2
    have s3 := ((bcell hbd).1 (W.heap.size + 1) 0 (by omega)).trans s3
    have s4 := ((bcell hbd).1 (W.heap.size + 1) 1 (by omega)).trans s4
    have s5 := ((bcell hbd).1 (W.heap.size + 1) 2 (by omega)).trans s5
    have s6 := ((bcell hbd).1 (W.heap.size + 1) 3 (by omega)).trans s6
    have s7 := ((bcell hbd).1 (W.heap.size + 1) 4 (by omega)).trans s7
    have s8 := ((bcell hbd).1 (W.heap.size + 1) 5 (by omega)).trans s8
    have s9 := ((bcell hbd).1 (W.heap.size + 1) 6 (by omega)).trans s9
    have HB := Lib.hid (HB.out.trans (hbd.mono HB.out.size))
    have hz := Nat.le_trans hz hbd.size
    clear hbd
    refine hK.out _ _ ?_ (fun hHeld => ?_)
    · (try dsimp only)
      obtain ⟨q0, q1, q2⟩ := hHeld
      exact ⟨s0, s1, s2⟩
    clear hK K
    (try simp only [Act.put, List.setIfInBounds_toArray, List.set_cons_zero, List.set_cons_succ])
    refine wpAnyH_take (i := 8) (oi := { dst := some 23, op := Go.Op.binOp Go.BinOp.neq 4 (Go.Operand.tmp 20) (Go.Operand.tmp 22) 4, type := 4, pos := "law.go:155", after := #[{ on := 5, ground := Go.Ground.data }, { on := 7, ground := Go.Ground.data }, { on := 2, ground := Go.Ground.guard }], guard := some (2, false) }) (v := ?_) rfl (by kernel_rfl) (by kernel_rfl) (by kernel_rfl) (fun _ _ _ h => h) (Or.inl ⟨by rfl, ?_⟩) (by assumption) ?_
    rotate_left
    · intro w hSw
      (try dsimp only at hSw)
      go_simp
      try with_reducible rfl
    (try simp only [Act.put, List.setIfInBounds_toArray, List.set_cons_zero, List.set_cons_succ])
    refine wpAnyH_take (i := 9) (oi := { dst := some 24, op := Go.Op.pick (Go.Operand.tmp 17) (Go.Operand.const (Go.Value.bool true)) (Go.Operand.tmp 23), type := 4, pos := "law.go:155", after := #[{ on := 2, ground := Go.Ground.data }, { on := 8, ground := Go.Ground.data }], guard := none }) (v := ?_) rfl (by kernel_rfl) (by kernel_rfl) (by kernel_rfl) (fun _ _ _ h => h) (Or.inl ⟨by rfl, ?_⟩) (by assumption) ?_
    rotate_left
    · intro w hSw
      (try dsimp only at hSw)
      go_simp
      try with_reducible rfl
    (try simp only [Act.put, List.setIfInBounds_toArray, List.set_cons_zero, List.set_cons_succ])
    refine wpAnyH_take (i := 10) (oi := { dst := some 25, op := Go.Op.move (Go.Operand.tmp 24), type := 4, pos := "law.go:155", after := #[{ on := 9, ground := Go.Ground.data }, { on := 7, ground := Go.Ground.chain }], guard := none }) (v := ?_) rfl (by kernel_rfl) (by kernel_rfl) (by kernel_rfl) (fun _ _ _ h => h) (Or.inl ⟨by rfl, ?_⟩) (by assumption) ?_
    rotate_left
    · intro w hSw
      (try dsimp only at hSw)
      go_simp
      try with_reducible rfl
    (try simp only [Act.put, List.setIfInBounds_toArray, List.set_cons_zero, List.set_cons_succ])
    refine wpAnyH_take (i := 11) (oi := { dst := some 26, op := Go.Op.move (Go.Operand.tmp 6), type := 82, pos := "law.go:155", after := #[{ on := 10, ground := Go.Ground.guard }], guard := some (10, false) }) (v := ?_) rfl (by kernel_rfl) (by kernel_rfl) (by kernel_rfl) (fun _ _ _ h => h) (Or.inl ⟨by rfl, ?_⟩) (by assumption) ?_
    rotate_left
    · intro w hSw
      (try dsimp only at hSw)
      go_simp
      try with_reducible rfl
    (try simp only [Act.put, List.setIfInBounds_toArray, List.set_cons_zero, List.set_cons_succ])
    refine wpAnyH_take (i := 12) (oi := { dst := some 27, op := Go.Op.binOp Go.BinOp.neq 82 (Go.Operand.tmp 26) (Go.Operand.const (Go.Value.pointer none)) 82, type := 4, pos := "law.go:155", after := #[{ on := 11, ground := Go.Ground.data }, { on := 10, ground := Go.Ground.guard }], guard := some (10, false) }) (v := ?_) rfl (by kernel_rfl) (by kernel_rfl) (by kernel_rfl) (fun _ _ _ h => h) (Or.inl ⟨by rfl, ?_⟩) (by assumption) ?_
    rotate_left
    · intro w hSw
      (try dsimp only at hSw)
      go_simp
      try with_reducible rfl
    (try simp only [Act.put, List.setIfInBounds_toArray, List.set_cons_zero, List.set_cons_succ])
    refine wpAnyH_take (i := 13) (oi := { dst := some 28, op := Go.Op.load 79 (Go.Operand.tmp 2), type := 79, pos := "law.go:155", after := #[{ on := 10, ground := Go.Ground.guard }], guard := some (10, false) }) (v := ?_) rfl (by kernel_rfl) (by kernel_rfl) (by kernel_rfl) (fun _ _ _ h => h) (Or.inl ⟨by rfl, ?_⟩) (by assumption) ?_
    rotate_left
    · intro w hSw
      (try dsimp only at hSw)
      go_simp
      try with_reducible rfl
    (try simp only [Act.put, List.setIfInBounds_toArray, List.set_cons_zero, List.set_cons_succ])
    refine wpAnyH_ready (rs := [14]) (by kernel_rfl) (by simp) ?_
    refine AllReadyH.cons (o := { dst := some 29, op := Go.Op.call { callee := Go.Callee.value (Go.Operand.func 50), args := #[Go.Operand.tmp 28], argTypes := #[79] }, type := 4, pos := "law.go:155", after := #[{ on := 13, ground := Go.Ground.data }, { on := 10, ground := Go.Ground.chain }, { on := 10, ground := Go.Ground.guard }], guard := some (10, false) }) rfl (fun K hK => ?_) AllReadyH.nil
    go_simp
    refine (HR2.out _).mono ?_
    rintro e w7 ⟨rfl, hb⟩
    have hbd : Below w6.heap.size w6 w7 := hb
    have s0 := ((bcell hbd).1 (W.heap.size) 0 (by omega)).trans s0
    have s1 := ((bcell hbd).1 (W.heap.size) 1 (by omega)).trans s1
    have s2 := ((bcell hbd).1 (W.heap.size) 2 (by omega)).trans s2
    have s3 := ((bcell hbd).1 (W.heap.size + 1) 0 (by omega)).trans s3
    have s4 := ((bcell hbd).1 (W.heap.size + 1) 1 (by omega)).trans s4
    have s5 := ((bcell hbd).1 (W.heap.size + 1) 2 (by omega)).trans s5
    have s6 := ((bcell hbd).1 (W.heap.size + 1) 3 (by omega)).trans s6
    have s7 := ((bcell hbd).1 (W.heap.size + 1) 4 (by omega)).trans s7
    have s8 := ((bcell hbd).1 (W.heap.size + 1) 5 (by omega)).trans s8
    have s9 := ((bcell hbd).1 (W.heap.size + 1) 6 (by omega)).trans s9
    have HB := Lib.hid (HB.out.trans (hbd.mono HB.out.size))
    have hz := Nat.le_trans hz hbd.size
    clear hbd
    refine hK.out _ _ ?_ (fun hHeld => ?_)
    · (try dsimp only)
      obtain ⟨q0, q1, q2⟩ := hHeld
      exact ⟨s0, s1, s2⟩
    clear hK K
    (try simp only [Act.put, List.setIfInBounds_toArray, List.set_cons_zero, List.set_cons_succ])
    refine wpAnyH_take (i := 15) (oi := { dst := some 30, op := Go.Op.binOp Go.BinOp.neq 4 (Go.Operand.tmp 27) (Go.Operand.tmp 29) 4, type := 4, pos := "law.go:155", after := #[{ on := 12, ground := Go.Ground.data }, { on := 14, ground := Go.Ground.data }, { on := 10, ground := Go.Ground.guard }], guard := some (10, false) }) (v := ?_) rfl (by kernel_rfl) (by kernel_rfl) (by kernel_rfl) (fun _ _ _ h => h) (Or.inl ⟨by rfl, ?_⟩) (by assumption) ?_
    rotate_left
    · intro w hSw
      (try dsimp only at hSw)
      go_simp
      try with_reducible rfl
    (try simp only [Act.put, List.setIfInBounds_toArray, List.set_cons_zero, List.set_cons_succ])
    refine wpAnyH_take (i := 16) (oi := { dst := some 31, op := Go.Op.pick (Go.Operand.tmp 25) (Go.Operand.const (Go.Value.bool true)) (Go.Operand.tmp 30), type := 4, pos := "law.go:155", after := #[{ on := 10, ground := Go.Ground.data }, { on := 15, ground := Go.Ground.data }], guard := none }) (v := ?_) rfl (by kernel_rfl) (by kernel_rfl) (by kernel_rfl) (fun _ _ _ h => h) (Or.inl ⟨by rfl, ?_⟩) (by assumption) ?_
    rotate_left
    · intro w hSw
      (try dsimp only at hSw)
      go_simp
      try with_reducible rfl
    (try simp only [Act.put, List.setIfInBounds_toArray, List.set_cons_zero, List.set_cons_succ])
    refine wpAnyH_take (i := 17) (oi := { dst := some 32, op := Go.Op.move (Go.Operand.tmp 31), type := 4, pos := "law.go:155", after := #[{ on := 16, ground := Go.Ground.data }, { on := 14, ground := Go.Ground.chain }], guard := none }) (v := ?_) rfl (by kernel_rfl) (by kernel_rfl) (by kernel_rfl) (fun _ _ _ h => h) (Or.inl ⟨by rfl, ?_⟩) (by assumption) ?_
    rotate_left
    · intro w hSw
      (try dsimp only at hSw)
      go_simp
      try with_reducible rfl
    (try simp only [Act.put, List.setIfInBounds_toArray, List.set_cons_zero, List.set_cons_succ])
    refine wpAnyH_take (i := 18) (oi := { dst := some 33, op := Go.Op.move (Go.Operand.tmp 7), type := 83, pos := "law.go:155", after := #[{ on := 17, ground := Go.Ground.guard }], guard := some (17, false) }) (v := ?_) rfl (by kernel_rfl) (by kernel_rfl) (by kernel_rfl) (fun _ _ _ h => h) (Or.inl ⟨by rfl, ?_⟩) (by assumption) ?_
    rotate_left
    · intro w hSw
      (try dsimp only at hSw)
      go_simp
      try with_reducible rfl
    (try simp only [Act.put, List.setIfInBounds_toArray, List.set_cons_zero, List.set_cons_succ])
    refine wpAnyH_take (i := 19) (oi := { dst := some 34, op := Go.Op.binOp Go.BinOp.eql 83 (Go.Operand.tmp 33) (Go.Operand.const (Go.Value.int Go.IntKind.i64 0)) 83, type := 4, pos := "law.go:155", after := #[{ on := 18, ground := Go.Ground.data }, { on := 17, ground := Go.Ground.guard }], guard := some (17, false) }) (v := ?_) rfl (by kernel_rfl) (by kernel_rfl) (by kernel_rfl) (fun _ _ _ h => h) (Or.inl ⟨by rfl, ?_⟩) (by assumption) ?_
    rotate_left
    · intro w hSw
      (try dsimp only at hSw)
      go_simp
      try with_reducible rfl
    (try simp only [Act.put, List.setIfInBounds_toArray, List.set_cons_zero, List.set_cons_succ])
    refine wpAnyH_take (i := 20) (oi := { dst := some 35, op := Go.Op.load 79 (Go.Operand.tmp 2), type := 79, pos := "law.go:155", after := #[{ on := 17, ground := Go.Ground.guard }], guard := some (17, false) }) (v := ?_) rfl (by kernel_rfl) (by kernel_rfl) (by kernel_rfl) (fun _ _ _ h => h) (Or.inl ⟨by rfl, ?_⟩) (by assumption) ?_
    rotate_left
    · intro w hSw
      (try dsimp only at hSw)
      go_simp
      try with_reducible rfl
    (try simp only [Act.put, List.setIfInBounds_toArray, List.set_cons_zero, List.set_cons_succ])
    refine wpAnyH_ready (rs := [21]) (by kernel_rfl) (by simp) ?_
    refine AllReadyH.cons (o := { dst := some 36, op := Go.Op.call { callee := Go.Callee.value (Go.Operand.func 50), args := #[Go.Operand.tmp 35], argTypes := #[79] }, type := 4, pos := "law.go:155", after := #[{ on := 20, ground := Go.Ground.data }, { on := 17, ground := Go.Ground.chain }, { on := 17, ground := Go.Ground.guard }], guard := some (17, false) }) rfl (fun K hK => ?_) AllReadyH.nil
    go_simp
    refine (HR2.out _).mono ?_
    rintro e w8 ⟨rfl, hb⟩
    have hbd : Below w7.heap.size w7 w8 := hb
    have s0 := ((bcell hbd).1 (W.heap.size) 0 (by omega)).trans s0
    have s1 := ((bcell hbd).1 (W.heap.size) 1 (by omega)).trans s1
    have s2 := ((bcell hbd).1 (W.heap.size) 2 (by omega)).trans s2
    have s3 := ((bcell hbd).1 (W.heap.size + 1) 0 (by omega)).trans s3
    have s4 := ((bcell hbd).1 (W.heap.size + 1) 1 (by omega)).trans s4
    have s5 := ((bcell hbd).1 (W.heap.size + 1) 2 (by omega)).trans s5
    have s6 := ((bcell hbd).1 (W.heap.size + 1) 3 (by omega)).trans s6
    have s7 := ((bcell hbd).1 (W.heap.size + 1) 4 (by omega)).trans s7
    have s8 := ((bcell hbd).1 (W.heap.size + 1) 5 (by omega)).trans s8
    have s9 := ((bcell hbd).1 (W.heap.size + 1) 6 (by omega)).trans s9
    have HB := Lib.hid (HB.out.trans (hbd.mono HB.out.size))
    have hz := Nat.le_trans hz hbd.size
    clear hbd
    refine hK.out _ _ ?_ (fun hHeld => ?_)
    · (try dsimp only)
      obtain ⟨q0, q1, q2⟩ := hHeld
      exact ⟨s0, s1, s2⟩
    clear hK K
    (try simp only [Act.put, List.setIfInBounds_toArray, List.set_cons_zero, List.set_cons_succ])
    refine wpAnyH_take (i := 22) (oi := { dst := some 37, op := Go.Op.binOp Go.BinOp.neq 4 (Go.Operand.tmp 34) (Go.Operand.tmp 36) 4, type := 4, pos := "law.go:155", after := #[{ on := 19, ground := Go.Ground.data }, { on := 21, ground := Go.Ground.data }, { on := 17, ground := Go.Ground.guard }], guard := some (17, false) }) (v := ?_) rfl (by kernel_rfl) (by kernel_rfl) (by kernel_rfl) (fun _ _ _ h => h) (Or.inl ⟨by rfl, ?_⟩) (by assumption) ?_
    rotate_left
    · intro w hSw
      (try dsimp only at hSw)
      go_simp
      try with_reducible rfl
    (try simp only [Act.put, List.setIfInBounds_toArray, List.set_cons_zero, List.set_cons_succ])
    refine wpAnyH_take (i := 23) (oi := { dst := some 38, op := Go.Op.pick (Go.Operand.tmp 32) (Go.Operand.const (Go.Value.bool true)) (Go.Operand.tmp 37), type := 4, pos := "law.go:155", after := #[{ on := 17, ground := Go.Ground.data }, { on := 22, ground := Go.Ground.data }], guard := none }) (v := ?_) rfl (by kernel_rfl) (by kernel_rfl) (by kernel_rfl) (fun _ _ _ h => h) (Or.inl ⟨by rfl, ?_⟩) (by assumption) ?_
    rotate_left
    · intro w hSw
      (try dsimp only at hSw)
      go_simp
      try with_reducible rfl
    (try simp only [Act.put, List.setIfInBounds_toArray, List.set_cons_zero, List.set_cons_succ])
    refine wpAnyH_take (i := 24) (oi := { dst := some 39, op := Go.Op.move (Go.Operand.tmp 38), type := 4, pos := "law.go:155", after := #[{ on := 23, ground := Go.Ground.data }, { on := 21, ground := Go.Ground.chain }], guard := none }) (v := ?_) rfl (by kernel_rfl) (by kernel_rfl) (by kernel_rfl) (fun _ _ _ h => h) (Or.inl ⟨by rfl, ?_⟩) (by assumption) ?_
    rotate_left
    · intro w hSw
      (try dsimp only at hSw)
      go_simp
      try with_reducible rfl
    (try simp only [Act.put, List.setIfInBounds_toArray, List.set_cons_zero, List.set_cons_succ])
    refine wpAnyH_take (i := 25) (oi := { dst := some 40, op := Go.Op.move (Go.Operand.tmp 7), type := 83, pos := "law.go:155", after := #[{ on := 24, ground := Go.Ground.guard }], guard := some (24, false) }) (v := ?_) rfl (by kernel_rfl) (by kernel_rfl) (by kernel_rfl) (fun _ _ _ h => h) (Or.inl ⟨by rfl, ?_⟩) (by assumption) ?_
    rotate_left
    · intro w hSw
      (try dsimp only at hSw)
      go_simp
      try with_reducible rfl
    (try simp only [Act.put, List.setIfInBounds_toArray, List.set_cons_zero, List.set_cons_succ])
    refine wpAnyH_take (i := 26) (oi := { dst := some 41, op := Go.Op.binOp Go.BinOp.neq 83 (Go.Operand.tmp 40) (Go.Operand.const (Go.Value.int Go.IntKind.i64 0)) 83, type := 4, pos := "law.go:155", after := #[{ on := 25, ground := Go.Ground.data }, { on := 24, ground := Go.Ground.guard }], guard := some (24, false) }) (v := ?_) rfl (by kernel_rfl) (by kernel_rfl) (by kernel_rfl) (fun _ _ _ h => h) (Or.inl ⟨by rfl, ?_⟩) (by assumption) ?_
    rotate_left
    · intro w hSw
      (try dsimp only at hSw)
      go_simp
      try with_reducible rfl
    (try simp only [Act.put, List.setIfInBounds_toArray, List.set_cons_zero, List.set_cons_succ])
    refine wpAnyH_take (i := 27) (oi := { dst := some 42, op := Go.Op.move (Go.Operand.tmp 41), type := 4, pos := "law.go:155", after := #[{ on := 26, ground := Go.Ground.data }, { on := 24, ground := Go.Ground.chain }, { on := 24, ground := Go.Ground.guard }], guard := some (24, false) }) (v := ?_) rfl (by kernel_rfl) (by kernel_rfl) (by kernel_rfl) (fun _ _ _ h => h) (Or.inl ⟨by rfl, ?_⟩) (by assumption) ?_
    rotate_left
    · intro w hSw
      (try dsimp only at hSw)
      go_simp
      try with_reducible rfl
    (try simp only [Act.put, List.setIfInBounds_toArray, List.set_cons_zero, List.set_cons_succ])
    refine wpAnyH_take (i := 28) (oi := { dst := some 43, op := Go.Op.move (Go.Operand.tmp 7), type := 83, pos := "law.go:155", after := #[{ on := 27, ground := Go.Ground.guard }], guard := some (27, true) }) (v := ?_) rfl (by kernel_rfl) (by kernel_rfl) (by kernel_rfl) (fun _ _ _ h => h) (Or.inl ⟨by rfl, ?_⟩) (by assumption) ?_
    rotate_left
    · intro w hSw
      (try dsimp only at hSw)
      go_simp
      try with_reducible rfl
    (try simp only [Act.put, List.setIfInBounds_toArray, List.set_cons_zero, List.set_cons_succ])
    refine wpAnyH_take (i := 29) (oi := { dst := some 44, op := Go.Op.binOp Go.BinOp.neq 83 (Go.Operand.tmp 43) (Go.Operand.const (Go.Value.int Go.IntKind.i64 1)) 83, type := 4, pos := "law.go:155", after := #[{ on := 28, ground := Go.Ground.data }, { on := 27, ground := Go.Ground.guard }], guard := some (27, true) }) (v := ?_) rfl (by kernel_rfl) (by kernel_rfl) (by kernel_rfl) (fun _ _ _ h => h) (Or.inl ⟨by rfl, ?_⟩) (by assumption) ?_
    rotate_left
    · intro w hSw
      (try dsimp only at hSw)
      go_simp
      try with_reducible rfl
    (try simp only [Act.put, List.setIfInBounds_toArray, List.set_cons_zero, List.set_cons_succ])
    refine wpAnyH_take (i := 30) (oi := { dst := some 45, op := Go.Op.pick (Go.Operand.tmp 42) (Go.Operand.tmp 44) (Go.Operand.const (Go.Value.bool false)), type := 4, pos := "law.go:155", after := #[{ on := 27, ground := Go.Ground.data }, { on := 29, ground := Go.Ground.data }, { on := 24, ground := Go.Ground.guard }], guard := some (24, false) }) (v := ?_) rfl (by kernel_rfl) (by kernel_rfl) (by kernel_rfl) (fun _ _ _ h => h) (Or.inl ⟨by rfl, ?_⟩) (by assumption) ?_
    rotate_left
    · intro w hSw
      (try dsimp only at hSw)
      go_simp
      try with_reducible rfl
    (try simp only [Act.put, List.setIfInBounds_toArray, List.set_cons_zero, List.set_cons_succ])
    refine wpAnyH_take (i := 31) (oi := { dst := some 46, op := Go.Op.pick (Go.Operand.tmp 39) (Go.Operand.const (Go.Value.bool true)) (Go.Operand.tmp 45), type := 4, pos := "law.go:155", after := #[{ on := 24, ground := Go.Ground.data }, { on := 30, ground := Go.Ground.data }], guard := none }) (v := ?_) rfl (by kernel_rfl) (by kernel_rfl) (by kernel_rfl) (fun _ _ _ h => h) (Or.inl ⟨by rfl, ?_⟩) (by assumption) ?_
    rotate_left
    · intro w hSw
      (try dsimp only at hSw)
      go_simp
      try with_reducible rfl
    (try simp only [Act.put, List.setIfInBounds_toArray, List.set_cons_zero, List.set_cons_succ])
    refine wpAnyH_done (by kernel_rfl) ?_ _
    clear hHeld
    have r0 : ∀ o, (w8.alloc o).cell? ⟨W.heap.size + 1, 0, none⟩ = some (.int .i64 kd1) := fun o => (World.cell?_alloc_lt _ _ _ (by show W.heap.size + 1 < _; omega)).trans s3
    have r1 : ∀ o, (w8.alloc o).cell? ⟨W.heap.size + 1, 1, none⟩ = some (.int .i64 kv1) := fun o => (World.cell?_alloc_lt _ _ _ (by show W.heap.size + 1 < _; omega)).trans s4
    have r2 : ∀ o, (w8.alloc o).cell? ⟨W.heap.size + 1, 2, none⟩ = some (.int .u64 (m1 : Int)) := fun o => (World.cell?_alloc_lt _ _ _ (by show W.heap.size + 1 < _; omega)).trans s5
    have r3 : ∀ o, (w8.alloc o).cell? ⟨W.heap.size + 1, 3, none⟩ = some (.int .i64 p1) := fun o => (World.cell?_alloc_lt _ _ _ (by show W.heap.size + 1 < _; omega)).trans s6
    have r4 : ∀ o, (w8.alloc o).cell? ⟨W.heap.size + 1, 4, none⟩ = some (.int .i64 d1) := fun o => (World.cell?_alloc_lt _ _ _ (by show W.heap.size + 1 < _; omega)).trans s7
    have r5 : ∀ o, (w8.alloc o).cell? ⟨W.heap.size + 1, 5, none⟩ = some (.int .u32 (n1 : Int)) := fun o => (World.cell?_alloc_lt _ _ _ (by show W.heap.size + 1 < _; omega)).trans s8
    have r6 : ∀ o, (w8.alloc o).cell? ⟨W.heap.size + 1, 6, none⟩ = some (.int .u32 (o1 : Int)) := fun o => (World.cell?_alloc_lt _ _ _ (by show W.heap.size + 1 < _; omega)).trans s9
    have HB8 : Hid (∀ o, Below W.heap.size W (w8.alloc o)) := fun o => HB.out.alloc (by omega) o
    have hz8 : ∀ o, W.heap.size + 2 ≤ (w8.alloc o).heap.size := fun o => by rw [World.size_alloc]; omega
    clear s0 s1 s2 s3 s4 s5 s6 s7 s8 s9
    go_wp2_with fail
    refine (HDO.out _).mono ?_
    rintro e w9 ⟨rfl, hb⟩
    have HB : Hid (Below W.heap.size W w9) := (HB8.out _).trans (hb.mono (by have := hz8 (.cells #[] 0); rw [World.size_alloc] at this ⊢; omega))
    clear hb r0 r1 r2 r3 r4 r5 r6 HB8 hz8 hz
    go_wp2_with fail
    refine (HCO.out _).mono ?_
    rintro e w10 ⟨rfl, hb⟩
    have HB := Lib.hid (HB.out.trans (hb.mono HB.out.size))
    clear hb
    go_wp2_with fail
    refine (HLI.out _).mono ?_
    rintro e w11 ⟨rfl, hb⟩
    have HB := Lib.hid (HB.out.trans (hb.mono HB.out.size))
    clear hb
    go_wp2_with fail
    refine (HBU.out _).mono ?_
    rintro e w12 ⟨rfl, hb⟩
    have HB := Lib.hid (HB.out.trans (hb.mono HB.out.size))
    clear hb
    go_wp2_with fail
    refine (HSZ.out _).mono ?_
    rintro e w13 ⟨rfl, hb⟩
    have HB := Lib.hid (HB.out.trans (hb.mono HB.out.size))
    clear hb
    go_wp2
    go_ret
    exact ⟨by simp, HB.out⟩
  · obtain ⟨⟨x1, x2⟩, ⟨x3, x4⟩, x5, x6⟩ := rightS_yes hr
    obtain ⟨S, rfl⟩ := Int.eq_ofNat_of_zero_le (show 0 ≤ a0 by omega)
    obtain ⟨B, rfl⟩ := Int.eq_ofNat_of_zero_le (show 0 ≤ e0 by omega)
    obtain ⟨n, rfl⟩ := Int.eq_ofNat_of_zero_le (show 0 ≤ c0 by omega)
    have HN := Lib.hid fun w => book_New S B n (by omega) (by omega) (by omega) w
    rw [hr] at HR1 HR2
    clear hr x1 x2 x3 x4 x5 x6
    go_enter Try.func11, Try.ntmps11
    go_wp2_with fail
    refine (HTO.out _).mono ?_
    rintro e w1 ⟨rfl, hb⟩
    have s0 : w1.cell? ⟨W.heap.size, 0, none⟩ = some (.int .i64 (S : Nat)) := by rw [(bcell hb).1 _ _ (by first | (simp; done) | (simp; omega))]; simp [go_sem]
    have s1 : w1.cell? ⟨W.heap.size, 1, none⟩ = some (.int .i64 (B : Nat)) := by rw [(bcell hb).1 _ _ (by first | (simp; done) | (simp; omega))]; simp [go_sem]
    have s2 : w1.cell? ⟨W.heap.size, 2, none⟩ = some (.int .i64 (n : Nat)) := by rw [(bcell hb).1 _ _ (by first | (simp; done) | (simp; omega))]; simp [go_sem]
    have s3 : w1.cell? ⟨W.heap.size + 1, 0, none⟩ = some (.int .i64 kd1) := by rw [(bcell hb).1 _ _ (by first | (simp; done) | (simp; omega))]; simp [go_sem]
    have s4 : w1.cell? ⟨W.heap.size + 1, 1, none⟩ = some (.int .i64 kv1) := by rw [(bcell hb).1 _ _ (by first | (simp; done) | (simp; omega))]; simp [go_sem]
    have s5 : w1.cell? ⟨W.heap.size + 1, 2, none⟩ = some (.int .u64 (m1 : Int)) := by rw [(bcell hb).1 _ _ (by first | (simp; done) | (simp; omega))]; simp [go_sem]
    have s6 : w1.cell? ⟨W.heap.size + 1, 3, none⟩ = some (.int .i64 p1) := by rw [(bcell hb).1 _ _ (by first | (simp; done) | (simp; omega))]; simp [go_sem]
    have s7 : w1.cell? ⟨W.heap.size + 1, 4, none⟩ = some (.int .i64 d1) := by rw [(bcell hb).1 _ _ (by first | (simp; done) | (simp; omega))]; simp [go_sem]
    have s8 : w1.cell? ⟨W.heap.size + 1, 5, none⟩ = some (.int .u32 (n1 : Int)) := by rw [(bcell hb).1 _ _ (by first | (simp; done) | (simp; omega))]; simp [go_sem]
    have s9 : w1.cell? ⟨W.heap.size + 1, 6, none⟩ = some (.int .u32 (o1 : Int)) := by rw [(bcell hb).1 _ _ (by first | (simp; done) | (simp; omega))]; simp [go_sem]
    have HB : Hid (Below W.heap.size W w1) := Below.trans (by (repeat' (first | (with_reducible exact Below.refl _ _) | (with_reducible assumption) | (with_reducible refine Below.setCell ?_ ?_ _) | (with_reducible refine Below.alloc ?_ ?_ _) | (with_reducible refine below_drewN ?_ _) | (with_reducible refine Below.drew ?_) | go_size))) (hb.mono (by go_size))
    have hz : W.heap.size + 2 ≤ w1.heap.size := by have := hb.size; simpa using this
    clear hb
    go_wp2_with fail
    refine (HN.out _).mono ?_
    rintro e w2 ⟨p, q, rfl, _, _, _, _, hb⟩
    have s0 := ((bcell hb).1 (W.heap.size) 0 (by omega)).trans s0
    have s1 := ((bcell hb).1 (W.heap.size) 1 (by omega)).trans s1
    have s2 := ((bcell hb).1 (W.heap.size) 2 (by omega)).trans s2
    have s3 := ((bcell hb).1 (W.heap.size + 1) 0 (by omega)).trans s3
    have s4 := ((bcell hb).1 (W.heap.size + 1) 1 (by omega)).trans s4
    have s5 := ((bcell hb).1 (W.heap.size + 1) 2 (by omega)).trans s5
    have s6 := ((bcell hb).1 (W.heap.size + 1) 3 (by omega)).trans s6
    have s7 := ((bcell hb).1 (W.heap.size + 1) 4 (by omega)).trans s7
    have s8 := ((bcell hb).1 (W.heap.size + 1) 5 (by omega)).trans s8
    have s9 := ((bcell hb).1 (W.heap.size + 1) 6 (by omega)).trans s9
    have HB := Lib.hid (HB.out.trans (hb.mono HB.out.size))
    have hz := Nat.le_trans hz hb.size
    clear hb
    go_wp2_with fail
    refine wp_region_held_drew (S := fun w' => w'.cell? ⟨W.heap.size, 0, none⟩ = some (.int .i64 (S : Nat)) ∧ w'.cell? ⟨W.heap.size, 1, none⟩ = some (.int .i64 (B : Nat)) ∧ w'.cell? ⟨W.heap.size, 2, none⟩ = some (.int .i64 (n : Nat))) (by kernel_rfl) ?_ (fun hHeld => ?_)
    · exact ⟨s0, s1, s2⟩
    refine wpAnyH_ready (rs := [0]) (by kernel_rfl) (by simp) ?_
    refine AllReadyH.cons (o := { dst := some 15, op := Go.Op.call { callee := Go.Callee.value (Go.Operand.func 39), args := #[], argTypes := #[] }, type := 4, pos := "law.go:155", after := #[], guard := none }) rfl (fun K hK => ?_) AllReadyH.nil
    go_simp
    refine (HTOLD.out _).mono ?_
    rintro e w3 ⟨rfl, hb⟩
    have hbd : Below w2.heap.size w2 w3 := ((Below.refl w2.heap.size w2).drew).trans hb
    have s0 := ((bcell hbd).1 (W.heap.size) 0 (by omega)).trans s0
    have s1 := ((bcell hbd).1 (W.heap.size) 1 (by omega)).trans s1
    have s2 := ((bcell hbd).1 (W.heap.size) 2 (by omega)).trans s2
    have s3 := ((bcell hbd).1 (W.heap.size + 1) 0 (by omega)).trans s3
    have s4 := ((bcell hbd).1 (W.heap.size + 1) 1 (by omega)).trans s4
    have s5 := ((bcell hbd).1 (W.heap.size + 1) 2 (by omega)).trans s5
    have s6 := ((bcell hbd).1 (W.heap.size + 1) 3 (by omega)).trans s6
    have s7 := ((bcell hbd).1 (W.heap.size + 1) 4 (by omega)).trans s7
    have s8 := ((bcell hbd).1 (W.heap.size + 1) 5 (by omega)).trans s8
    have s9 := ((bcell hbd).1 (W.heap.size + 1) 6 (by omega)).trans s9
    have HB := Lib.hid (HB.out.trans (hbd.mono HB.out.size))
    have hz := Nat.le_trans hz hbd.size
    clear hbd
    refine hK.out _ _ ?_ (fun hHeld => ?_)
    · (try dsimp only)
      obtain ⟨q0, q1, q2⟩ := hHeld
      exact ⟨s0, s1, s2⟩
    clear hK K
    (try simp only [Act.put, List.setIfInBounds_toArray, List.set_cons_zero, List.set_cons_succ])
    refine wpAnyH_take (i := 1) (oi := { dst := some 16, op := Go.Op.unOp Go.UnOp.not 4 (Go.Operand.tmp 15), type := 4, pos := "law.go:155", after := #[{ on := 0, ground := Go.Ground.data }], guard := none }) (v := ?_) rfl (by kernel_rfl) (by kernel_rfl) (by kernel_rfl) (fun _ _ _ h => h) (Or.inl ⟨by rfl, ?_⟩) (by assumption) ?_
    rotate_left
    · intro w hSw
      (try dsimp only at hSw)
      go_simp
      try with_reducible rfl
    (try simp only [Act.put, List.setIfInBounds_toArray, List.set_cons_zero, List.set_cons_succ])
    refine wpAnyH_take (i := 2) (oi := { dst := some 17, op := Go.Op.move (Go.Operand.tmp 16), type := 4, pos := "law.go:155", after := #[{ on := 1, ground := Go.Ground.data }, { on := 0, ground := Go.Ground.chain }], guard := none }) (v := ?_) rfl (by kernel_rfl) (by kernel_rfl) (by kernel_rfl) (fun _ _ _ h => h) (Or.inl ⟨by rfl, ?_⟩) (by assumption) ?_
    rotate_left
    · intro w hSw
      (try dsimp only at hSw)
      go_simp
      try with_reducible rfl
    (try simp only [Act.put, List.setIfInBounds_toArray, List.set_cons_zero, List.set_cons_succ])
    refine wpAnyH_take (i := 3) (oi := { dst := some 18, op := Go.Op.load 79 (Go.Operand.tmp 2), type := 79, pos := "law.go:155", after := #[{ on := 2, ground := Go.Ground.guard }], guard := some (2, false) }) (v := ?_) rfl (by kernel_rfl) (by kernel_rfl) (by kernel_rfl) (fun _ _ _ h => h) (Or.inl ⟨by rfl, ?_⟩) (by assumption) ?_
    rotate_left
    · intro w hSw
      (try dsimp only at hSw)
      go_simp
      try with_reducible rfl
    (try simp only [Act.put, List.setIfInBounds_toArray, List.set_cons_zero, List.set_cons_succ])
    refine wpAnyH_take (i := 6) (oi := { dst := some 21, op := Go.Op.load 79 (Go.Operand.tmp 2), type := 79, pos := "law.go:155", after := #[{ on := 2, ground := Go.Ground.guard }], guard := some (2, false) }) (v := ?_) rfl (by kernel_rfl) (by kernel_rfl) (by kernel_rfl) (fun _ _ _ h => h) (Or.inl ⟨by rfl, ?_⟩) (by assumption) ?_
    rotate_left
    · intro w hSw
      (try dsimp only at hSw)
      go_simp
      try with_reducible rfl
    (try simp only [Act.put, List.setIfInBounds_toArray, List.set_cons_zero, List.set_cons_succ])
    refine wpAnyH_ready (rs := [4]) (by kernel_rfl) (by simp) ?_
    refine AllReadyH.cons (o := { dst := some 19, op := Go.Op.call { callee := Go.Callee.value (Go.Operand.func 37), args := #[Go.Operand.tmp 18], argTypes := #[79] }, type := 86, pos := "law.go:155", after := #[{ on := 3, ground := Go.Ground.data }, { on := 2, ground := Go.Ground.chain }, { on := 2, ground := Go.Ground.guard }], guard := some (2, false) }) rfl (fun K hK => ?_) AllReadyH.nil
    go_simp
    refine (HTO.out _).mono ?_
    rintro e w4 ⟨rfl, hb⟩
    have hbd : Below w3.heap.size w3 w4 := hb
    have s0 := ((bcell hbd).1 (W.heap.size) 0 (by omega)).trans s0
    have s1 := ((bcell hbd).1 (W.heap.size) 1 (by omega)).trans s1
    have s2 := ((bcell hbd).1 (W.heap.size) 2 (by omega)).trans s2
    have s3 := ((bcell hbd).1 (W.heap.size + 1) 0 (by omega)).trans s3
    have s4 := ((bcell hbd).1 (W.heap.size + 1) 1 (by omega)).trans s4
    have s5 := ((bcell hbd).1 (W.heap.size + 1) 2 (by omega)).trans s5
    have s6 := ((bcell hbd).1 (W.heap.size + 1) 3 (by omega)).trans s6
    have s7 := ((bcell hbd).1 (W.heap.size + 1) 4 (by omega)).trans s7
    have s8 := ((bcell hbd).1 (W.heap.size + 1) 5 (by omega)).trans s8
    have s9 := ((bcell hbd).1 (W.heap.size + 1) 6 (by omega)).trans s9
    have HB := Lib.hid (HB.out.trans (hbd.mono HB.out.size))
    have hz := Nat.le_trans hz hbd.size
    clear hbd
    refine hK.out _ _ ?_ (fun hHeld => ?_)
    · (try dsimp only)
      obtain ⟨q0, q1, q2⟩ := hHeld
      exact ⟨s0, s1, s2⟩
    clear hK K
    (try simp only [Act.put, List.setIfInBounds_toArray, List.set_cons_zero, List.set_cons_succ])
    refine wpAnyH_ready (rs := [5]) (by kernel_rfl) (by simp) ?_
    refine AllReadyH.cons (o := { dst := some 20, op := Go.Op.call { callee := Go.Callee.value (Go.Operand.func 49), args := #[Go.Operand.tmp 19], argTypes := #[86] }, type := 4, pos := "law.go:155", after := #[{ on := 4, ground := Go.Ground.data }, { on := 4, ground := Go.Ground.chain }, { on := 2, ground := Go.Ground.guard }], guard := some (2, false) }) rfl (fun K hK => ?_) AllReadyH.nil
    go_simp
    refine (HR1.out _).mono ?_
    rintro e w5 ⟨rfl, hb⟩
    have hbd : Below w4.heap.size w4 w5 := hb
    have s0 := ((bcell hbd).1 (W.heap.size) 0 (by omega)).trans s0
    have s1 := ((bcell hbd).1 (W.heap.size) 1 (by omega)).trans s1
    have s2 := ((bcell hbd).1 (W.heap.size) 2 (by omega)).trans s2
    have s3 := ((bcell hbd).1 (W.heap.size + 1) 0 (by omega)).trans s3
    have s4 := ((bcell hbd).1 (W.heap.size + 1) 1 (by omega)).trans s4
    have s5 := ((bcell hbd).1 (W.heap.size + 1) 2 (by omega)).trans s5
    have s6 := ((bcell hbd).1 (W.heap.size + 1) 3 (by omega)).trans s6
    have s7 := ((bcell hbd).1 (W.heap.size + 1) 4 (by omega)).trans s7
    have s8 := ((bcell hbd).1 (W.heap.size + 1) 5 (by omega)).trans s8
    have s9 := ((bcell hbd).1 (W.heap.size + 1) 6 (by omega)).trans s9
    have HB := Lib.hid (HB.out.trans (hbd.mono HB.out.size))
    have hz := Nat.le_trans hz hbd.size
    clear hbd
    refine hK.out _ _ ?_ (fun hHeld => ?_)
    · (try dsimp only)
      obtain ⟨q0, q1, q2⟩ := hHeld
      exact ⟨s0, s1, s2⟩
    clear hK K
    (try simp only [Act.put, List.setIfInBounds_toArray, List.set_cons_zero, List.set_cons_succ])
    refine wpAnyH_ready (rs := [7]) (by kernel_rfl) (by simp) ?_
    refine AllReadyH.cons (o := { dst := some 22, op := Go.Op.call { callee := Go.Callee.value (Go.Operand.func 50), args := #[Go.Operand.tmp 21], argTypes := #[79] }, type := 4, pos := "law.go:155", after := #[{ on := 6, ground := Go.Ground.data }, { on := 5, ground := Go.Ground.chain }, { on := 2, ground := Go.Ground.guard }], guard := some (2, false) }) rfl (fun K hK => ?_) AllReadyH.nil
    go_simp
    refine (HR2.out _).mono ?_
    rintro e w6 ⟨rfl, hb⟩
    have hbd : Below w5.heap.size w5 w6 := hb
    have s0 := ((bcell hbd).1 (W.heap.size) 0 (by omega)).trans s0
    have s1 := ((bcell hbd).1 (W.heap.size) 1 (by omega)).trans s1
    have s2 := ((bcell hbd).1 (W.heap.size) 2 (by omega)).trans s2
    have s3 := ((bcell hbd).1 (W.heap.size + 1) 0 (by omega)).trans s3
    have s4 := ((bcell hbd).1 (W.heap.size + 1) 1 (by omega)).trans s4
    have s5 := ((bcell hbd).1 (W.heap.size + 1) 2 (by omega)).trans s5
    have s6 := ((bcell hbd).1 (W.heap.size + 1) 3 (by omega)).trans s6
    have s7 := ((bcell hbd).1 (W.heap.size + 1) 4 (by omega)).trans s7
    have s8 := ((bcell hbd).1 (W.heap.size + 1) 5 (by omega)).trans s8
    have s9 := ((bcell hbd).1 (W.heap.size + 1) 6 (by omega)).trans s9
    have HB := Lib.hid (HB.out.trans (hbd.mono HB.out.size))
    have hz := Nat.le_trans hz hbd.size
    clear hbd
    refine hK.out _ _ ?_ (fun hHeld => ?_)
    · (try dsimp only)
      obtain ⟨q0, q1, q2⟩ := hHeld
      exact ⟨s0, s1, s2⟩
    clear hK K
    (try simp only [Act.put, List.setIfInBounds_toArray, List.set_cons_zero, List.set_cons_succ])
    refine wpAnyH_take (i := 8) (oi := { dst := some 23, op := Go.Op.binOp Go.BinOp.neq 4 (Go.Operand.tmp 20) (Go.Operand.tmp 22) 4, type := 4, pos := "law.go:155", after := #[{ on := 5, ground := Go.Ground.data }, { on := 7, ground := Go.Ground.data }, { on := 2, ground := Go.Ground.guard }], guard := some (2, false) }) (v := ?_) rfl (by kernel_rfl) (by kernel_rfl) (by kernel_rfl) (fun _ _ _ h => h) (Or.inl ⟨by rfl, ?_⟩) (by assumption) ?_
    rotate_left
    · intro w hSw
      (try dsimp only at hSw)
      go_simp
      try with_reducible rfl
    (try simp only [Act.put, List.setIfInBounds_toArray, List.set_cons_zero, List.set_cons_succ])
    refine wpAnyH_take (i := 9) (oi := { dst := some 24, op := Go.Op.pick (Go.Operand.tmp 17) (Go.Operand.const (Go.Value.bool true)) (Go.Operand.tmp 23), type := 4, pos := "law.go:155", after := #[{ on := 2, ground := Go.Ground.data }, { on := 8, ground := Go.Ground.data }], guard := none }) (v := ?_) rfl (by kernel_rfl) (by kernel_rfl) (by kernel_rfl) (fun _ _ _ h => h) (Or.inl ⟨by rfl, ?_⟩) (by assumption) ?_
    rotate_left
    · intro w hSw
      (try dsimp only at hSw)
      go_simp
      try with_reducible rfl
    (try simp only [Act.put, List.setIfInBounds_toArray, List.set_cons_zero, List.set_cons_succ])
    refine wpAnyH_take (i := 10) (oi := { dst := some 25, op := Go.Op.move (Go.Operand.tmp 24), type := 4, pos := "law.go:155", after := #[{ on := 9, ground := Go.Ground.data }, { on := 7, ground := Go.Ground.chain }], guard := none }) (v := ?_) rfl (by kernel_rfl) (by kernel_rfl) (by kernel_rfl) (fun _ _ _ h => h) (Or.inl ⟨by rfl, ?_⟩) (by assumption) ?_
    rotate_left
    · intro w hSw
      (try dsimp only at hSw)
      go_simp
      try with_reducible rfl
    (try simp only [Act.put, List.setIfInBounds_toArray, List.set_cons_zero, List.set_cons_succ])
    refine wpAnyH_take (i := 11) (oi := { dst := some 26, op := Go.Op.move (Go.Operand.tmp 6), type := 82, pos := "law.go:155", after := #[{ on := 10, ground := Go.Ground.guard }], guard := some (10, false) }) (v := ?_) rfl (by kernel_rfl) (by kernel_rfl) (by kernel_rfl) (fun _ _ _ h => h) (Or.inl ⟨by rfl, ?_⟩) (by assumption) ?_
    rotate_left
    · intro w hSw
      (try dsimp only at hSw)
      go_simp
      try with_reducible rfl
    (try simp only [Act.put, List.setIfInBounds_toArray, List.set_cons_zero, List.set_cons_succ])
    refine wpAnyH_take (i := 12) (oi := { dst := some 27, op := Go.Op.binOp Go.BinOp.neq 82 (Go.Operand.tmp 26) (Go.Operand.const (Go.Value.pointer none)) 82, type := 4, pos := "law.go:155", after := #[{ on := 11, ground := Go.Ground.data }, { on := 10, ground := Go.Ground.guard }], guard := some (10, false) }) (v := ?_) rfl (by kernel_rfl) (by kernel_rfl) (by kernel_rfl) (fun _ _ _ h => h) (Or.inl ⟨by rfl, ?_⟩) (by assumption) ?_
    rotate_left
    · intro w hSw
      (try dsimp only at hSw)
      go_simp
      try with_reducible rfl
    (try simp only [Act.put, List.setIfInBounds_toArray, List.set_cons_zero, List.set_cons_succ])
    refine wpAnyH_take (i := 13) (oi := { dst := some 28, op := Go.Op.load 79 (Go.Operand.tmp 2), type := 79, pos := "law.go:155", after := #[{ on := 10, ground := Go.Ground.guard }], guard := some (10, false) }) (v := ?_) rfl (by kernel_rfl) (by kernel_rfl) (by kernel_rfl) (fun _ _ _ h => h) (Or.inl ⟨by rfl, ?_⟩) (by assumption) ?_
    rotate_left
    · intro w hSw
      (try dsimp only at hSw)
      go_simp
      try with_reducible rfl
    (try simp only [Act.put, List.setIfInBounds_toArray, List.set_cons_zero, List.set_cons_succ])
    refine wpAnyH_ready (rs := [14]) (by kernel_rfl) (by simp) ?_
    refine AllReadyH.cons (o := { dst := some 29, op := Go.Op.call { callee := Go.Callee.value (Go.Operand.func 50), args := #[Go.Operand.tmp 28], argTypes := #[79] }, type := 4, pos := "law.go:155", after := #[{ on := 13, ground := Go.Ground.data }, { on := 10, ground := Go.Ground.chain }, { on := 10, ground := Go.Ground.guard }], guard := some (10, false) }) rfl (fun K hK => ?_) AllReadyH.nil
    go_simp
    refine (HR2.out _).mono ?_
    rintro e w7 ⟨rfl, hb⟩
    have hbd : Below w6.heap.size w6 w7 := hb
    have s0 := ((bcell hbd).1 (W.heap.size) 0 (by omega)).trans s0
    have s1 := ((bcell hbd).1 (W.heap.size) 1 (by omega)).trans s1
    have s2 := ((bcell hbd).1 (W.heap.size) 2 (by omega)).trans s2
    have s3 := ((bcell hbd).1 (W.heap.size + 1) 0 (by omega)).trans s3
    have s4 := ((bcell hbd).1 (W.heap.size + 1) 1 (by omega)).trans s4
    have s5 := ((bcell hbd).1 (W.heap.size + 1) 2 (by omega)).trans s5
    have s6 := ((bcell hbd).1 (W.heap.size + 1) 3 (by omega)).trans s6
    have s7 := ((bcell hbd).1 (W.heap.size + 1) 4 (by omega)).trans s7
    have s8 := ((bcell hbd).1 (W.heap.size + 1) 5 (by omega)).trans s8
    have s9 := ((bcell hbd).1 (W.heap.size + 1) 6 (by omega)).trans s9
    have HB := Lib.hid (HB.out.trans (hbd.mono HB.out.size))
    have hz := Nat.le_trans hz hbd.size
    clear hbd
    refine hK.out _ _ ?_ (fun hHeld => ?_)
    · (try dsimp only)
      obtain ⟨q0, q1, q2⟩ := hHeld
      exact ⟨s0, s1, s2⟩
    clear hK K
    (try simp only [Act.put, List.setIfInBounds_toArray, List.set_cons_zero, List.set_cons_succ])
    refine wpAnyH_take (i := 15) (oi := { dst := some 30, op := Go.Op.binOp Go.BinOp.neq 4 (Go.Operand.tmp 27) (Go.Operand.tmp 29) 4, type := 4, pos := "law.go:155", after := #[{ on := 12, ground := Go.Ground.data }, { on := 14, ground := Go.Ground.data }, { on := 10, ground := Go.Ground.guard }], guard := some (10, false) }) (v := ?_) rfl (by kernel_rfl) (by kernel_rfl) (by kernel_rfl) (fun _ _ _ h => h) (Or.inl ⟨by rfl, ?_⟩) (by assumption) ?_
    rotate_left
    · intro w hSw
      (try dsimp only at hSw)
      go_simp
      try with_reducible rfl
    (try simp only [Act.put, List.setIfInBounds_toArray, List.set_cons_zero, List.set_cons_succ])
    refine wpAnyH_take (i := 16) (oi := { dst := some 31, op := Go.Op.pick (Go.Operand.tmp 25) (Go.Operand.const (Go.Value.bool true)) (Go.Operand.tmp 30), type := 4, pos := "law.go:155", after := #[{ on := 10, ground := Go.Ground.data }, { on := 15, ground := Go.Ground.data }], guard := none }) (v := ?_) rfl (by kernel_rfl) (by kernel_rfl) (by kernel_rfl) (fun _ _ _ h => h) (Or.inl ⟨by rfl, ?_⟩) (by assumption) ?_
    rotate_left
    · intro w hSw
      (try dsimp only at hSw)
      go_simp
      try with_reducible rfl
    (try simp only [Act.put, List.setIfInBounds_toArray, List.set_cons_zero, List.set_cons_succ])
    refine wpAnyH_take (i := 17) (oi := { dst := some 32, op := Go.Op.move (Go.Operand.tmp 31), type := 4, pos := "law.go:155", after := #[{ on := 16, ground := Go.Ground.data }, { on := 14, ground := Go.Ground.chain }], guard := none }) (v := ?_) rfl (by kernel_rfl) (by kernel_rfl) (by kernel_rfl) (fun _ _ _ h => h) (Or.inl ⟨by rfl, ?_⟩) (by assumption) ?_
    rotate_left
    · intro w hSw
      (try dsimp only at hSw)
      go_simp
      try with_reducible rfl
    (try simp only [Act.put, List.setIfInBounds_toArray, List.set_cons_zero, List.set_cons_succ])
    refine wpAnyH_take (i := 18) (oi := { dst := some 33, op := Go.Op.move (Go.Operand.tmp 7), type := 83, pos := "law.go:155", after := #[{ on := 17, ground := Go.Ground.guard }], guard := some (17, false) }) (v := ?_) rfl (by kernel_rfl) (by kernel_rfl) (by kernel_rfl) (fun _ _ _ h => h) (Or.inl ⟨by rfl, ?_⟩) (by assumption) ?_
    rotate_left
    · intro w hSw
      (try dsimp only at hSw)
      go_simp
      try with_reducible rfl
    (try simp only [Act.put, List.setIfInBounds_toArray, List.set_cons_zero, List.set_cons_succ])
    refine wpAnyH_take (i := 19) (oi := { dst := some 34, op := Go.Op.binOp Go.BinOp.eql 83 (Go.Operand.tmp 33) (Go.Operand.const (Go.Value.int Go.IntKind.i64 0)) 83, type := 4, pos := "law.go:155", after := #[{ on := 18, ground := Go.Ground.data }, { on := 17, ground := Go.Ground.guard }], guard := some (17, false) }) (v := ?_) rfl (by kernel_rfl) (by kernel_rfl) (by kernel_rfl) (fun _ _ _ h => h) (Or.inl ⟨by rfl, ?_⟩) (by assumption) ?_
    rotate_left
    · intro w hSw
      (try dsimp only at hSw)
      go_simp
      try with_reducible rfl
    (try simp only [Act.put, List.setIfInBounds_toArray, List.set_cons_zero, List.set_cons_succ])
    refine wpAnyH_take (i := 20) (oi := { dst := some 35, op := Go.Op.load 79 (Go.Operand.tmp 2), type := 79, pos := "law.go:155", after := #[{ on := 17, ground := Go.Ground.guard }], guard := some (17, false) }) (v := ?_) rfl (by kernel_rfl) (by kernel_rfl) (by kernel_rfl) (fun _ _ _ h => h) (Or.inl ⟨by rfl, ?_⟩) (by assumption) ?_
    rotate_left
    · intro w hSw
      (try dsimp only at hSw)
      go_simp
      try with_reducible rfl
    (try simp only [Act.put, List.setIfInBounds_toArray, List.set_cons_zero, List.set_cons_succ])
    refine wpAnyH_ready (rs := [21]) (by kernel_rfl) (by simp) ?_
    refine AllReadyH.cons (o := { dst := some 36, op := Go.Op.call { callee := Go.Callee.value (Go.Operand.func 50), args := #[Go.Operand.tmp 35], argTypes := #[79] }, type := 4, pos := "law.go:155", after := #[{ on := 20, ground := Go.Ground.data }, { on := 17, ground := Go.Ground.chain }, { on := 17, ground := Go.Ground.guard }], guard := some (17, false) }) rfl (fun K hK => ?_) AllReadyH.nil
    go_simp
    refine (HR2.out _).mono ?_
    rintro e w8 ⟨rfl, hb⟩
    have hbd : Below w7.heap.size w7 w8 := hb
    have s0 := ((bcell hbd).1 (W.heap.size) 0 (by omega)).trans s0
    have s1 := ((bcell hbd).1 (W.heap.size) 1 (by omega)).trans s1
    have s2 := ((bcell hbd).1 (W.heap.size) 2 (by omega)).trans s2
    have s3 := ((bcell hbd).1 (W.heap.size + 1) 0 (by omega)).trans s3
    have s4 := ((bcell hbd).1 (W.heap.size + 1) 1 (by omega)).trans s4
    have s5 := ((bcell hbd).1 (W.heap.size + 1) 2 (by omega)).trans s5
    have s6 := ((bcell hbd).1 (W.heap.size + 1) 3 (by omega)).trans s6
    have s7 := ((bcell hbd).1 (W.heap.size + 1) 4 (by omega)).trans s7
    have s8 := ((bcell hbd).1 (W.heap.size + 1) 5 (by omega)).trans s8
    have s9 := ((bcell hbd).1 (W.heap.size + 1) 6 (by omega)).trans s9
    have HB := Lib.hid (HB.out.trans (hbd.mono HB.out.size))
    have hz := Nat.le_trans hz hbd.size
    clear hbd
    refine hK.out _ _ ?_ (fun hHeld => ?_)
    · (try dsimp only)
      obtain ⟨q0, q1, q2⟩ := hHeld
      exact ⟨s0, s1, s2⟩
    clear hK K
    (try simp only [Act.put, List.setIfInBounds_toArray, List.set_cons_zero, List.set_cons_succ])
    refine wpAnyH_take (i := 22) (oi := { dst := some 37, op := Go.Op.binOp Go.BinOp.neq 4 (Go.Operand.tmp 34) (Go.Operand.tmp 36) 4, type := 4, pos := "law.go:155", after := #[{ on := 19, ground := Go.Ground.data }, { on := 21, ground := Go.Ground.data }, { on := 17, ground := Go.Ground.guard }], guard := some (17, false) }) (v := ?_) rfl (by kernel_rfl) (by kernel_rfl) (by kernel_rfl) (fun _ _ _ h => h) (Or.inl ⟨by rfl, ?_⟩) (by assumption) ?_
    rotate_left
    · intro w hSw
      (try dsimp only at hSw)
      go_simp
      try with_reducible rfl
    (try simp only [Act.put, List.setIfInBounds_toArray, List.set_cons_zero, List.set_cons_succ])
    refine wpAnyH_take (i := 23) (oi := { dst := some 38, op := Go.Op.pick (Go.Operand.tmp 32) (Go.Operand.const (Go.Value.bool true)) (Go.Operand.tmp 37), type := 4, pos := "law.go:155", after := #[{ on := 17, ground := Go.Ground.data }, { on := 22, ground := Go.Ground.data }], guard := none }) (v := ?_) rfl (by kernel_rfl) (by kernel_rfl) (by kernel_rfl) (fun _ _ _ h => h) (Or.inl ⟨by rfl, ?_⟩) (by assumption) ?_
    rotate_left
    · intro w hSw
      (try dsimp only at hSw)
      go_simp
      try with_reducible rfl
    (try simp only [Act.put, List.setIfInBounds_toArray, List.set_cons_zero, List.set_cons_succ])
    refine wpAnyH_take (i := 24) (oi := { dst := some 39, op := Go.Op.move (Go.Operand.tmp 38), type := 4, pos := "law.go:155", after := #[{ on := 23, ground := Go.Ground.data }, { on := 21, ground := Go.Ground.chain }], guard := none }) (v := ?_) rfl (by kernel_rfl) (by kernel_rfl) (by kernel_rfl) (fun _ _ _ h => h) (Or.inl ⟨by rfl, ?_⟩) (by assumption) ?_
    rotate_left
    · intro w hSw
      (try dsimp only at hSw)
      go_simp
      try with_reducible rfl
    (try simp only [Act.put, List.setIfInBounds_toArray, List.set_cons_zero, List.set_cons_succ])
    refine wpAnyH_take (i := 25) (oi := { dst := some 40, op := Go.Op.move (Go.Operand.tmp 7), type := 83, pos := "law.go:155", after := #[{ on := 24, ground := Go.Ground.guard }], guard := some (24, false) }) (v := ?_) rfl (by kernel_rfl) (by kernel_rfl) (by kernel_rfl) (fun _ _ _ h => h) (Or.inl ⟨by rfl, ?_⟩) (by assumption) ?_
    rotate_left
    · intro w hSw
      (try dsimp only at hSw)
      go_simp
      try with_reducible rfl
    (try simp only [Act.put, List.setIfInBounds_toArray, List.set_cons_zero, List.set_cons_succ])
    refine wpAnyH_take (i := 26) (oi := { dst := some 41, op := Go.Op.binOp Go.BinOp.neq 83 (Go.Operand.tmp 40) (Go.Operand.const (Go.Value.int Go.IntKind.i64 0)) 83, type := 4, pos := "law.go:155", after := #[{ on := 25, ground := Go.Ground.data }, { on := 24, ground := Go.Ground.guard }], guard := some (24, false) }) (v := ?_) rfl (by kernel_rfl) (by kernel_rfl) (by kernel_rfl) (fun _ _ _ h => h) (Or.inl ⟨by rfl, ?_⟩) (by assumption) ?_
    rotate_left
    · intro w hSw
      (try dsimp only at hSw)
      go_simp
      try with_reducible rfl
    (try simp only [Act.put, List.setIfInBounds_toArray, List.set_cons_zero, List.set_cons_succ])
    refine wpAnyH_take (i := 27) (oi := { dst := some 42, op := Go.Op.move (Go.Operand.tmp 41), type := 4, pos := "law.go:155", after := #[{ on := 26, ground := Go.Ground.data }, { on := 24, ground := Go.Ground.chain }, { on := 24, ground := Go.Ground.guard }], guard := some (24, false) }) (v := ?_) rfl (by kernel_rfl) (by kernel_rfl) (by kernel_rfl) (fun _ _ _ h => h) (Or.inl ⟨by rfl, ?_⟩) (by assumption) ?_
    rotate_left
    · intro w hSw
      (try dsimp only at hSw)
      go_simp
      try with_reducible rfl
    (try simp only [Act.put, List.setIfInBounds_toArray, List.set_cons_zero, List.set_cons_succ])
    refine wpAnyH_take (i := 28) (oi := { dst := some 43, op := Go.Op.move (Go.Operand.tmp 7), type := 83, pos := "law.go:155", after := #[{ on := 27, ground := Go.Ground.guard }], guard := some (27, true) }) (v := undef) rfl (by kernel_rfl) (by kernel_rfl) (by kernel_rfl) (fun _ _ _ h => h) (Or.inr ⟨by rfl, rfl⟩) (by assumption) ?_
    (try simp only [Act.put, List.setIfInBounds_toArray, List.set_cons_zero, List.set_cons_succ])
    refine wpAnyH_take (i := 29) (oi := { dst := some 44, op := Go.Op.binOp Go.BinOp.neq 83 (Go.Operand.tmp 43) (Go.Operand.const (Go.Value.int Go.IntKind.i64 1)) 83, type := 4, pos := "law.go:155", after := #[{ on := 28, ground := Go.Ground.data }, { on := 27, ground := Go.Ground.guard }], guard := some (27, true) }) (v := undef) rfl (by kernel_rfl) (by kernel_rfl) (by kernel_rfl) (fun _ _ _ h => h) (Or.inr ⟨by rfl, rfl⟩) (by assumption) ?_
    (try simp only [Act.put, List.setIfInBounds_toArray, List.set_cons_zero, List.set_cons_succ])
    refine wpAnyH_take (i := 30) (oi := { dst := some 45, op := Go.Op.pick (Go.Operand.tmp 42) (Go.Operand.tmp 44) (Go.Operand.const (Go.Value.bool false)), type := 4, pos := "law.go:155", after := #[{ on := 27, ground := Go.Ground.data }, { on := 29, ground := Go.Ground.data }, { on := 24, ground := Go.Ground.guard }], guard := some (24, false) }) (v := ?_) rfl (by kernel_rfl) (by kernel_rfl) (by kernel_rfl) (fun _ _ _ h => h) (Or.inl ⟨by rfl, ?_⟩) (by assumption) ?_
    rotate_left
    · intro w hSw
      (try dsimp only at hSw)
      go_simp
      try with_reducible rfl
    (try simp only [Act.put, List.setIfInBounds_toArray, List.set_cons_zero, List.set_cons_succ])
    refine wpAnyH_take (i := 31) (oi := { dst := some 46, op := Go.Op.pick (Go.Operand.tmp 39) (Go.Operand.const (Go.Value.bool true)) (Go.Operand.tmp 45), type := 4, pos := "law.go:155", after := #[{ on := 24, ground := Go.Ground.data }, { on := 30, ground := Go.Ground.data }], guard := none }) (v := ?_) rfl (by kernel_rfl) (by kernel_rfl) (by kernel_rfl) (fun _ _ _ h => h) (Or.inl ⟨by rfl, ?_⟩) (by assumption) ?_
    rotate_left
    · intro w hSw
      (try dsimp only at hSw)
      go_simp
      try with_reducible rfl
    (try simp only [Act.put, List.setIfInBounds_toArray, List.set_cons_zero, List.set_cons_succ])
    refine wpAnyH_done (by kernel_rfl) ?_ _
    clear hHeld
    have r0 : ∀ o, (w8.alloc o).cell? ⟨W.heap.size + 1, 0, none⟩ = some (.int .i64 kd1) := fun o => (World.cell?_alloc_lt _ _ _ (by show W.heap.size + 1 < _; omega)).trans s3
    have r1 : ∀ o, (w8.alloc o).cell? ⟨W.heap.size + 1, 1, none⟩ = some (.int .i64 kv1) := fun o => (World.cell?_alloc_lt _ _ _ (by show W.heap.size + 1 < _; omega)).trans s4
    have r2 : ∀ o, (w8.alloc o).cell? ⟨W.heap.size + 1, 2, none⟩ = some (.int .u64 (m1 : Int)) := fun o => (World.cell?_alloc_lt _ _ _ (by show W.heap.size + 1 < _; omega)).trans s5
    have r3 : ∀ o, (w8.alloc o).cell? ⟨W.heap.size + 1, 3, none⟩ = some (.int .i64 p1) := fun o => (World.cell?_alloc_lt _ _ _ (by show W.heap.size + 1 < _; omega)).trans s6
    have r4 : ∀ o, (w8.alloc o).cell? ⟨W.heap.size + 1, 4, none⟩ = some (.int .i64 d1) := fun o => (World.cell?_alloc_lt _ _ _ (by show W.heap.size + 1 < _; omega)).trans s7
    have r5 : ∀ o, (w8.alloc o).cell? ⟨W.heap.size + 1, 5, none⟩ = some (.int .u32 (n1 : Int)) := fun o => (World.cell?_alloc_lt _ _ _ (by show W.heap.size + 1 < _; omega)).trans s8
    have r6 : ∀ o, (w8.alloc o).cell? ⟨W.heap.size + 1, 6, none⟩ = some (.int .u32 (o1 : Int)) := fun o => (World.cell?_alloc_lt _ _ _ (by show W.heap.size + 1 < _; omega)).trans s9
    have HB8 : Hid (∀ o, Below W.heap.size W (w8.alloc o)) := fun o => HB.out.alloc (by omega) o
    have hz8 : ∀ o, W.heap.size + 2 ≤ (w8.alloc o).heap.size := fun o => by rw [World.size_alloc]; omega
    clear s0 s1 s2 s3 s4 s5 s6 s7 s8 s9
    go_wp2_with fail
    refine (HDO.out _).mono ?_
    rintro e w9 ⟨rfl, hb⟩
    have HB : Hid (Below W.heap.size W w9) := (HB8.out _).trans (hb.mono (by have := hz8 (.cells #[] 0); rw [World.size_alloc] at this ⊢; omega))
    clear hb r0 r1 r2 r3 r4 r5 r6 HB8 hz8 hz
    go_wp2_with fail
    refine (HCO.out _).mono ?_
    rintro e w10 ⟨rfl, hb⟩
    have HB := Lib.hid (HB.out.trans (hb.mono HB.out.size))
    clear hb
    go_wp2_with fail
    refine (HLI.out _).mono ?_
    rintro e w11 ⟨rfl, hb⟩
    have HB := Lib.hid (HB.out.trans (hb.mono HB.out.size))
    clear hb
    go_wp2_with fail
    refine (HBU.out _).mono ?_
    rintro e w12 ⟨rfl, hb⟩
    have HB := Lib.hid (HB.out.trans (hb.mono HB.out.size))
    clear hb
    go_wp2_with fail
    refine (HSZ.out _).mono ?_
    rintro e w13 ⟨rfl, hb⟩
    have HB := Lib.hid (HB.out.trans (hb.mono HB.out.size))
    clear hb
    go_wp2
    go_ret
    exact ⟨by simp, HB.out⟩

set_option maxRecDepth 100000 in
/-- What the walk gives, for every argument: the row's own words. -/
theorem contract (H : Type) (enc : TypeId × Value → H) (W : World) (base : Nat) (args : Array Value) (ds gs : List (DataW H)) (before : List MemPlace)
    (hval : ∀ (j : Nat) t v, Try.f11.params[j]? = some t → args[j]? = some v → Value.okWide Try.prog W .any base t v)
    (hW : DataW.Whole enc Try.prog Try.f11.params.toList Rows.bookNewsSpec.vars false W args.toList ds gs before) :
    Calls Try.prog 11 args W fun e W' => ∃ v, e = .returned v ∧ Rows.bookNewsSpec.post enc Try.prog Try.f11 false true false false W args v W' := by
  have hW' := hW
  obtain ⟨p, q, hA0, hV, rfl, hfz, hnd⟩ := hW
  have hA : DataW.TrodAll enc Try.prog W 0 (fun _ => true) true Try.f11.params.toList args.toList ds p := hA0
  rw [Try.params11] at hA hval
  obtain ⟨v0, vs0, d0, ds0, p0, q0, hargs, rfl, rfl, h0, r0⟩ := trodAll_cons hA
  obtain ⟨v1, vs1, d1, ds1, p1, q1, rfl, rfl, rfl, h1, r1⟩ := trodAll_cons r0
  obtain ⟨rfl, rfl, rfl⟩ := trodAll_nil r1
  obtain rfl : args = #[v0, v1] := by cases args; simp_all
  obtain ⟨a0, e0, c0, rfl⟩ := open_size Try.underlying79 (t0 := 3) (t1 := 3) (t2 := 3) (by kernel_rfl) (by kernel_rfl) (by kernel_rfl) (by kernel_rfl) (by kernel_rfl) (hval 0 79 v0 rfl rfl) h0
  obtain ⟨kd1, kv1, m1, pp1, dd1, n1, o1, rfl, hm1, hn1, ho1⟩ := open_op11 Try.underlying93 (t0 := 3) (t1 := 3) (t2 := 23) (t3 := 3) (t4 := 3) (t5 := 26) (t6 := 26) (by kernel_rfl) (by kernel_rfl) (by kernel_rfl) (by kernel_rfl) (by kernel_rfl) (by kernel_rfl) (by kernel_rfl) (by kernel_rfl) (by kernel_rfl) (hval 1 93 v1 rfl rfl) h1
  refine (walk W a0 e0 c0 kd1 kv1 m1 pp1 dd1 n1 o1 hm1 hn1 ho1).mono fun e W' ⟨he, hb⟩ => ?_
  subst he
  exact close_true (by kernel_rfl) Try.underlying4 (by kernel_rfl) (by kernel_rfl) rfl rfl hW' hb

set_option maxRecDepth 100000 in
theorem lifted (os : Os) (started : os.Started) (H : Type) (enc : TypeId × Value → H) :
    ReturnsInHanded {} Try.checked os 11 .any (Rows.bookNewsSpec.pre6 enc Try.prog Try.f11 Rows.bookNewsRow.domain false) (Rows.bookNewsSpec.post enc Try.prog Try.f11 false true false false) := by
  refine returnsInHanded_of_change (C := Try.checked) own started (by kernel_rfl) Try.func11
    (ChangeSpec.witness6 (enc := enc) (C := Try.checked) false ⟨#[], #[.agg #[.int .i64 0, .int .i64 0, .int .i64 0], .agg #[.int .i64 0, .int .i64 0, .int .u64 0, .int .i64 0, .int .i64 0, .int .u32 0, .int .u32 0]], []⟩ 8 (by kernel_rfl) (by kernel_rfl) (by kernel_rfl) (by kernel_rfl)) ?_
  intro W base args ds gs before hval hW _ _
  exact contract H enc W base args ds gs before hval hW

theorem proved : Rows.BookNewsSaid :=
  OpenClaim.holds_of_wide 11 Try.f11 rfl rfl rfl rfl rfl rfl rfl ⟨rfl, rfl, rfl, rfl, rfl⟩ rfl rfl rfl rfl rfl (by kernel_rfl) Try.func11 (by kernel_rfl)
    (of_decide_eq_true (by kernel_rfl)) (by unfold Func.isWrapper; first | (rw [if_pos (by decide +kernel)]; kernel_rfl) | (rw [if_neg (by decide +kernel)]; exact ⟨rfl, rfl⟩))
    (fun os started H enc _ => lifted os started H enc)
#print axioms proved
end Go.Proofs.Ytocdljhjmhmfkaa.bookNews
