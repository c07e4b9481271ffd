/-
  Of all buckets the program tells which entries are gone by age, and which by a filter, and how many, as the document tells. No condition.
-/
import Derived.Test.YtocdljhjmhmfkaaRows
import Derived.Test.YtocdljhjmhmfkaaBuK
import Derived.Test.YtocdljhjmhmfkaaBuL
import Derived.Test.YtocdljhjmhmfkaaBuM
import Derived.Test.YtocdljhjmhmfkaaBuO
import Derived.Test.YtocdljhjmhmfkaaBuP
import Derived.Test.YtocdljhjmhmfkaaOpenBu
import Derived.Test.YtocdljhjmhmfkaaOpenBw
import Derived.WalkKit
import Derived.ProofKit
import Derived.OpenShut
namespace Go.Proofs.Ytocdljhjmhmfkaa.bucketAges
open Go.ChangeShapes Go.WideShapes Go.ChangeAt Go.RowKit
open Go.ChangeMaps (open_string)
set_option linter.unusedVariables false

theorem own : ownKnob Try.prog.godebug = none := by kernel_rfl

set_option maxHeartbeats 6400000 in
theorem walk (W : World) (a0 : Value) (n0 : Nat) (f0 : Nat → Pl) (b0 : PlRow W W.heap.size a0 n0 f0) (c0 : ∀ i, i < n0 → (f0 i).e.ok) (a1 e1 : Nat) (c1 : a1 < 4294967296) (d1 : e1 < 4294967296) (a2 e2 : Int) :
    Calls Try.prog 5 #[a0, .agg #[.int .u32 (a1 : Int), .int .u32 (e1 : Int)], .agg #[.int .i64 a2, .int .i64 e2]] W (Says (.bool true) W) := by
  obtain ⟨N, hN⟩ : ∃ N, N = min n0 8 := ⟨_, rfl⟩
  obtain ⟨F, hF⟩ : ∃ F, F = fixR f0 N := ⟨_, rfl⟩
  have HST : Hid (∀ i, i < N → (F i).e.stamp < 4294967296) := by rw [hF]; exact fixR_stamp N fun i hi => (c0 i (by omega)).2.2.2
  have HN : Hid (N ≤ 1000000) := by show N ≤ _; omega
  have HB0 := Lib.hid b0
  have HFIX := Lib.hid fun w (h : PlRow w W.heap.size a0 n0 f0) (hb : W.heap.size ≤ w.heap.size) => ref10_Fix hN h hb c0
  rw [← hF] at HFIX
  have HA1 := Lib.hid fun w v (h : PlRow w w.heap.size v N F) => bucket_Age HN.out h (Nat.le_refl _) a1 e1 c1 HST.out
  have HA2 := Lib.hid fun w v (h : PlRow w w.heap.size v N F) => ref10_Age HN.out h (Nat.le_refl _) a1 e1 c1 HST.out
  have HF1 := Lib.hid fun w v (h : PlRow w w.heap.size v N F) => bucket_Flush HN.out h (Nat.le_refl _) a2 e2
  have HF2 := Lib.hid fun w v (h : PlRow w w.heap.size v N F) => ref10_Flush HN.out h (Nat.le_refl _) a2 e2
  generalize sweepF (fun i => ownP (F i)) (oldE a1 e1) = g1 at *
  generalize goneF (fun i => ownP (F i)) (oldE a1 e1) N = q1 at *
  generalize sweepF (fun i => ownP (F i)) (hitE a2 e2) = g2 at *
  generalize goneF (fun i => ownP (F i)) (hitE a2 e2) N = q2 at *
  clear hF hN b0 c0 c1 d1
  go_enter Try.func5, Try.ntmps5
  go_wp2_with fail
  refine Calls.mono (HFIX.out _ (HB0.out.below (by (repeat' (first | (with_reducible exact Below.refl _ _) | (with_reducible assumption) | (with_reducible refine Below.setCell ?_ ?_ _) | (with_reducible refine Below.alloc ?_ ?_ _) | (with_reducible refine below_drewN ?_ _) | (with_reducible refine Below.drew ?_) | go_size)))) (by go_size)) ?_
  intro e w1 hpost
  obtain ⟨vl, he, hrl, hb⟩ := hpost
  (try simp only [id] at he)
  subst he
  obtain ⟨hcc, _⟩ := bcell hb
  have s0 : w1.cell? ⟨W.heap.size, 0, none⟩ = some (.int .u32 (a1 : Int)) := by rw [hcc _ _ (by first | (simp; done) | (simp; omega))]; simp [go_sem]
  have s1 : w1.cell? ⟨W.heap.size, 1, none⟩ = some (.int .u32 (e1 : Int)) := by rw [hcc _ _ (by first | (simp; done) | (simp; omega))]; simp [go_sem]
  have s2 : w1.cell? ⟨W.heap.size + 1, 0, none⟩ = some (.int .i64 a2) := by rw [hcc _ _ (by first | (simp; done) | (simp; omega))]; simp [go_sem]
  have s3 : w1.cell? ⟨W.heap.size + 1, 1, none⟩ = some (.int .i64 e2) := by rw [hcc _ _ (by first | (simp; done) | (simp; omega))]; simp [go_sem]
  have HB : Hid (Below W.heap.size W w1) := Below.trans (by (repeat' (first | (with_reducible exact Below.refl _ _) | (with_reducible assumption) | (with_reducible refine Below.setCell ?_ ?_ _) | (with_reducible refine Below.alloc ?_ ?_ _) | (with_reducible refine below_drewN ?_ _) | (with_reducible refine Below.drew ?_) | go_size))) (hb.mono (by go_size))
  have hz : W.heap.size + 2 ≤ w1.heap.size := by have := hb.size; simp at this; omega
  have RL := Lib.hid hrl
  clear hcc hb hrl HFIX HB0
  go_wp2_with fail
  refine wp_region_held_drew (S := fun w' => w'.cell? ⟨W.heap.size, 0, none⟩ = some (.int .u32 (a1 : Int)) ∧ w'.cell? ⟨W.heap.size, 1, none⟩ = some (.int .u32 (e1 : Int)) ∧ w'.cell? ⟨W.heap.size + 1, 0, none⟩ = some (.int .i64 a2) ∧ w'.cell? ⟨W.heap.size + 1, 1, none⟩ = some (.int .i64 e2)) (by kernel_rfl) ?_ (fun hHeld => ?_)
  · exact ⟨s0, s1, s2, s3⟩
  refine wpAnyH_take (i := 0) (oi := { dst := some 18, op := Go.Op.move (Go.Operand.tmp 0), type := 22, pos := "law.go:77", after := #[], guard := none }) (v := ?_) rfl (by kernel_rfl) (by kernel_rfl) (by kernel_rfl) (fun _ _ _ h => h) (Or.inl ⟨by rfl, ?_⟩) (by assumption) ?_
  rotate_left
  · intro w hSw
    (try dsimp only at hSw)
    go_simp
    try with_reducible rfl
  (try simp only [Act.put, List.setIfInBounds_toArray, List.set_cons_zero, List.set_cons_succ])
  refine wpAnyH_take (i := 2) (oi := { dst := some 20, op := Go.Op.fieldAddr 51 (Go.Operand.tmp 4) 0, type := 0, pos := "law.go:77", after := #[], guard := none }) (v := ?_) rfl (by kernel_rfl) (by kernel_rfl) (by kernel_rfl) (fun _ _ _ h => h) (Or.inl ⟨by rfl, ?_⟩) (by assumption) ?_
  rotate_left
  · intro w hSw
    (try dsimp only at hSw)
    go_simp
    try with_reducible rfl
  (try simp only [Act.put, List.setIfInBounds_toArray, List.set_cons_zero, List.set_cons_succ])
  refine wpAnyH_take (i := 3) (oi := { dst := some 21, op := Go.Op.load 26 (Go.Operand.tmp 20), type := 26, pos := "law.go:77", after := #[{ on := 2, ground := Go.Ground.data }], guard := none }) (v := ?_) rfl (by kernel_rfl) (by kernel_rfl) (by kernel_rfl) (fun _ _ _ h => h) (Or.inl ⟨by rfl, ?_⟩) (by assumption) ?_
  rotate_left
  · intro w hSw
    (try dsimp only at hSw)
    go_simp
    try with_reducible rfl
  (try simp only [Act.put, List.setIfInBounds_toArray, List.set_cons_zero, List.set_cons_succ])
  refine wpAnyH_take (i := 4) (oi := { dst := some 22, op := Go.Op.fieldAddr 51 (Go.Operand.tmp 4) 1, type := 0, pos := "law.go:77", after := #[], guard := none }) (v := ?_) rfl (by kernel_rfl) (by kernel_rfl) (by kernel_rfl) (fun _ _ _ h => h) (Or.inl ⟨by rfl, ?_⟩) (by assumption) ?_
  rotate_left
  · intro w hSw
    (try dsimp only at hSw)
    go_simp
    try with_reducible rfl
  (try simp only [Act.put, List.setIfInBounds_toArray, List.set_cons_zero, List.set_cons_succ])
  refine wpAnyH_take (i := 5) (oi := { dst := some 23, op := Go.Op.load 26 (Go.Operand.tmp 22), type := 26, pos := "law.go:77", after := #[{ on := 4, ground := Go.Ground.data }], guard := none }) (v := ?_) rfl (by kernel_rfl) (by kernel_rfl) (by kernel_rfl) (fun _ _ _ h => h) (Or.inl ⟨by rfl, ?_⟩) (by assumption) ?_
  rotate_left
  · intro w hSw
    (try dsimp only at hSw)
    go_simp
    try with_reducible rfl
  (try simp only [Act.put, List.setIfInBounds_toArray, List.set_cons_zero, List.set_cons_succ])
  refine wpAnyH_ready (rs := [1]) (by kernel_rfl) (by simp) ?_
  refine AllReadyH.cons (o := { dst := some 19, op := Go.Op.call { callee := Go.Callee.value (Go.Operand.func 15), args := #[Go.Operand.tmp 18], argTypes := #[22] }, type := 30, pos := "law.go:77", after := #[{ on := 0, ground := Go.Ground.data }], guard := none }) rfl (fun K hK => ?_) AllReadyH.nil
  go_simp
  refine Calls.mono (law10_To HN.out (RL.out.row.below (by (repeat' (first | (with_reducible exact Below.refl _ _) | (with_reducible assumption) | (with_reducible refine Below.setCell ?_ ?_ _) | (with_reducible refine Below.alloc ?_ ?_ _) | (with_reducible refine below_drewN ?_ _) | (with_reducible refine Below.drew ?_) | go_size)))) (Nat.le_refl _)) ?_
  intro e w2 hpost
  obtain ⟨vo, he, hro, hb⟩ := hpost
  (try simp only [id] at he)
  subst he
  have hbd : Below w1.heap.size w1 w2 := ((Below.refl w1.heap.size w1).drew).trans hb
  have HB := Lib.hid (HB.out.trans (hbd.mono (by omega)))
  have hz := Nat.le_trans hz hbd.size
  have RL := Lib.hid (RL.out.below hbd)
  have RO := Lib.hid hro
  clear hbd
  refine hK.out _ _ ?_ (fun hHeld => ?_)
  · (try dsimp only)
    obtain ⟨s0, s1, s2, s3⟩ := hHeld
    obtain ⟨hcc, _⟩ := bcell hb
    exact ⟨(hcc _ _ (by go_size)).trans s0, (hcc _ _ (by go_size)).trans s1, (hcc _ _ (by go_size)).trans s2, (hcc _ _ (by go_size)).trans s3⟩
  clear hK K
  (try simp only [Act.put, List.setIfInBounds_toArray, List.set_cons_zero, List.set_cons_succ])
  refine wpAnyH_ready (rs := [6]) (by kernel_rfl) (by simp) ?_
  refine AllReadyH.cons (o := { dst := some 24, op := Go.Op.call { callee := Go.Callee.value (Go.Operand.func 28), args := #[Go.Operand.tmp 19, Go.Operand.tmp 21, Go.Operand.tmp 23], argTypes := #[30, 26, 26] }, type := 32, pos := "law.go:77", after := #[{ on := 1, ground := Go.Ground.data }, { on := 3, ground := Go.Ground.data }, { on := 5, ground := Go.Ground.data }, { on := 1, ground := Go.Ground.chain }], guard := none }) rfl (fun K hK => ?_) AllReadyH.nil
  go_simp
  refine Calls.mono (HA1.out _ _ RO.out.row) ?_
  intro e w3 hpost
  obtain ⟨va, he, hra, hb⟩ := hpost
  (try simp only [id] at he)
  subst he
  have hbd : Below w2.heap.size w2 w3 := hb
  have HB := Lib.hid (HB.out.trans (hbd.mono (by omega)))
  have hz := Nat.le_trans hz hbd.size
  have RL := Lib.hid (RL.out.below hbd)
  have RA := Lib.hid hra
  clear hbd
  refine hK.out _ _ ?_ (fun hHeld => ?_)
  · (try dsimp only)
    obtain ⟨s0, s1, s2, s3⟩ := hHeld
    obtain ⟨hcc, _⟩ := bcell hb
    exact ⟨(hcc _ _ (by go_size)).trans s0, (hcc _ _ (by go_size)).trans s1, (hcc _ _ (by go_size)).trans s2, (hcc _ _ (by go_size)).trans s3⟩
  clear hK K
  (try simp only [Act.put, List.setIfInBounds_toArray, List.set_cons_zero, List.set_cons_succ])
  refine wpAnyH_take (i := 7) (oi := { dst := some 17, op := Go.Op.move (Go.Operand.tmp 24), type := 32, pos := "law.go:77", after := #[{ on := 6, ground := Go.Ground.data }], guard := none }) (v := ?_) rfl (by kernel_rfl) (by kernel_rfl) (by kernel_rfl) (fun _ _ _ h => h) (Or.inl ⟨by rfl, ?_⟩) (by assumption) ?_
  rotate_left
  · intro w hSw
    (try dsimp only at hSw)
    go_simp
    try with_reducible rfl
  (try simp only [Act.put, List.setIfInBounds_toArray, List.set_cons_zero, List.set_cons_succ])
  refine wpAnyH_take (i := 8) (oi := { dst := some 25, op := Go.Op.extract (Go.Operand.tmp 17) 0, type := 30, pos := "law.go:77", after := #[{ on := 7, ground := Go.Ground.data }], guard := none }) (v := ?_) rfl (by kernel_rfl) (by kernel_rfl) (by kernel_rfl) (fun _ _ _ h => h) (Or.inl ⟨by rfl, ?_⟩) (by assumption) ?_
  rotate_left
  · intro w hSw
    (try dsimp only at hSw)
    go_simp
    try with_reducible rfl
  (try simp only [Act.put, List.setIfInBounds_toArray, List.set_cons_zero, List.set_cons_succ])
  refine wpAnyH_take (i := 9) (oi := { dst := some 26, op := Go.Op.extract (Go.Operand.tmp 17) 1, type := 3, pos := "law.go:77", after := #[{ on := 7, ground := Go.Ground.data }, { on := 10, ground := Go.Ground.gcOnly Go.Departure.lateStores }], guard := none }) (v := ?_) rfl (by kernel_rfl) (by kernel_rfl) (by kernel_rfl) (fun _ _ _ h => h) (Or.inl ⟨by rfl, ?_⟩) (by assumption) ?_
  rotate_left
  · intro w hSw
    (try dsimp only at hSw)
    go_simp
    try with_reducible rfl
  (try simp only [Act.put, List.setIfInBounds_toArray, List.set_cons_zero, List.set_cons_succ])
  refine wpAnyH_take (i := 10) (oi := { dst := some 7, op := Go.Op.assign (Go.Operand.tmp 25), type := 30, pos := "law.go:77", after := #[{ on := 8, ground := Go.Ground.data }, { on := 6, ground := Go.Ground.chain }, { on := 0, ground := Go.Ground.phase }, { on := 1, ground := Go.Ground.phase }, { on := 2, ground := Go.Ground.phase }, { on := 3, ground := Go.Ground.phase }, { on := 4, ground := Go.Ground.phase }, { on := 5, ground := Go.Ground.phase }, { on := 6, ground := Go.Ground.phase }, { on := 7, ground := Go.Ground.phase }, { on := 8, ground := Go.Ground.phase }, { on := 9, ground := Go.Ground.textOnly Go.Departure.lateStores }], guard := none }) (v := ?_) rfl (by kernel_rfl) (by kernel_rfl) (by kernel_rfl) (fun _ _ _ h => h) (Or.inl ⟨by rfl, ?_⟩) (by assumption) ?_
  rotate_left
  · intro w hSw
    (try dsimp only at hSw)
    go_simp
    try with_reducible rfl
  (try simp only [Act.put, List.setIfInBounds_toArray, List.set_cons_zero, List.set_cons_succ])
  refine wpAnyH_take (i := 11) (oi := { dst := some 8, op := Go.Op.assign (Go.Operand.tmp 26), type := 3, pos := "law.go:77", after := #[{ on := 9, ground := Go.Ground.data }, { on := 10, ground := Go.Ground.chain }, { on := 0, ground := Go.Ground.phase }, { on := 1, ground := Go.Ground.phase }, { on := 2, ground := Go.Ground.phase }, { on := 3, ground := Go.Ground.phase }, { on := 4, ground := Go.Ground.phase }, { on := 5, ground := Go.Ground.phase }, { on := 6, ground := Go.Ground.phase }, { on := 7, ground := Go.Ground.phase }, { on := 8, ground := Go.Ground.phase }, { on := 9, ground := Go.Ground.phase }, { on := 10, ground := Go.Ground.phase }], guard := none }) (v := ?_) rfl (by kernel_rfl) (by kernel_rfl) (by kernel_rfl) (fun _ _ _ h => h) (Or.inl ⟨by rfl, ?_⟩) (by assumption) ?_
  rotate_left
  · intro w hSw
    (try dsimp only at hSw)
    go_simp
    try with_reducible rfl
  (try simp only [Act.put, List.setIfInBounds_toArray, List.set_cons_zero, List.set_cons_succ])
  have hq := hHeld
  clear s0 s1 s2 s3
  obtain ⟨s0, s1, s2, s3⟩ := hq
  refine wpAnyH_done (by kernel_rfl) ?_ _
  clear RO hro hra
  go_wp2_with fail
  refine Calls.mono (HA2.out _ _ RL.out.row) ?_
  intro e w4 hpost
  obtain ⟨vb, he, hrb, hb⟩ := hpost
  (try simp only [id] at he)
  subst he
  have RL := Lib.hid (RL.out.below hb)
  have RA := Lib.hid (RA.out.below hb)
  have s0 := ((bcell hb).1 (W.heap.size) 0 (by go_size)).trans s0
  have s1 := ((bcell hb).1 (W.heap.size) 1 (by go_size)).trans s1
  have s2 := ((bcell hb).1 (W.heap.size + 1) 0 (by go_size)).trans s2
  have s3 := ((bcell hb).1 (W.heap.size + 1) 1 (by go_size)).trans s3
  have HB := Lib.hid (HB.out.trans (hb.mono (by omega)))
  have hz := Nat.le_trans hz hb.size
  have RB := Lib.hid hrb
  clear hrb HA2
  clear hb
  go_wp2_with fail
  refine wp_region_held_drew (S := fun w' => w'.cell? ⟨W.heap.size, 0, none⟩ = some (.int .u32 (a1 : Int)) ∧ w'.cell? ⟨W.heap.size, 1, none⟩ = some (.int .u32 (e1 : Int)) ∧ w'.cell? ⟨W.heap.size + 1, 0, none⟩ = some (.int .i64 a2) ∧ w'.cell? ⟨W.heap.size + 1, 1, none⟩ = some (.int .i64 e2)) (by kernel_rfl) ?_ (fun hHeld => ?_)
  · exact ⟨s0, s1, s2, s3⟩
  refine wpAnyH_take (i := 0) (oi := { dst := some 37, op := Go.Op.move (Go.Operand.tmp 0), type := 22, pos := "law.go:79", after := #[], guard := none }) (v := ?_) rfl (by kernel_rfl) (by kernel_rfl) (by kernel_rfl) (fun _ _ _ h => h) (Or.inl ⟨by rfl, ?_⟩) (by assumption) ?_
  rotate_left
  · intro w hSw
    (try dsimp only at hSw)
    go_simp
    try with_reducible rfl
  (try simp only [Act.put, List.setIfInBounds_toArray, List.set_cons_zero, List.set_cons_succ])
  refine wpAnyH_take (i := 2) (oi := { dst := some 39, op := Go.Op.fieldAddr 53 (Go.Operand.tmp 5) 0, type := 0, pos := "law.go:79", after := #[], guard := none }) (v := ?_) rfl (by kernel_rfl) (by kernel_rfl) (by kernel_rfl) (fun _ _ _ h => h) (Or.inl ⟨by rfl, ?_⟩) (by assumption) ?_
  rotate_left
  · intro w hSw
    (try dsimp only at hSw)
    go_simp
    try with_reducible rfl
  (try simp only [Act.put, List.setIfInBounds_toArray, List.set_cons_zero, List.set_cons_succ])
  refine wpAnyH_take (i := 3) (oi := { dst := some 40, op := Go.Op.load 3 (Go.Operand.tmp 39), type := 3, pos := "law.go:79", after := #[{ on := 2, ground := Go.Ground.data }], guard := none }) (v := ?_) rfl (by kernel_rfl) (by kernel_rfl) (by kernel_rfl) (fun _ _ _ h => h) (Or.inl ⟨by rfl, ?_⟩) (by assumption) ?_
  rotate_left
  · intro w hSw
    (try dsimp only at hSw)
    go_simp
    try with_reducible rfl
  (try simp only [Act.put, List.setIfInBounds_toArray, List.set_cons_zero, List.set_cons_succ])
  refine wpAnyH_take (i := 4) (oi := { dst := some 41, op := Go.Op.fieldAddr 53 (Go.Operand.tmp 5) 1, type := 0, pos := "law.go:79", after := #[], guard := none }) (v := ?_) rfl (by kernel_rfl) (by kernel_rfl) (by kernel_rfl) (fun _ _ _ h => h) (Or.inl ⟨by rfl, ?_⟩) (by assumption) ?_
  rotate_left
  · intro w hSw
    (try dsimp only at hSw)
    go_simp
    try with_reducible rfl
  (try simp only [Act.put, List.setIfInBounds_toArray, List.set_cons_zero, List.set_cons_succ])
  refine wpAnyH_take (i := 5) (oi := { dst := some 42, op := Go.Op.load 3 (Go.Operand.tmp 41), type := 3, pos := "law.go:79", after := #[{ on := 4, ground := Go.Ground.data }], guard := none }) (v := ?_) rfl (by kernel_rfl) (by kernel_rfl) (by kernel_rfl) (fun _ _ _ h => h) (Or.inl ⟨by rfl, ?_⟩) (by assumption) ?_
  rotate_left
  · intro w hSw
    (try dsimp only at hSw)
    go_simp
    try with_reducible rfl
  (try simp only [Act.put, List.setIfInBounds_toArray, List.set_cons_zero, List.set_cons_succ])
  refine wpAnyH_take (i := 6) (oi := { dst := some 43, op := Go.Op.build 57 #[(0, Go.Operand.tmp 40), (1, Go.Operand.tmp 42)], type := 57, pos := "law.go:79", after := #[{ on := 3, ground := Go.Ground.data }, { on := 5, ground := Go.Ground.data }], guard := none }) (v := ?_) rfl (by kernel_rfl) (by kernel_rfl) (by kernel_rfl) (fun _ _ _ h => h) (Or.inl ⟨by rfl, ?_⟩) (by assumption) ?_
  rotate_left
  · intro w hSw
    (try dsimp only at hSw)
    go_simp
    try with_reducible rfl
  (try simp only [Act.put, List.setIfInBounds_toArray, List.set_cons_zero, List.set_cons_succ])
  refine wpAnyH_ready (rs := [1]) (by kernel_rfl) (by simp) ?_
  refine AllReadyH.cons (o := { dst := some 38, op := Go.Op.call { callee := Go.Callee.value (Go.Operand.func 15), args := #[Go.Operand.tmp 37], argTypes := #[22] }, type := 30, pos := "law.go:79", after := #[{ on := 0, ground := Go.Ground.data }], guard := none }) rfl (fun K hK => ?_) AllReadyH.nil
  go_simp
  refine Calls.mono (law10_To HN.out (RL.out.row.below (by (repeat' (first | (with_reducible exact Below.refl _ _) | (with_reducible assumption) | (with_reducible refine Below.setCell ?_ ?_ _) | (with_reducible refine Below.alloc ?_ ?_ _) | (with_reducible refine below_drewN ?_ _) | (with_reducible refine Below.drew ?_) | go_size)))) (Nat.le_refl _)) ?_
  intro e w5 hpost
  obtain ⟨vo, he, hro, hb⟩ := hpost
  (try simp only [id] at he)
  subst he
  have hbd : Below w4.heap.size w4 w5 := ((Below.refl w4.heap.size w4).drew).trans hb
  have HB := Lib.hid (HB.out.trans (hbd.mono (by omega)))
  have hz := Nat.le_trans hz hbd.size
  have RL := Lib.hid (RL.out.below hbd)
  have RA := Lib.hid (RA.out.below hbd)
  have RB := Lib.hid (RB.out.below hbd)
  have RO := Lib.hid hro
  clear hbd
  refine hK.out _ _ ?_ (fun hHeld => ?_)
  · (try dsimp only)
    obtain ⟨s0, s1, s2, s3⟩ := hHeld
    obtain ⟨hcc, _⟩ := bcell hb
    exact ⟨(hcc _ _ (by go_size)).trans s0, (hcc _ _ (by go_size)).trans s1, (hcc _ _ (by go_size)).trans s2, (hcc _ _ (by go_size)).trans s3⟩
  clear hK K
  (try simp only [Act.put, List.setIfInBounds_toArray, List.set_cons_zero, List.set_cons_succ])
  refine wpAnyH_ready (rs := [7]) (by kernel_rfl) (by simp) ?_
  refine AllReadyH.cons (o := { dst := some 44, op := Go.Op.call { callee := Go.Callee.value (Go.Operand.func 30), args := #[Go.Operand.tmp 38, Go.Operand.tmp 43], argTypes := #[30, 57] }, type := 32, pos := "law.go:79", after := #[{ on := 1, ground := Go.Ground.data }, { on := 6, ground := Go.Ground.data }, { on := 1, ground := Go.Ground.chain }], guard := none }) rfl (fun K hK => ?_) AllReadyH.nil
  go_simp
  refine Calls.mono (HF1.out _ _ RO.out.row) ?_
  intro e w6 hpost
  obtain ⟨vc, he, hrc, hb⟩ := hpost
  (try simp only [id] at he)
  subst he
  have hbd : Below w5.heap.size w5 w6 := hb
  have HB := Lib.hid (HB.out.trans (hbd.mono (by omega)))
  have hz := Nat.le_trans hz hbd.size
  have RL := Lib.hid (RL.out.below hbd)
  have RA := Lib.hid (RA.out.below hbd)
  have RB := Lib.hid (RB.out.below hbd)
  have RC := Lib.hid hrc
  clear hbd
  refine hK.out _ _ ?_ (fun hHeld => ?_)
  · (try dsimp only)
    obtain ⟨s0, s1, s2, s3⟩ := hHeld
    obtain ⟨hcc, _⟩ := bcell hb
    exact ⟨(hcc _ _ (by go_size)).trans s0, (hcc _ _ (by go_size)).trans s1, (hcc _ _ (by go_size)).trans s2, (hcc _ _ (by go_size)).trans s3⟩
  clear hK K
  (try simp only [Act.put, List.setIfInBounds_toArray, List.set_cons_zero, List.set_cons_succ])
  refine wpAnyH_take (i := 8) (oi := { dst := some 36, op := Go.Op.move (Go.Operand.tmp 44), type := 32, pos := "law.go:79", after := #[{ on := 7, ground := Go.Ground.data }], guard := none }) (v := ?_) rfl (by kernel_rfl) (by kernel_rfl) (by kernel_rfl) (fun _ _ _ h => h) (Or.inl ⟨by rfl, ?_⟩) (by assumption) ?_
  rotate_left
  · intro w hSw
    (try dsimp only at hSw)
    go_simp
    try with_reducible rfl
  (try simp only [Act.put, List.setIfInBounds_toArray, List.set_cons_zero, List.set_cons_succ])
  refine wpAnyH_take (i := 9) (oi := { dst := some 45, op := Go.Op.extract (Go.Operand.tmp 36) 0, type := 30, pos := "law.go:79", after := #[{ on := 8, ground := Go.Ground.data }], guard := none }) (v := ?_) rfl (by kernel_rfl) (by kernel_rfl) (by kernel_rfl) (fun _ _ _ h => h) (Or.inl ⟨by rfl, ?_⟩) (by assumption) ?_
  rotate_left
  · intro w hSw
    (try dsimp only at hSw)
    go_simp
    try with_reducible rfl
  (try simp only [Act.put, List.setIfInBounds_toArray, List.set_cons_zero, List.set_cons_succ])
  refine wpAnyH_take (i := 10) (oi := { dst := some 46, op := Go.Op.extract (Go.Operand.tmp 36) 1, type := 3, pos := "law.go:79", after := #[{ on := 8, ground := Go.Ground.data }, { on := 11, ground := Go.Ground.gcOnly Go.Departure.lateStores }], guard := none }) (v := ?_) rfl (by kernel_rfl) (by kernel_rfl) (by kernel_rfl) (fun _ _ _ h => h) (Or.inl ⟨by rfl, ?_⟩) (by assumption) ?_
  rotate_left
  · intro w hSw
    (try dsimp only at hSw)
    go_simp
    try with_reducible rfl
  (try simp only [Act.put, List.setIfInBounds_toArray, List.set_cons_zero, List.set_cons_succ])
  refine wpAnyH_take (i := 11) (oi := { dst := some 11, op := Go.Op.assign (Go.Operand.tmp 45), type := 30, pos := "law.go:79", after := #[{ on := 9, ground := Go.Ground.data }, { on := 7, ground := Go.Ground.chain }, { on := 0, ground := Go.Ground.phase }, { on := 1, ground := Go.Ground.phase }, { on := 2, ground := Go.Ground.phase }, { on := 3, ground := Go.Ground.phase }, { on := 4, ground := Go.Ground.phase }, { on := 5, ground := Go.Ground.phase }, { on := 6, ground := Go.Ground.phase }, { on := 7, ground := Go.Ground.phase }, { on := 8, ground := Go.Ground.phase }, { on := 9, ground := Go.Ground.phase }, { on := 10, ground := Go.Ground.textOnly Go.Departure.lateStores }], guard := none }) (v := ?_) rfl (by kernel_rfl) (by kernel_rfl) (by kernel_rfl) (fun _ _ _ h => h) (Or.inl ⟨by rfl, ?_⟩) (by assumption) ?_
  rotate_left
  · intro w hSw
    (try dsimp only at hSw)
    go_simp
    try with_reducible rfl
  (try simp only [Act.put, List.setIfInBounds_toArray, List.set_cons_zero, List.set_cons_succ])
  refine wpAnyH_take (i := 12) (oi := { dst := some 12, op := Go.Op.assign (Go.Operand.tmp 46), type := 3, pos := "law.go:79", after := #[{ on := 10, ground := Go.Ground.data }, { on := 11, ground := Go.Ground.chain }, { on := 0, ground := Go.Ground.phase }, { on := 1, ground := Go.Ground.phase }, { on := 2, ground := Go.Ground.phase }, { on := 3, ground := Go.Ground.phase }, { on := 4, ground := Go.Ground.phase }, { on := 5, ground := Go.Ground.phase }, { on := 6, ground := Go.Ground.phase }, { on := 7, ground := Go.Ground.phase }, { on := 8, ground := Go.Ground.phase }, { on := 9, ground := Go.Ground.phase }, { on := 10, ground := Go.Ground.phase }, { on := 11, ground := Go.Ground.phase }], guard := none }) (v := ?_) rfl (by kernel_rfl) (by kernel_rfl) (by kernel_rfl) (fun _ _ _ h => h) (Or.inl ⟨by rfl, ?_⟩) (by assumption) ?_
  rotate_left
  · intro w hSw
    (try dsimp only at hSw)
    go_simp
    try with_reducible rfl
  (try simp only [Act.put, List.setIfInBounds_toArray, List.set_cons_zero, List.set_cons_succ])
  have hq := hHeld
  clear s0 s1 s2 s3
  obtain ⟨s0, s1, s2, s3⟩ := hq
  refine wpAnyH_done (by kernel_rfl) ?_ _
  clear RO hro hrc
  go_wp2_with fail
  refine Calls.mono (HF2.out _ _ RL.out.row) ?_
  intro e w7 hpost
  obtain ⟨vd, he, hrd, hb⟩ := hpost
  (try simp only [id] at he)
  subst he
  have RA := Lib.hid (RA.out.below hb)
  have RB := Lib.hid (RB.out.below hb)
  have RC := Lib.hid (RC.out.below hb)
  have s0 := ((bcell hb).1 (W.heap.size) 0 (by go_size)).trans s0
  have s1 := ((bcell hb).1 (W.heap.size) 1 (by go_size)).trans s1
  have s2 := ((bcell hb).1 (W.heap.size + 1) 0 (by go_size)).trans s2
  have s3 := ((bcell hb).1 (W.heap.size + 1) 1 (by go_size)).trans s3
  have HB := Lib.hid (HB.out.trans (hb.mono (by omega)))
  have hz := Nat.le_trans hz hb.size
  have RD := Lib.hid hrd
  clear hrd HF2
  clear hb
  clear s0 s1 s2 s3
  have hq1 : ((q1 : Int) == (q1 : Int)) = true := by simp
  have hq2 : ((q2 : Int) == (q2 : Int)) = true := by simp
  go_wp2_with fail
  refine Calls.mono (told10 _) ?_
  intro e w8 hpost
  obtain ⟨rfl, hb⟩ := hpost
  have RA := Lib.hid (RA.out.below hb)
  have RB := Lib.hid (RB.out.below hb)
  have RC := Lib.hid (RC.out.below hb)
  have RD := Lib.hid (RD.out.below hb)
  have HB := Lib.hid (HB.out.trans (hb.mono (by omega)))
  have hz := Nat.le_trans hz hb.size
  clear hb
  go_wp2_with fail
  refine Calls.mono (law10_From HN.out RA.out.row (Nat.le_refl _)) ?_
  intro e w9 hpost
  obtain ⟨vx, he, hrx, hb⟩ := hpost
  (try simp only [id] at he)
  subst he
  have RB := Lib.hid (RB.out.below hb)
  have RC := Lib.hid (RC.out.below hb)
  have RD := Lib.hid (RD.out.below hb)
  have HB := Lib.hid (HB.out.trans (hb.mono (by omega)))
  have hz := Nat.le_trans hz hb.size
  have RX := Lib.hid hrx
  clear hrx
  clear hb
  go_wp2_with fail
  refine Calls.mono (ref10_SameEq RX.out.row RB.out.row) ?_
  intro e w10 hpost
  obtain ⟨rfl, hb⟩ := hpost
  have RC := Lib.hid (RC.out.below hb)
  have RD := Lib.hid (RD.out.below hb)
  have HB := Lib.hid (HB.out.trans (hb.mono (by omega)))
  have hz := Nat.le_trans hz hb.size
  clear hb
  go_wp2_with fail
  refine Calls.mono (law10_From HN.out RC.out.row (Nat.le_refl _)) ?_
  intro e w11 hpost
  obtain ⟨vy, he, hry, hb⟩ := hpost
  (try simp only [id] at he)
  subst he
  have RD := Lib.hid (RD.out.below hb)
  have HB := Lib.hid (HB.out.trans (hb.mono (by omega)))
  have hz := Nat.le_trans hz hb.size
  have RY := Lib.hid hry
  clear hry
  clear hb
  go_wp2_with fail
  refine Calls.mono (ref10_SameEq RY.out.row RD.out.row) ?_
  intro e w12 hpost
  obtain ⟨rfl, hb⟩ := hpost
  have HB := Lib.hid (HB.out.trans (hb.mono (by omega)))
  have hz := Nat.le_trans hz hb.size
  clear hb
  go_wp2
  go_ret
  exact ⟨by simp, HB.out⟩

set_option maxRecDepth 100000 in
/-- What the walk gives, for every argument: the row's own words. -/
theorem contract (H : Type) (enc : TypeId × Value → H) (W : World) (base : Nat) (args : Array Value) (ds gs : List (DataW H)) (before : List MemPlace)
    (hval : ∀ (j : Nat) t v, Try.f5.params[j]? = some t → args[j]? = some v → Value.okWide Try.prog W .any base t v)
    (hW : DataW.Whole enc Try.prog Try.f5.params.toList Rows.bucketAgesSpec.vars false W args.toList ds gs before) :
    Calls Try.prog 5 args W fun e W' => ∃ v, e = .returned v ∧ Rows.bucketAgesSpec.post enc Try.prog Try.f5 false true false false W args v W' := by
  have hW' := hW
  obtain ⟨p, q, hA0, hV, rfl, hfz, hnd⟩ := hW
  have hA : DataW.TrodAll enc Try.prog W 0 (fun _ => true) true Try.f5.params.toList args.toList ds p := hA0
  rw [Try.params5] at hA hval
  obtain ⟨v0, vs0, d0, ds0, p0, q0, hargs, rfl, rfl, h0, r0⟩ := trodAll_cons hA
  obtain ⟨v1, vs1, d1, ds1, p1, q1, rfl, rfl, rfl, h1, r1⟩ := trodAll_cons r0
  obtain ⟨v2, vs2, d2, ds2, p2, q2, rfl, rfl, rfl, h2, r2⟩ := trodAll_cons r1
  obtain ⟨rfl, rfl, rfl⟩ := trodAll_nil r2
  obtain rfl : args = #[v0, v1, v2] := by cases args; simp_all
  obtain ⟨n0, f0, b0, c0⟩ := open_places Try.underlying22 (t0 := 4) (t1 := 3) (t2 := 23) (t3 := 3) (t4 := 4) (t5 := 26) (by kernel_rfl) (by kernel_rfl) (by kernel_rfl) (by kernel_rfl) (by kernel_rfl) (by kernel_rfl) (by kernel_rfl) (by kernel_rfl) (hval 0 22 v0 rfl rfl) h0
  obtain ⟨a1, e1, rfl, c1, dd1⟩ := open_when Try.underlying51 (t0 := 26) (t1 := 26) (by kernel_rfl) (by kernel_rfl) (by kernel_rfl) (by kernel_rfl) (hval 1 51 v1 rfl rfl) h1
  obtain ⟨a2, e2, rfl⟩ := open_filt Try.underlying53 (t0 := 3) (t1 := 3) (by kernel_rfl) (by kernel_rfl) (by kernel_rfl) (by kernel_rfl) (hval 2 53 v2 rfl rfl) h2
  refine (walk W v0 n0 f0 b0 c0 a1 e1 c1 dd1 a2 e2).mono fun e W' ⟨he, hb⟩ => ?_
  subst he
  exact close_true (by kernel_rfl) Try.underlying4 (by kernel_rfl) (by kernel_rfl) rfl rfl hW' hb

set_option maxRecDepth 100000 in
theorem lifted (os : Os) (started : os.Started) (H : Type) (enc : TypeId × Value → H) :
    ReturnsInHanded {} Try.checked os 5 .any (Rows.bucketAgesSpec.pre6 enc Try.prog Try.f5 Rows.bucketAgesRow.domain false) (Rows.bucketAgesSpec.post enc Try.prog Try.f5 false true false false) := by
  refine returnsInHanded_of_change (C := Try.checked) own started (by kernel_rfl) Try.func5
    (ChangeSpec.witness6 (enc := enc) (C := Try.checked) false ⟨#[], #[.slice none 0 0, .agg #[.int .u32 0, .int .u32 0], .agg #[.int .i64 0, .int .i64 0]], []⟩ 8 (by kernel_rfl) (by kernel_rfl) (by kernel_rfl) (by kernel_rfl)) ?_
  intro W base args ds gs before hval hW _ _
  exact contract H enc W base args ds gs before hval hW

theorem proved : Rows.BucketAgesSaid :=
  OpenClaim.holds_of_wide 5 Try.f5 rfl rfl rfl rfl rfl rfl rfl ⟨rfl, rfl, rfl, rfl, rfl⟩ rfl rfl rfl rfl rfl (by kernel_rfl) Try.func5 (by kernel_rfl)
    (of_decide_eq_true (by kernel_rfl)) (by unfold Func.isWrapper; first | (rw [if_pos (by decide +kernel)]; kernel_rfl) | (rw [if_neg (by decide +kernel)]; exact ⟨rfl, rfl⟩))
    (fun os started H enc _ => lifted os started H enc)
#print axioms proved
end Go.Proofs.Ytocdljhjmhmfkaa.bucketAges
