/-
  Whatever is learned, aged and flushed, an ordered entry stands as it is. No condition.
-/
import Derived.Test.YtocdljhjmhmfkaaRows
import Derived.Test.YtocdljhjmhmfkaaBuK
import Derived.Test.YtocdljhjmhmfkaaBuL
import Derived.Test.YtocdljhjmhmfkaaBuM
import Derived.Test.YtocdljhjmhmfkaaBuO
import Derived.Test.YtocdljhjmhmfkaaBuP
import Derived.Test.YtocdljhjmhmfkaaOpenBu
import Derived.Test.YtocdljhjmhmfkaaOpenBw
import Derived.Test.YtocdljhjmhmfkaaBuQ
import Derived.WalkKit
import Derived.ProofKit
import Derived.OpenShut
namespace Go.Proofs.Ytocdljhjmhmfkaa.bucketKeeps
open Go.ChangeShapes Go.WideShapes Go.ChangeAt Go.RowKit
open Go.ChangeMaps (open_string)
set_option linter.unusedVariables false

theorem own : ownKnob Try.prog.godebug = none := by kernel_rfl

set_option maxRecDepth 20000 in
set_option maxHeartbeats 6400000 in
theorem walk (W : World) (a0 : Value) (n0 : Nat) (f0 : Nat → Pl) (b0 : PlRow W W.heap.size a0 n0 f0) (c0 : ∀ i, i < n0 → (f0 i).e.ok) (a1 : Int) (e1 : Nat) (p1 : Int) (k1 : Nat) (c1 : e1 < 18446744073709551616) (d1 : k1 < 4294967296) (a2 e2 : Int) :
    Calls Try.prog 8 #[a0, .agg #[.int .i64 a1, .int .u64 (e1 : Int), .int .i64 p1, .int .u32 (k1 : Int)], .agg #[.int .i64 a2, .int .i64 e2]] W (Says (.bool true) W) := by
  obtain ⟨N, hN⟩ : ∃ N, N = min n0 8 := ⟨_, rfl⟩
  obtain ⟨F, hF⟩ : ∃ F, F = fixR f0 N := ⟨_, rfl⟩
  have HST : Hid (∀ i, i < N → (F i).e.stamp < 4294967296) := by rw [hF]; exact fixR_stamp N fun i hi => (c0 i (by omega)).2.2.2
  have HN : Hid (N ≤ 1000000) := by show N ≤ _; omega
  have HB0 := Lib.hid b0
  have HFIX := Lib.hid fun w (h : PlRow w W.heap.size a0 n0 f0) (hb : W.heap.size ≤ w.heap.size) => ref10_Fix hN h hb c0
  rw [← hF] at HFIX
  obtain ⟨g1, hg1⟩ : ∃ g1, g1 = (putF (fun i => ownP (F i)) ⟨a1, e1, p1, false, k1⟩ k1 N).1 := ⟨_, rfl⟩
  have HL1 := Lib.hid fun w v (h : PlRow w w.heap.size v N F) => bucket_Learn HN.out h (Nat.le_refl _) HST.out a1 e1 c1 p1 k1 d1
  have HST1 : Hid (∀ i, i < N → (g1 i).e.stamp < 4294967296) := by rw [hg1]; exact putF_stamp (own_stamp HST.out) d1
  have hage := fun w v (h : PlRow w w.heap.size v N g1) => bucket_Age HN.out h (Nat.le_refl _) k1 0 d1 HST1.out
  rw [show ((0 : Nat) : Int) = 0 from rfl] at hage
  have HA := Lib.hid hage
  have HFL := Lib.hid fun g w v (h : PlRow w w.heap.size v N g) => bucket_Flush HN.out h (Nat.le_refl _) a2 e2
  have HT8 := Lib.hid fun w => law8_To a1 (e1 : Int) w
  have hk : ∀ g2 g3, g2 = sweepF (fun i => ownP (g1 i)) (oldE k1 0) → g3 = sweepF (fun i => ownP (g2 i)) (hitE a2 e2) → ∀ i, (F i).used = true → (F i).e.st = true → g3 i = F i := by
    intro g2 g3 h2 h3 i hu hs
    rw [h3, h2, hg1]
    exact keeps_all rfl hu hs _ _
  generalize (putF (fun i => ownP (F i)) ⟨a1, e1, p1, false, k1⟩ k1 N).2 = r2 at *
  rw [← hg1] at HL1
  clear hg1 hage hF hN b0 c0 c1 d1 HST HST1
  generalize hg2 : sweepF (fun i => ownP (g1 i)) (oldE k1 0) = g2 at *
  have hk := hk g2 _ rfl rfl
  replace HFL := Lib.hid (HFL.out g2)
  generalize sweepF (fun i => ownP (g2 i)) (hitE a2 e2) = g3 at *
  have HKEEP := Lib.hid hk
  clear hk hg2
  generalize goneF (fun i => ownP (g2 i)) (hitE a2 e2) N = q2 at *
  generalize goneF (fun i => ownP (g1 i)) (oldE k1 0) N = q1 at *
  go_enter Try.func8, Try.ntmps8
  go_wp2_with fail
  refine Calls.mono (HFIX.out _ (HB0.out.below (by (repeat' (first | (with_reducible exact Below.refl _ _) | (with_reducible assumption) | (with_reducible refine Below.setCell ?_ ?_ _) | (with_reducible refine Below.alloc ?_ ?_ _) | (with_reducible refine below_drewN ?_ _) | (with_reducible refine Below.drew ?_) | go_size)))) (by go_size)) ?_
  intro e w1 hpost
  obtain ⟨vl, he, hrl, hb⟩ := hpost
  (try simp only [id] at he)
  subst he
  obtain ⟨hcc, _⟩ := bcell hb
  have s0 : w1.cell? ⟨W.heap.size, 0, none⟩ = some (.int .i64 a1) := by rw [hcc _ _ (by first | (simp; done) | (simp; omega))]; simp [go_sem]
  have s1 : w1.cell? ⟨W.heap.size, 1, none⟩ = some (.int .u64 (e1 : Int)) := by rw [hcc _ _ (by first | (simp; done) | (simp; omega))]; simp [go_sem]
  have s2 : w1.cell? ⟨W.heap.size, 2, none⟩ = some (.int .i64 p1) := by rw [hcc _ _ (by first | (simp; done) | (simp; omega))]; simp [go_sem]
  have s3 : w1.cell? ⟨W.heap.size, 3, none⟩ = some (.int .u32 (k1 : Int)) := by rw [hcc _ _ (by first | (simp; done) | (simp; omega))]; simp [go_sem]
  have t0 : w1.cell? ⟨W.heap.size + 1, 0, none⟩ = some (.int .i64 a2) := by rw [hcc _ _ (by first | (simp; done) | (simp; omega))]; simp [go_sem]
  have t1 : w1.cell? ⟨W.heap.size + 1, 1, none⟩ = some (.int .i64 e2) := by rw [hcc _ _ (by first | (simp; done) | (simp; omega))]; simp [go_sem]
  have HB : Hid (Below W.heap.size W w1) := Below.trans (by (repeat' (first | (with_reducible exact Below.refl _ _) | (with_reducible assumption) | (with_reducible refine Below.setCell ?_ ?_ _) | (with_reducible refine Below.alloc ?_ ?_ _) | (with_reducible refine below_drewN ?_ _) | (with_reducible refine Below.drew ?_) | go_size))) (hb.mono (by go_size))
  have hz : W.heap.size + 2 ≤ w1.heap.size := by have := hb.size; simp at this; omega
  have RL := Lib.hid hrl
  clear hcc hb hrl HFIX HB0
  go_wp2_with fail
  refine wp_region_held_drew (S := fun w' => w'.cell? ⟨W.heap.size, 0, none⟩ = some (.int .i64 a1) ∧ w'.cell? ⟨W.heap.size, 1, none⟩ = some (.int .u64 (e1 : Int)) ∧ w'.cell? ⟨W.heap.size, 2, none⟩ = some (.int .i64 p1) ∧ w'.cell? ⟨W.heap.size, 3, none⟩ = some (.int .u32 (k1 : Int)) ∧ w'.cell? ⟨W.heap.size + 1, 0, none⟩ = some (.int .i64 a2) ∧ w'.cell? ⟨W.heap.size + 1, 1, none⟩ = some (.int .i64 e2)) (by kernel_rfl) ?_ (fun hHeld => ?_)
  · exact ⟨s0, s1, s2, s3, t0, t1⟩
  refine wpAnyH_take (i := 0) (oi := { dst := some 18, op := Go.Op.move (Go.Operand.tmp 0), type := 22, pos := "law.go:158", after := #[], guard := none }) (v := ?_) rfl (by kernel_rfl) (by kernel_rfl) (by kernel_rfl) (fun _ _ _ h => h) (Or.inl ⟨by rfl, ?_⟩) (by assumption) ?_
  rotate_left
  · intro w hSw
    (try dsimp only at hSw)
    go_simp
    try with_reducible rfl
  (try simp only [Act.put, List.setIfInBounds_toArray, List.set_cons_zero, List.set_cons_succ])
  refine wpAnyH_take (i := 2) (oi := { dst := some 20, op := Go.Op.fieldAddr 28 (Go.Operand.tmp 4) 0, type := 0, pos := "law.go:158", after := #[], guard := none }) (v := ?_) rfl (by kernel_rfl) (by kernel_rfl) (by kernel_rfl) (fun _ _ _ h => h) (Or.inl ⟨by rfl, ?_⟩) (by assumption) ?_
  rotate_left
  · intro w hSw
    (try dsimp only at hSw)
    go_simp
    try with_reducible rfl
  (try simp only [Act.put, List.setIfInBounds_toArray, List.set_cons_zero, List.set_cons_succ])
  refine wpAnyH_take (i := 3) (oi := { dst := some 21, op := Go.Op.load 25 (Go.Operand.tmp 20), type := 25, pos := "law.go:158", after := #[{ on := 2, ground := Go.Ground.data }], guard := none }) (v := ?_) rfl (by kernel_rfl) (by kernel_rfl) (by kernel_rfl) (fun _ _ _ h => h) (Or.inl ⟨by rfl, ?_⟩) (by assumption) ?_
  rotate_left
  · intro w hSw
    (try dsimp only at hSw)
    go_simp
    try with_reducible rfl
  (try simp only [Act.put, List.setIfInBounds_toArray, List.set_cons_zero, List.set_cons_succ])
  refine wpAnyH_take (i := 5) (oi := { dst := some 23, op := Go.Op.fieldAddr 28 (Go.Operand.tmp 4) 1, type := 0, pos := "law.go:158", after := #[], guard := none }) (v := ?_) rfl (by kernel_rfl) (by kernel_rfl) (by kernel_rfl) (fun _ _ _ h => h) (Or.inl ⟨by rfl, ?_⟩) (by assumption) ?_
  rotate_left
  · intro w hSw
    (try dsimp only at hSw)
    go_simp
    try with_reducible rfl
  (try simp only [Act.put, List.setIfInBounds_toArray, List.set_cons_zero, List.set_cons_succ])
  refine wpAnyH_take (i := 6) (oi := { dst := some 24, op := Go.Op.load 3 (Go.Operand.tmp 23), type := 3, pos := "law.go:158", after := #[{ on := 5, ground := Go.Ground.data }], guard := none }) (v := ?_) rfl (by kernel_rfl) (by kernel_rfl) (by kernel_rfl) (fun _ _ _ h => h) (Or.inl ⟨by rfl, ?_⟩) (by assumption) ?_
  rotate_left
  · intro w hSw
    (try dsimp only at hSw)
    go_simp
    try with_reducible rfl
  (try simp only [Act.put, List.setIfInBounds_toArray, List.set_cons_zero, List.set_cons_succ])
  refine wpAnyH_take (i := 7) (oi := { dst := some 25, op := Go.Op.fieldAddr 28 (Go.Operand.tmp 4) 2, type := 0, pos := "law.go:158", after := #[], guard := none }) (v := ?_) rfl (by kernel_rfl) (by kernel_rfl) (by kernel_rfl) (fun _ _ _ h => h) (Or.inl ⟨by rfl, ?_⟩) (by assumption) ?_
  rotate_left
  · intro w hSw
    (try dsimp only at hSw)
    go_simp
    try with_reducible rfl
  (try simp only [Act.put, List.setIfInBounds_toArray, List.set_cons_zero, List.set_cons_succ])
  refine wpAnyH_take (i := 8) (oi := { dst := some 26, op := Go.Op.load 26 (Go.Operand.tmp 25), type := 26, pos := "law.go:158", after := #[{ on := 7, ground := Go.Ground.data }], guard := none }) (v := ?_) rfl (by kernel_rfl) (by kernel_rfl) (by kernel_rfl) (fun _ _ _ h => h) (Or.inl ⟨by rfl, ?_⟩) (by assumption) ?_
  rotate_left
  · intro w hSw
    (try dsimp only at hSw)
    go_simp
    try with_reducible rfl
  (try simp only [Act.put, List.setIfInBounds_toArray, List.set_cons_zero, List.set_cons_succ])
  refine wpAnyH_ready (rs := [1]) (by kernel_rfl) (by simp) ?_
  refine AllReadyH.cons (o := { dst := some 19, op := Go.Op.call { callee := Go.Callee.value (Go.Operand.func 15), args := #[Go.Operand.tmp 18], argTypes := #[22] }, type := 30, pos := "law.go:158", after := #[{ on := 0, ground := Go.Ground.data }], guard := none }) rfl (fun K hK => ?_) AllReadyH.nil
  go_simp
  refine Calls.mono (law10_To HN.out (RL.out.row.below (by (repeat' (first | (with_reducible exact Below.refl _ _) | (with_reducible assumption) | (with_reducible refine Below.setCell ?_ ?_ _) | (with_reducible refine Below.alloc ?_ ?_ _) | (with_reducible refine below_drewN ?_ _) | (with_reducible refine Below.drew ?_) | go_size)))) (Nat.le_refl _)) ?_
  intro e w2 hpost
  obtain ⟨vo, he, hro, hb⟩ := hpost
  (try simp only [id] at he)
  subst he
  have hbd : Below w1.heap.size w1 w2 := ((Below.refl w1.heap.size w1).drew).trans hb
  have HB := Lib.hid (HB.out.trans (hbd.mono (by omega)))
  have hz := Nat.le_trans hz hbd.size
  have RL := Lib.hid (RL.out.below hbd)
  have RO := Lib.hid hro
  clear hbd
  refine hK.out _ _ ?_ (fun hHeld => ?_)
  · (try dsimp only)
    obtain ⟨s0, s1, s2, s3, t0, t1⟩ := hHeld
    obtain ⟨hcc, _⟩ := bcell hb
    exact ⟨(hcc _ _ (by go_size)).trans s0, (hcc _ _ (by go_size)).trans s1, (hcc _ _ (by go_size)).trans s2, (hcc _ _ (by go_size)).trans s3, (hcc _ _ (by go_size)).trans t0, (hcc _ _ (by go_size)).trans t1⟩
  clear hK K
  (try simp only [Act.put, List.setIfInBounds_toArray, List.set_cons_zero, List.set_cons_succ])
  refine wpAnyH_ready (rs := [4]) (by kernel_rfl) (by simp) ?_
  refine AllReadyH.cons (o := { dst := some 22, op := Go.Op.call { callee := Go.Callee.value (Go.Operand.func 17), args := #[Go.Operand.tmp 21], argTypes := #[25] }, type := 36, pos := "law.go:158", after := #[{ on := 3, ground := Go.Ground.data }, { on := 1, ground := Go.Ground.chain }], guard := none }) rfl (fun K hK => ?_) AllReadyH.nil
  go_simp
  refine Calls.mono (HT8.out _) ?_
  intro e w3 hpost
  obtain ⟨rfl, hb⟩ := hpost
  have hbd : Below w2.heap.size w2 w3 := hb
  have HB := Lib.hid (HB.out.trans (hbd.mono (by omega)))
  have hz := Nat.le_trans hz hbd.size
  have RL := Lib.hid (RL.out.below hbd)
  have RO := Lib.hid (RO.out.below hbd)
  clear hbd
  refine hK.out _ _ ?_ (fun hHeld => ?_)
  · (try dsimp only)
    obtain ⟨s0, s1, s2, s3, t0, t1⟩ := hHeld
    obtain ⟨hcc, _⟩ := bcell hb
    exact ⟨(hcc _ _ (by go_size)).trans s0, (hcc _ _ (by go_size)).trans s1, (hcc _ _ (by go_size)).trans s2, (hcc _ _ (by go_size)).trans s3, (hcc _ _ (by go_size)).trans t0, (hcc _ _ (by go_size)).trans t1⟩
  clear hK K
  (try simp only [Act.put, List.setIfInBounds_toArray, List.set_cons_zero, List.set_cons_succ])
  refine wpAnyH_ready (rs := [9]) (by kernel_rfl) (by simp) ?_
  refine AllReadyH.cons (o := { dst := some 27, op := Go.Op.call { callee := Go.Callee.value (Go.Operand.func 16), args := #[Go.Operand.tmp 19, Go.Operand.tmp 22, Go.Operand.tmp 24, Go.Operand.tmp 26], argTypes := #[30, 36, 3, 26] }, type := 32, pos := "law.go:158", after := #[{ on := 1, ground := Go.Ground.data }, { on := 4, ground := Go.Ground.data }, { on := 6, ground := Go.Ground.data }, { on := 8, ground := Go.Ground.data }, { on := 4, ground := Go.Ground.chain }], guard := none }) rfl (fun K hK => ?_) AllReadyH.nil
  go_simp
  refine Calls.mono (HL1.out _ _ RO.out.row) ?_
  intro e w4 hpost
  obtain ⟨va, he, hra, hb⟩ := hpost
  (try simp only [id] at he)
  subst he
  have hbd : Below w3.heap.size w3 w4 := hb
  have HB := Lib.hid (HB.out.trans (hbd.mono (by omega)))
  have hz := Nat.le_trans hz hbd.size
  have RL := Lib.hid (RL.out.below hbd)
  have RA := Lib.hid hra
  clear hbd
  refine hK.out _ _ ?_ (fun hHeld => ?_)
  · (try dsimp only)
    obtain ⟨s0, s1, s2, s3, t0, t1⟩ := hHeld
    obtain ⟨hcc, _⟩ := bcell hb
    exact ⟨(hcc _ _ (by go_size)).trans s0, (hcc _ _ (by go_size)).trans s1, (hcc _ _ (by go_size)).trans s2, (hcc _ _ (by go_size)).trans s3, (hcc _ _ (by go_size)).trans t0, (hcc _ _ (by go_size)).trans t1⟩
  clear hK K
  (try simp only [Act.put, List.setIfInBounds_toArray, List.set_cons_zero, List.set_cons_succ])
  refine wpAnyH_take (i := 10) (oi := { dst := some 17, op := Go.Op.move (Go.Operand.tmp 27), type := 32, pos := "law.go:158", after := #[{ on := 9, ground := Go.Ground.data }], guard := none }) (v := ?_) rfl (by kernel_rfl) (by kernel_rfl) (by kernel_rfl) (fun _ _ _ h => h) (Or.inl ⟨by rfl, ?_⟩) (by assumption) ?_
  rotate_left
  · intro w hSw
    (try dsimp only at hSw)
    go_simp
    try with_reducible rfl
  (try simp only [Act.put, List.setIfInBounds_toArray, List.set_cons_zero, List.set_cons_succ])
  refine wpAnyH_take (i := 11) (oi := { dst := some 28, op := Go.Op.extract (Go.Operand.tmp 17) 0, type := 30, pos := "law.go:158", after := #[{ on := 10, ground := Go.Ground.data }], guard := none }) (v := ?_) rfl (by kernel_rfl) (by kernel_rfl) (by kernel_rfl) (fun _ _ _ h => h) (Or.inl ⟨by rfl, ?_⟩) (by assumption) ?_
  rotate_left
  · intro w hSw
    (try dsimp only at hSw)
    go_simp
    try with_reducible rfl
  (try simp only [Act.put, List.setIfInBounds_toArray, List.set_cons_zero, List.set_cons_succ])
  refine wpAnyH_take (i := 12) (oi := { dst := some 29, op := Go.Op.extract (Go.Operand.tmp 17) 1, type := 3, pos := "law.go:158", after := #[{ on := 10, ground := Go.Ground.data }, { on := 13, ground := Go.Ground.gcOnly Go.Departure.lateStores }], guard := none }) (v := ?_) rfl (by kernel_rfl) (by kernel_rfl) (by kernel_rfl) (fun _ _ _ h => h) (Or.inl ⟨by rfl, ?_⟩) (by assumption) ?_
  rotate_left
  · intro w hSw
    (try dsimp only at hSw)
    go_simp
    try with_reducible rfl
  (try simp only [Act.put, List.setIfInBounds_toArray, List.set_cons_zero, List.set_cons_succ])
  refine wpAnyH_take (i := 13) (oi := { dst := some 7, op := Go.Op.assign (Go.Operand.tmp 28), type := 30, pos := "law.go:158", after := #[{ on := 11, ground := Go.Ground.data }, { on := 9, ground := Go.Ground.chain }, { on := 0, ground := Go.Ground.phase }, { on := 1, ground := Go.Ground.phase }, { on := 2, ground := Go.Ground.phase }, { on := 3, ground := Go.Ground.phase }, { on := 4, ground := Go.Ground.phase }, { on := 5, ground := Go.Ground.phase }, { on := 6, ground := Go.Ground.phase }, { on := 7, ground := Go.Ground.phase }, { on := 8, ground := Go.Ground.phase }, { on := 9, ground := Go.Ground.phase }, { on := 10, ground := Go.Ground.phase }, { on := 11, ground := Go.Ground.phase }, { on := 12, ground := Go.Ground.textOnly Go.Departure.lateStores }], guard := none }) (v := ?_) rfl (by kernel_rfl) (by kernel_rfl) (by kernel_rfl) (fun _ _ _ h => h) (Or.inl ⟨by rfl, ?_⟩) (by assumption) ?_
  rotate_left
  · intro w hSw
    (try dsimp only at hSw)
    go_simp
    try with_reducible rfl
  (try simp only [Act.put, List.setIfInBounds_toArray, List.set_cons_zero, List.set_cons_succ])
  refine wpAnyH_take (i := 14) (oi := { dst := some 8, op := Go.Op.assign (Go.Operand.tmp 29), type := 3, pos := "law.go:158", after := #[{ on := 12, ground := Go.Ground.data }, { on := 13, ground := Go.Ground.chain }, { on := 0, ground := Go.Ground.phase }, { on := 1, ground := Go.Ground.phase }, { on := 2, ground := Go.Ground.phase }, { on := 3, ground := Go.Ground.phase }, { on := 4, ground := Go.Ground.phase }, { on := 5, ground := Go.Ground.phase }, { on := 6, ground := Go.Ground.phase }, { on := 7, ground := Go.Ground.phase }, { on := 8, ground := Go.Ground.phase }, { on := 9, ground := Go.Ground.phase }, { on := 10, ground := Go.Ground.phase }, { on := 11, ground := Go.Ground.phase }, { on := 12, ground := Go.Ground.phase }, { on := 13, ground := Go.Ground.phase }], guard := none }) (v := ?_) rfl (by kernel_rfl) (by kernel_rfl) (by kernel_rfl) (fun _ _ _ h => h) (Or.inl ⟨by rfl, ?_⟩) (by assumption) ?_
  rotate_left
  · intro w hSw
    (try dsimp only at hSw)
    go_simp
    try with_reducible rfl
  (try simp only [Act.put, List.setIfInBounds_toArray, List.set_cons_zero, List.set_cons_succ])
  have hq := hHeld
  clear s0 s1 s2 s3 t0 t1
  obtain ⟨s0, s1, s2, s3, t0, t1⟩ := hq
  refine wpAnyH_done (by kernel_rfl) ?_ _
  clear RO hro hra HL1
  go_wp2_with fail
  refine Calls.mono (HA.out _ _ RA.out.row) ?_
  intro e w5 hpost
  obtain ⟨vb, he, hrb, hb⟩ := hpost
  (try simp only [id] at he)
  subst he
  have RL := Lib.hid (RL.out.below hb)
  have s0 := ((bcell hb).1 (W.heap.size) 0 (by go_size)).trans s0
  have s1 := ((bcell hb).1 (W.heap.size) 1 (by go_size)).trans s1
  have s2 := ((bcell hb).1 (W.heap.size) 2 (by go_size)).trans s2
  have s3 := ((bcell hb).1 (W.heap.size) 3 (by go_size)).trans s3
  have t0 := ((bcell hb).1 (W.heap.size + 1) 0 (by go_size)).trans t0
  have t1 := ((bcell hb).1 (W.heap.size + 1) 1 (by go_size)).trans t1
  have HB := Lib.hid (HB.out.trans (hb.mono (by omega)))
  have hz := Nat.le_trans hz hb.size
  have RB := Lib.hid hrb
  clear hrb HA
  clear hb
  go_wp2_with fail
  refine Calls.mono (HFL.out _ _ RB.out.row) ?_
  intro e w6 hpost
  obtain ⟨vc, he, hrc, hb⟩ := hpost
  (try simp only [id] at he)
  subst he
  have RL := Lib.hid (RL.out.below hb)
  have s0 := ((bcell hb).1 (W.heap.size) 0 (by go_size)).trans s0
  have s1 := ((bcell hb).1 (W.heap.size) 1 (by go_size)).trans s1
  have s2 := ((bcell hb).1 (W.heap.size) 2 (by go_size)).trans s2
  have s3 := ((bcell hb).1 (W.heap.size) 3 (by go_size)).trans s3
  have t0 := ((bcell hb).1 (W.heap.size + 1) 0 (by go_size)).trans t0
  have t1 := ((bcell hb).1 (W.heap.size + 1) 1 (by go_size)).trans t1
  have HB := Lib.hid (HB.out.trans (hb.mono (by omega)))
  have hz := Nat.le_trans hz hb.size
  have RC := Lib.hid hrc
  clear hrc HFL
  clear hb
  clear s0 s1 s2 s3 t0 t1
  go_wp2_with fail
  refine Calls.mono (law10_From HN.out RC.out.row (Nat.le_refl _)) ?_
  intro e w9 hpost
  obtain ⟨vx, he, hrx, hb⟩ := hpost
  (try simp only [id] at he)
  subst he
  have RL := Lib.hid (RL.out.below hb)
  have HB := Lib.hid (HB.out.trans (hb.mono (by omega)))
  have hz := Nat.le_trans hz hb.size
  have RX := Lib.hid hrx
  clear hrx
  clear hb
  obtain ⟨A, cap, rfl, h1, h2, h3⟩ := RX.out.row
  obtain ⟨A2, cap2, rfl, h4, h5, h6⟩ := RL.out.row
  have HC := Lib.hid h3
  have HD := Lib.hid h6
  unfold maxLen at h2 h5
  have hne : ((N : Int) != (N : Int)) = false := by simp
  clear h3 h6 RX RL RA RB RC
  go_wp2
  clear hne
  go_loopw [14] (fun i wr => ∃ k : Nat, k ≤ N ∧ i = .int .i64 k ∧ ∃ m, wr = w9.drewN m) (fun i _ => N - (intOf i).toNat)
  case atStart => exact ⟨0, by omega, rfl, 0, rfl⟩
  case round =>
    obtain ⟨k, hk, rfl, m, rfl⟩ := hrel
    by_cases hlt : k < N
    · obtain ⟨b, off, rfl, hb, hc⟩ := HC.out (by omega)
      obtain ⟨b2, off2, rfl, hb2, hc2⟩ := HD.out (by omega)
      have g0 : (0 : Int) ≤ (k : Int) := Int.natCast_nonneg _
      have g1' : (k : Int) < (N : Int) := by omega
      have hcx := hc k hlt
      have hdx := hc2 k hlt
      have hkk := HKEEP.out k
      clear hc HC hc2 HD HKEEP
      obtain ⟨x, hx⟩ : ∃ x, x = F k := ⟨_, rfl⟩
      rw [← hx] at hdx hkk
      clear hx
      obtain ⟨u, ⟨a, q, p, st, s⟩⟩ := x
      cases u
      · clear hkk hcx
        obtain ⟨d0', d1', d2', d3', d4', d5'⟩ := hdx
        have d0 : (w9.drewN m).cell? ⟨b2, off2 + k * 6, none⟩ = some (.bool false) := d0'
        have d1 : (w9.drewN m).cell? ⟨b2, off2 + k * 6 + 1, none⟩ = some (.int .i64 a) := d1'
        have d2 : (w9.drewN m).cell? ⟨b2, off2 + k * 6 + 2, none⟩ = some (.int .u64 (q : Int)) := d2'
        have d3 : (w9.drewN m).cell? ⟨b2, off2 + k * 6 + 3, none⟩ = some (.int .i64 p) := d3'
        have d4 : (w9.drewN m).cell? ⟨b2, off2 + k * 6 + 4, none⟩ = some (.bool st) := d4'
        have d5 : (w9.drewN m).cell? ⟨b2, off2 + k * 6 + 5, none⟩ = some (.int .u32 (s : Int)) := d5'
        clear d0' d1' d2' d3' d4' d5'
        go_wp2_with fail
        refine wp_region_held_drew (S := fun w' => w'.cell? ⟨b2, off2 + k * 6, none⟩ = some (.bool false) ∧ w'.cell? ⟨b2, off2 + k * 6 + 1, none⟩ = some (.int .i64 a) ∧ w'.cell? ⟨b2, off2 + k * 6 + 2, none⟩ = some (.int .u64 (q : Int)) ∧ w'.cell? ⟨b2, off2 + k * 6 + 3, none⟩ = some (.int .i64 p) ∧ w'.cell? ⟨b2, off2 + k * 6 + 4, none⟩ = some (.bool st) ∧ w'.cell? ⟨b2, off2 + k * 6 + 5, none⟩ = some (.int .u32 (s : Int))) (by kernel_rfl) ?_ (fun hHeld => ?_)
        · exact ⟨d0, d1, d2, d3, d4, d5⟩
        refine wpAnyH_take (i := 0) (oi := { dst := some 60, op := Go.Op.move (Go.Operand.tmp 0), type := 22, pos := "law.go:166", after := #[], guard := none }) (v := ?_) rfl (by kernel_rfl) (by kernel_rfl) (by kernel_rfl) (fun _ _ _ h => h) (Or.inl ⟨by rfl, ?_⟩) (by assumption) ?_
        rotate_left
        · intro w hSw
          (try dsimp only at hSw)
          go_simp
          try with_reducible rfl
        (try simp only [Act.put, List.setIfInBounds_toArray, List.set_cons_zero, List.set_cons_succ])
        refine wpAnyH_take (i := 1) (oi := { dst := some 61, op := Go.Op.move (Go.Operand.tmp 14), type := 3, pos := "law.go:166", after := #[], guard := none }) (v := ?_) rfl (by kernel_rfl) (by kernel_rfl) (by kernel_rfl) (fun _ _ _ h => h) (Or.inl ⟨by rfl, ?_⟩) (by assumption) ?_
        rotate_left
        · intro w hSw
          (try dsimp only at hSw)
          go_simp
          try with_reducible rfl
        (try simp only [Act.put, List.setIfInBounds_toArray, List.set_cons_zero, List.set_cons_succ])
        refine wpAnyH_take (i := 2) (oi := { dst := some 62, op := Go.Op.indexAddr 22 (Go.Operand.tmp 60) (Go.Operand.tmp 61), type := 0, pos := "law.go:166", after := #[{ on := 0, ground := Go.Ground.data }, { on := 1, ground := Go.Ground.data }], guard := none }) (v := ?_) rfl (by kernel_rfl) (by kernel_rfl) (by kernel_rfl) (fun _ _ _ h => h) (Or.inl ⟨by rfl, ?_⟩) (by assumption) ?_
        rotate_left
        · intro w hSw
          (try dsimp only at hSw)
          go_simp
          try with_reducible rfl
        (try simp only [Act.put, List.setIfInBounds_toArray, List.set_cons_zero, List.set_cons_succ])
        refine wpAnyH_take (i := 3) (oi := { dst := some 63, op := Go.Op.fieldAddr 74 (Go.Operand.tmp 62) 0, type := 0, pos := "law.go:166", after := #[{ on := 2, ground := Go.Ground.data }], guard := none }) (v := ?_) rfl (by kernel_rfl) (by kernel_rfl) (by kernel_rfl) (fun _ _ _ h => h) (Or.inl ⟨by rfl, ?_⟩) (by assumption) ?_
        rotate_left
        · intro w hSw
          (try dsimp only at hSw)
          go_simp
          try with_reducible rfl
        (try simp only [Act.put, List.setIfInBounds_toArray, List.set_cons_zero, List.set_cons_succ])
        refine wpAnyH_take (i := 4) (oi := { dst := some 64, op := Go.Op.load 4 (Go.Operand.tmp 63), type := 4, pos := "law.go:166", after := #[{ on := 3, ground := Go.Ground.data }], guard := none }) (v := ?_) rfl (by kernel_rfl) (by kernel_rfl) (by kernel_rfl) (fun _ _ _ h => h) (Or.inl ⟨by rfl, ?_⟩) (by assumption) ?_
        rotate_left
        · intro w hSw
          (try dsimp only at hSw)
          go_simp
          try with_reducible rfl
        (try simp only [Act.put, List.setIfInBounds_toArray, List.set_cons_zero, List.set_cons_succ])
        refine wpAnyH_take (i := 5) (oi := { dst := some 65, op := Go.Op.move (Go.Operand.tmp 64), type := 4, pos := "law.go:166", after := #[{ on := 4, ground := Go.Ground.data }], guard := none }) (v := ?_) rfl (by kernel_rfl) (by kernel_rfl) (by kernel_rfl) (fun _ _ _ h => h) (Or.inl ⟨by rfl, ?_⟩) (by assumption) ?_
        rotate_left
        · intro w hSw
          (try dsimp only at hSw)
          go_simp
          try with_reducible rfl
        (try simp only [Act.put, List.setIfInBounds_toArray, List.set_cons_zero, List.set_cons_succ])
        refine wpAnyH_take (i := 6) (oi := { dst := some 66, op := Go.Op.move (Go.Operand.tmp 0), type := 22, pos := "law.go:166", after := #[{ on := 5, ground := Go.Ground.guard }], guard := some (5, true) }) (v := undef) rfl (by kernel_rfl) (by kernel_rfl) (by kernel_rfl) (fun _ _ _ h => h) (Or.inr ⟨by rfl, rfl⟩) (by assumption) ?_
        (try simp only [Act.put, List.setIfInBounds_toArray, List.set_cons_zero, List.set_cons_succ])
        refine wpAnyH_take (i := 7) (oi := { dst := some 67, op := Go.Op.move (Go.Operand.tmp 14), type := 3, pos := "law.go:166", after := #[{ on := 5, ground := Go.Ground.guard }], guard := some (5, true) }) (v := undef) rfl (by kernel_rfl) (by kernel_rfl) (by kernel_rfl) (fun _ _ _ h => h) (Or.inr ⟨by rfl, rfl⟩) (by assumption) ?_
        (try simp only [Act.put, List.setIfInBounds_toArray, List.set_cons_zero, List.set_cons_succ])
        refine wpAnyH_take (i := 8) (oi := { dst := some 68, op := Go.Op.indexAddr 22 (Go.Operand.tmp 66) (Go.Operand.tmp 67), type := 0, pos := "law.go:166", after := #[{ on := 6, ground := Go.Ground.data }, { on := 7, ground := Go.Ground.data }, { on := 5, ground := Go.Ground.guard }], guard := some (5, true) }) (v := undef) rfl (by kernel_rfl) (by kernel_rfl) (by kernel_rfl) (fun _ _ _ h => h) (Or.inr ⟨by rfl, rfl⟩) (by assumption) ?_
        (try simp only [Act.put, List.setIfInBounds_toArray, List.set_cons_zero, List.set_cons_succ])
        refine wpAnyH_take (i := 9) (oi := { dst := some 69, op := Go.Op.fieldAddr 74 (Go.Operand.tmp 68) 1, type := 0, pos := "law.go:166", after := #[{ on := 8, ground := Go.Ground.data }, { on := 5, ground := Go.Ground.guard }], guard := some (5, true) }) (v := undef) rfl (by kernel_rfl) (by kernel_rfl) (by kernel_rfl) (fun _ _ _ h => h) (Or.inr ⟨by rfl, rfl⟩) (by assumption) ?_
        (try simp only [Act.put, List.setIfInBounds_toArray, List.set_cons_zero, List.set_cons_succ])
        refine wpAnyH_take (i := 10) (oi := { dst := some 70, op := Go.Op.fieldAddr 72 (Go.Operand.tmp 69) 2, type := 0, pos := "law.go:166", after := #[{ on := 9, ground := Go.Ground.data }, { on := 5, ground := Go.Ground.guard }], guard := some (5, true) }) (v := undef) rfl (by kernel_rfl) (by kernel_rfl) (by kernel_rfl) (fun _ _ _ h => h) (Or.inr ⟨by rfl, rfl⟩) (by assumption) ?_
        (try simp only [Act.put, List.setIfInBounds_toArray, List.set_cons_zero, List.set_cons_succ])
        refine wpAnyH_take (i := 11) (oi := { dst := some 71, op := Go.Op.load 4 (Go.Operand.tmp 70), type := 4, pos := "law.go:166", after := #[{ on := 10, ground := Go.Ground.data }, { on := 5, ground := Go.Ground.guard }], guard := some (5, true) }) (v := undef) rfl (by kernel_rfl) (by kernel_rfl) (by kernel_rfl) (fun _ _ _ h => h) (Or.inr ⟨by rfl, rfl⟩) (by assumption) ?_
        (try simp only [Act.put, List.setIfInBounds_toArray, List.set_cons_zero, List.set_cons_succ])
        refine wpAnyH_take (i := 12) (oi := { dst := some 72, op := Go.Op.pick (Go.Operand.tmp 65) (Go.Operand.tmp 71) (Go.Operand.const (Go.Value.bool false)), type := 4, pos := "law.go:166", after := #[{ on := 5, ground := Go.Ground.data }, { on := 11, ground := Go.Ground.data }], guard := none }) (v := ?_) rfl (by kernel_rfl) (by kernel_rfl) (by kernel_rfl) (fun _ _ _ h => h) (Or.inl ⟨by rfl, ?_⟩) (by assumption) ?_
        rotate_left
        · intro w hSw
          (try dsimp only at hSw)
          go_simp
          try with_reducible rfl
        (try simp only [Act.put, List.setIfInBounds_toArray, List.set_cons_zero, List.set_cons_succ])
        refine wpAnyH_take (i := 13) (oi := { dst := some 73, op := Go.Op.move (Go.Operand.tmp 72), type := 4, pos := "law.go:166", after := #[{ on := 12, ground := Go.Ground.data }, { on := 5, ground := Go.Ground.chain }], guard := none }) (v := ?_) rfl (by kernel_rfl) (by kernel_rfl) (by kernel_rfl) (fun _ _ _ h => h) (Or.inl ⟨by rfl, ?_⟩) (by assumption) ?_
        rotate_left
        · intro w hSw
          (try dsimp only at hSw)
          go_simp
          try with_reducible rfl
        (try simp only [Act.put, List.setIfInBounds_toArray, List.set_cons_zero, List.set_cons_succ])
        refine wpAnyH_take (i := 14) (oi := { dst := some 74, op := Go.Op.move (Go.Operand.tmp 13), type := 22, pos := "law.go:166", after := #[{ on := 13, ground := Go.Ground.guard }], guard := some (13, true) }) (v := undef) rfl (by kernel_rfl) (by kernel_rfl) (by kernel_rfl) (fun _ _ _ h => h) (Or.inr ⟨by rfl, rfl⟩) (by assumption) ?_
        (try simp only [Act.put, List.setIfInBounds_toArray, List.set_cons_zero, List.set_cons_succ])
        refine wpAnyH_take (i := 15) (oi := { dst := some 75, op := Go.Op.move (Go.Operand.tmp 14), type := 3, pos := "law.go:166", after := #[{ on := 13, ground := Go.Ground.guard }], guard := some (13, true) }) (v := undef) rfl (by kernel_rfl) (by kernel_rfl) (by kernel_rfl) (fun _ _ _ h => h) (Or.inr ⟨by rfl, rfl⟩) (by assumption) ?_
        (try simp only [Act.put, List.setIfInBounds_toArray, List.set_cons_zero, List.set_cons_succ])
        refine wpAnyH_take (i := 16) (oi := { dst := some 76, op := Go.Op.indexAddr 22 (Go.Operand.tmp 74) (Go.Operand.tmp 75), type := 0, pos := "law.go:166", after := #[{ on := 14, ground := Go.Ground.data }, { on := 15, ground := Go.Ground.data }, { on := 13, ground := Go.Ground.guard }], guard := some (13, true) }) (v := undef) rfl (by kernel_rfl) (by kernel_rfl) (by kernel_rfl) (fun _ _ _ h => h) (Or.inr ⟨by rfl, rfl⟩) (by assumption) ?_
        (try simp only [Act.put, List.setIfInBounds_toArray, List.set_cons_zero, List.set_cons_succ])
        refine wpAnyH_take (i := 17) (oi := { dst := some 77, op := Go.Op.load 74 (Go.Operand.tmp 76), type := 74, pos := "law.go:166", after := #[{ on := 16, ground := Go.Ground.data }, { on := 13, ground := Go.Ground.guard }], guard := some (13, true) }) (v := undef) rfl (by kernel_rfl) (by kernel_rfl) (by kernel_rfl) (fun _ _ _ h => h) (Or.inr ⟨by rfl, rfl⟩) (by assumption) ?_
        (try simp only [Act.put, List.setIfInBounds_toArray, List.set_cons_zero, List.set_cons_succ])
        refine wpAnyH_take (i := 18) (oi := { dst := some 78, op := Go.Op.move (Go.Operand.tmp 0), type := 22, pos := "law.go:166", after := #[{ on := 13, ground := Go.Ground.guard }], guard := some (13, true) }) (v := undef) rfl (by kernel_rfl) (by kernel_rfl) (by kernel_rfl) (fun _ _ _ h => h) (Or.inr ⟨by rfl, rfl⟩) (by assumption) ?_
        (try simp only [Act.put, List.setIfInBounds_toArray, List.set_cons_zero, List.set_cons_succ])
        refine wpAnyH_take (i := 19) (oi := { dst := some 79, op := Go.Op.move (Go.Operand.tmp 14), type := 3, pos := "law.go:166", after := #[{ on := 13, ground := Go.Ground.guard }], guard := some (13, true) }) (v := undef) rfl (by kernel_rfl) (by kernel_rfl) (by kernel_rfl) (fun _ _ _ h => h) (Or.inr ⟨by rfl, rfl⟩) (by assumption) ?_
        (try simp only [Act.put, List.setIfInBounds_toArray, List.set_cons_zero, List.set_cons_succ])
        refine wpAnyH_take (i := 20) (oi := { dst := some 80, op := Go.Op.indexAddr 22 (Go.Operand.tmp 78) (Go.Operand.tmp 79), type := 0, pos := "law.go:166", after := #[{ on := 18, ground := Go.Ground.data }, { on := 19, ground := Go.Ground.data }, { on := 13, ground := Go.Ground.guard }], guard := some (13, true) }) (v := undef) rfl (by kernel_rfl) (by kernel_rfl) (by kernel_rfl) (fun _ _ _ h => h) (Or.inr ⟨by rfl, rfl⟩) (by assumption) ?_
        (try simp only [Act.put, List.setIfInBounds_toArray, List.set_cons_zero, List.set_cons_succ])
        refine wpAnyH_take (i := 21) (oi := { dst := some 81, op := Go.Op.load 74 (Go.Operand.tmp 80), type := 74, pos := "law.go:166", after := #[{ on := 20, ground := Go.Ground.data }, { on := 13, ground := Go.Ground.guard }], guard := some (13, true) }) (v := undef) rfl (by kernel_rfl) (by kernel_rfl) (by kernel_rfl) (fun _ _ _ h => h) (Or.inr ⟨by rfl, rfl⟩) (by assumption) ?_
        (try simp only [Act.put, List.setIfInBounds_toArray, List.set_cons_zero, List.set_cons_succ])
        refine wpAnyH_take (i := 22) (oi := { dst := some 82, op := Go.Op.binOp Go.BinOp.neq 74 (Go.Operand.tmp 77) (Go.Operand.tmp 81) 74, type := 4, pos := "law.go:166", after := #[{ on := 17, ground := Go.Ground.data }, { on := 21, ground := Go.Ground.data }, { on := 13, ground := Go.Ground.guard }], guard := some (13, true) }) (v := undef) rfl (by kernel_rfl) (by kernel_rfl) (by kernel_rfl) (fun _ _ _ h => h) (Or.inr ⟨by rfl, rfl⟩) (by assumption) ?_
        (try simp only [Act.put, List.setIfInBounds_toArray, List.set_cons_zero, List.set_cons_succ])
        refine wpAnyH_take (i := 23) (oi := { dst := some 83, op := Go.Op.pick (Go.Operand.tmp 73) (Go.Operand.tmp 82) (Go.Operand.const (Go.Value.bool false)), type := 4, pos := "law.go:166", after := #[{ on := 13, ground := Go.Ground.data }, { on := 22, ground := Go.Ground.data }], guard := none }) (v := ?_) rfl (by kernel_rfl) (by kernel_rfl) (by kernel_rfl) (fun _ _ _ h => h) (Or.inl ⟨by rfl, ?_⟩) (by assumption) ?_
        rotate_left
        · intro w hSw
          (try dsimp only at hSw)
          go_simp
          try with_reducible rfl
        (try simp only [Act.put, List.setIfInBounds_toArray, List.set_cons_zero, List.set_cons_succ])
        refine wpAnyH_done (by kernel_rfl) ?_ _
        go_wp2
        go_roundw
        case rel => exact ⟨k + 1, by omega, by go_num, _, (by first | rfl | exact World.drewN_drewN _ _ _)⟩
        case measure => simp [intOf]; omega
      · cases st
        · clear hkk hcx
          obtain ⟨d0', d1', d2', d3', d4', d5'⟩ := hdx
          have d0 : (w9.drewN m).cell? ⟨b2, off2 + k * 6, none⟩ = some (.bool true) := d0'
          have d1 : (w9.drewN m).cell? ⟨b2, off2 + k * 6 + 1, none⟩ = some (.int .i64 a) := d1'
          have d2 : (w9.drewN m).cell? ⟨b2, off2 + k * 6 + 2, none⟩ = some (.int .u64 (q : Int)) := d2'
          have d3 : (w9.drewN m).cell? ⟨b2, off2 + k * 6 + 3, none⟩ = some (.int .i64 p) := d3'
          have d4 : (w9.drewN m).cell? ⟨b2, off2 + k * 6 + 4, none⟩ = some (.bool false) := d4'
          have d5 : (w9.drewN m).cell? ⟨b2, off2 + k * 6 + 5, none⟩ = some (.int .u32 (s : Int)) := d5'
          clear d0' d1' d2' d3' d4' d5'
          go_wp2_with fail
          refine wp_region_held_drew (S := fun w' => w'.cell? ⟨b2, off2 + k * 6, none⟩ = some (.bool true) ∧ w'.cell? ⟨b2, off2 + k * 6 + 1, none⟩ = some (.int .i64 a) ∧ w'.cell? ⟨b2, off2 + k * 6 + 2, none⟩ = some (.int .u64 (q : Int)) ∧ w'.cell? ⟨b2, off2 + k * 6 + 3, none⟩ = some (.int .i64 p) ∧ w'.cell? ⟨b2, off2 + k * 6 + 4, none⟩ = some (.bool false) ∧ w'.cell? ⟨b2, off2 + k * 6 + 5, none⟩ = some (.int .u32 (s : Int))) (by kernel_rfl) ?_ (fun hHeld => ?_)
          · exact ⟨d0, d1, d2, d3, d4, d5⟩
          refine wpAnyH_take (i := 0) (oi := { dst := some 60, op := Go.Op.move (Go.Operand.tmp 0), type := 22, pos := "law.go:166", after := #[], guard := none }) (v := ?_) rfl (by kernel_rfl) (by kernel_rfl) (by kernel_rfl) (fun _ _ _ h => h) (Or.inl ⟨by rfl, ?_⟩) (by assumption) ?_
          rotate_left
          · intro w hSw
            (try dsimp only at hSw)
            go_simp
            try with_reducible rfl
          (try simp only [Act.put, List.setIfInBounds_toArray, List.set_cons_zero, List.set_cons_succ])
          refine wpAnyH_take (i := 1) (oi := { dst := some 61, op := Go.Op.move (Go.Operand.tmp 14), type := 3, pos := "law.go:166", after := #[], guard := none }) (v := ?_) rfl (by kernel_rfl) (by kernel_rfl) (by kernel_rfl) (fun _ _ _ h => h) (Or.inl ⟨by rfl, ?_⟩) (by assumption) ?_
          rotate_left
          · intro w hSw
            (try dsimp only at hSw)
            go_simp
            try with_reducible rfl
          (try simp only [Act.put, List.setIfInBounds_toArray, List.set_cons_zero, List.set_cons_succ])
          refine wpAnyH_take (i := 2) (oi := { dst := some 62, op := Go.Op.indexAddr 22 (Go.Operand.tmp 60) (Go.Operand.tmp 61), type := 0, pos := "law.go:166", after := #[{ on := 0, ground := Go.Ground.data }, { on := 1, ground := Go.Ground.data }], guard := none }) (v := ?_) rfl (by kernel_rfl) (by kernel_rfl) (by kernel_rfl) (fun _ _ _ h => h) (Or.inl ⟨by rfl, ?_⟩) (by assumption) ?_
          rotate_left
          · intro w hSw
            (try dsimp only at hSw)
            go_simp
            try with_reducible rfl
          (try simp only [Act.put, List.setIfInBounds_toArray, List.set_cons_zero, List.set_cons_succ])
          refine wpAnyH_take (i := 3) (oi := { dst := some 63, op := Go.Op.fieldAddr 74 (Go.Operand.tmp 62) 0, type := 0, pos := "law.go:166", after := #[{ on := 2, ground := Go.Ground.data }], guard := none }) (v := ?_) rfl (by kernel_rfl) (by kernel_rfl) (by kernel_rfl) (fun _ _ _ h => h) (Or.inl ⟨by rfl, ?_⟩) (by assumption) ?_
          rotate_left
          · intro w hSw
            (try dsimp only at hSw)
            go_simp
            try with_reducible rfl
          (try simp only [Act.put, List.setIfInBounds_toArray, List.set_cons_zero, List.set_cons_succ])
          refine wpAnyH_take (i := 4) (oi := { dst := some 64, op := Go.Op.load 4 (Go.Operand.tmp 63), type := 4, pos := "law.go:166", after := #[{ on := 3, ground := Go.Ground.data }], guard := none }) (v := ?_) rfl (by kernel_rfl) (by kernel_rfl) (by kernel_rfl) (fun _ _ _ h => h) (Or.inl ⟨by rfl, ?_⟩) (by assumption) ?_
          rotate_left
          · intro w hSw
            (try dsimp only at hSw)
            go_simp
            try with_reducible rfl
          (try simp only [Act.put, List.setIfInBounds_toArray, List.set_cons_zero, List.set_cons_succ])
          refine wpAnyH_take (i := 5) (oi := { dst := some 65, op := Go.Op.move (Go.Operand.tmp 64), type := 4, pos := "law.go:166", after := #[{ on := 4, ground := Go.Ground.data }], guard := none }) (v := ?_) rfl (by kernel_rfl) (by kernel_rfl) (by kernel_rfl) (fun _ _ _ h => h) (Or.inl ⟨by rfl, ?_⟩) (by assumption) ?_
          rotate_left
          · intro w hSw
            (try dsimp only at hSw)
            go_simp
            try with_reducible rfl
          (try simp only [Act.put, List.setIfInBounds_toArray, List.set_cons_zero, List.set_cons_succ])
          refine wpAnyH_take (i := 6) (oi := { dst := some 66, op := Go.Op.move (Go.Operand.tmp 0), type := 22, pos := "law.go:166", after := #[{ on := 5, ground := Go.Ground.guard }], guard := some (5, true) }) (v := ?_) rfl (by kernel_rfl) (by kernel_rfl) (by kernel_rfl) (fun _ _ _ h => h) (Or.inl ⟨by rfl, ?_⟩) (by assumption) ?_
          rotate_left
          · intro w hSw
            (try dsimp only at hSw)
            go_simp
            try with_reducible rfl
          (try simp only [Act.put, List.setIfInBounds_toArray, List.set_cons_zero, List.set_cons_succ])
          refine wpAnyH_take (i := 7) (oi := { dst := some 67, op := Go.Op.move (Go.Operand.tmp 14), type := 3, pos := "law.go:166", after := #[{ on := 5, ground := Go.Ground.guard }], guard := some (5, true) }) (v := ?_) rfl (by kernel_rfl) (by kernel_rfl) (by kernel_rfl) (fun _ _ _ h => h) (Or.inl ⟨by rfl, ?_⟩) (by assumption) ?_
          rotate_left
          · intro w hSw
            (try dsimp only at hSw)
            go_simp
            try with_reducible rfl
          (try simp only [Act.put, List.setIfInBounds_toArray, List.set_cons_zero, List.set_cons_succ])
          refine wpAnyH_take (i := 8) (oi := { dst := some 68, op := Go.Op.indexAddr 22 (Go.Operand.tmp 66) (Go.Operand.tmp 67), type := 0, pos := "law.go:166", after := #[{ on := 6, ground := Go.Ground.data }, { on := 7, ground := Go.Ground.data }, { on := 5, ground := Go.Ground.guard }], guard := some (5, true) }) (v := ?_) rfl (by kernel_rfl) (by kernel_rfl) (by kernel_rfl) (fun _ _ _ h => h) (Or.inl ⟨by rfl, ?_⟩) (by assumption) ?_
          rotate_left
          · intro w hSw
            (try dsimp only at hSw)
            go_simp
            try with_reducible rfl
          (try simp only [Act.put, List.setIfInBounds_toArray, List.set_cons_zero, List.set_cons_succ])
          refine wpAnyH_take (i := 9) (oi := { dst := some 69, op := Go.Op.fieldAddr 74 (Go.Operand.tmp 68) 1, type := 0, pos := "law.go:166", after := #[{ on := 8, ground := Go.Ground.data }, { on := 5, ground := Go.Ground.guard }], guard := some (5, true) }) (v := ?_) rfl (by kernel_rfl) (by kernel_rfl) (by kernel_rfl) (fun _ _ _ h => h) (Or.inl ⟨by rfl, ?_⟩) (by assumption) ?_
          rotate_left
          · intro w hSw
            (try dsimp only at hSw)
            go_simp
            try with_reducible rfl
          (try simp only [Act.put, List.setIfInBounds_toArray, List.set_cons_zero, List.set_cons_succ])
          refine wpAnyH_take (i := 10) (oi := { dst := some 70, op := Go.Op.fieldAddr 72 (Go.Operand.tmp 69) 2, type := 0, pos := "law.go:166", after := #[{ on := 9, ground := Go.Ground.data }, { on := 5, ground := Go.Ground.guard }], guard := some (5, true) }) (v := ?_) rfl (by kernel_rfl) (by kernel_rfl) (by kernel_rfl) (fun _ _ _ h => h) (Or.inl ⟨by rfl, ?_⟩) (by assumption) ?_
          rotate_left
          · intro w hSw
            (try dsimp only at hSw)
            go_simp
            try with_reducible rfl
          (try simp only [Act.put, List.setIfInBounds_toArray, List.set_cons_zero, List.set_cons_succ])
          refine wpAnyH_take (i := 11) (oi := { dst := some 71, op := Go.Op.load 4 (Go.Operand.tmp 70), type := 4, pos := "law.go:166", after := #[{ on := 10, ground := Go.Ground.data }, { on := 5, ground := Go.Ground.guard }], guard := some (5, true) }) (v := ?_) rfl (by kernel_rfl) (by kernel_rfl) (by kernel_rfl) (fun _ _ _ h => h) (Or.inl ⟨by rfl, ?_⟩) (by assumption) ?_
          rotate_left
          · intro w hSw
            (try dsimp only at hSw)
            go_simp
            try with_reducible rfl
          (try simp only [Act.put, List.setIfInBounds_toArray, List.set_cons_zero, List.set_cons_succ])
          refine wpAnyH_take (i := 12) (oi := { dst := some 72, op := Go.Op.pick (Go.Operand.tmp 65) (Go.Operand.tmp 71) (Go.Operand.const (Go.Value.bool false)), type := 4, pos := "law.go:166", after := #[{ on := 5, ground := Go.Ground.data }, { on := 11, ground := Go.Ground.data }], guard := none }) (v := ?_) rfl (by kernel_rfl) (by kernel_rfl) (by kernel_rfl) (fun _ _ _ h => h) (Or.inl ⟨by rfl, ?_⟩) (by assumption) ?_
          rotate_left
          · intro w hSw
            (try dsimp only at hSw)
            go_simp
            try with_reducible rfl
          (try simp only [Act.put, List.setIfInBounds_toArray, List.set_cons_zero, List.set_cons_succ])
          refine wpAnyH_take (i := 13) (oi := { dst := some 73, op := Go.Op.move (Go.Operand.tmp 72), type := 4, pos := "law.go:166", after := #[{ on := 12, ground := Go.Ground.data }, { on := 5, ground := Go.Ground.chain }], guard := none }) (v := ?_) rfl (by kernel_rfl) (by kernel_rfl) (by kernel_rfl) (fun _ _ _ h => h) (Or.inl ⟨by rfl, ?_⟩) (by assumption) ?_
          rotate_left
          · intro w hSw
            (try dsimp only at hSw)
            go_simp
            try with_reducible rfl
          (try simp only [Act.put, List.setIfInBounds_toArray, List.set_cons_zero, List.set_cons_succ])
          refine wpAnyH_take (i := 14) (oi := { dst := some 74, op := Go.Op.move (Go.Operand.tmp 13), type := 22, pos := "law.go:166", after := #[{ on := 13, ground := Go.Ground.guard }], guard := some (13, true) }) (v := undef) rfl (by kernel_rfl) (by kernel_rfl) (by kernel_rfl) (fun _ _ _ h => h) (Or.inr ⟨by rfl, rfl⟩) (by assumption) ?_
          (try simp only [Act.put, List.setIfInBounds_toArray, List.set_cons_zero, List.set_cons_succ])
          refine wpAnyH_take (i := 15) (oi := { dst := some 75, op := Go.Op.move (Go.Operand.tmp 14), type := 3, pos := "law.go:166", after := #[{ on := 13, ground := Go.Ground.guard }], guard := some (13, true) }) (v := undef) rfl (by kernel_rfl) (by kernel_rfl) (by kernel_rfl) (fun _ _ _ h => h) (Or.inr ⟨by rfl, rfl⟩) (by assumption) ?_
          (try simp only [Act.put, List.setIfInBounds_toArray, List.set_cons_zero, List.set_cons_succ])
          refine wpAnyH_take (i := 16) (oi := { dst := some 76, op := Go.Op.indexAddr 22 (Go.Operand.tmp 74) (Go.Operand.tmp 75), type := 0, pos := "law.go:166", after := #[{ on := 14, ground := Go.Ground.data }, { on := 15, ground := Go.Ground.data }, { on := 13, ground := Go.Ground.guard }], guard := some (13, true) }) (v := undef) rfl (by kernel_rfl) (by kernel_rfl) (by kernel_rfl) (fun _ _ _ h => h) (Or.inr ⟨by rfl, rfl⟩) (by assumption) ?_
          (try simp only [Act.put, List.setIfInBounds_toArray, List.set_cons_zero, List.set_cons_succ])
          refine wpAnyH_take (i := 17) (oi := { dst := some 77, op := Go.Op.load 74 (Go.Operand.tmp 76), type := 74, pos := "law.go:166", after := #[{ on := 16, ground := Go.Ground.data }, { on := 13, ground := Go.Ground.guard }], guard := some (13, true) }) (v := undef) rfl (by kernel_rfl) (by kernel_rfl) (by kernel_rfl) (fun _ _ _ h => h) (Or.inr ⟨by rfl, rfl⟩) (by assumption) ?_
          (try simp only [Act.put, List.setIfInBounds_toArray, List.set_cons_zero, List.set_cons_succ])
          refine wpAnyH_take (i := 18) (oi := { dst := some 78, op := Go.Op.move (Go.Operand.tmp 0), type := 22, pos := "law.go:166", after := #[{ on := 13, ground := Go.Ground.guard }], guard := some (13, true) }) (v := undef) rfl (by kernel_rfl) (by kernel_rfl) (by kernel_rfl) (fun _ _ _ h => h) (Or.inr ⟨by rfl, rfl⟩) (by assumption) ?_
          (try simp only [Act.put, List.setIfInBounds_toArray, List.set_cons_zero, List.set_cons_succ])
          refine wpAnyH_take (i := 19) (oi := { dst := some 79, op := Go.Op.move (Go.Operand.tmp 14), type := 3, pos := "law.go:166", after := #[{ on := 13, ground := Go.Ground.guard }], guard := some (13, true) }) (v := undef) rfl (by kernel_rfl) (by kernel_rfl) (by kernel_rfl) (fun _ _ _ h => h) (Or.inr ⟨by rfl, rfl⟩) (by assumption) ?_
          (try simp only [Act.put, List.setIfInBounds_toArray, List.set_cons_zero, List.set_cons_succ])
          refine wpAnyH_take (i := 20) (oi := { dst := some 80, op := Go.Op.indexAddr 22 (Go.Operand.tmp 78) (Go.Operand.tmp 79), type := 0, pos := "law.go:166", after := #[{ on := 18, ground := Go.Ground.data }, { on := 19, ground := Go.Ground.data }, { on := 13, ground := Go.Ground.guard }], guard := some (13, true) }) (v := undef) rfl (by kernel_rfl) (by kernel_rfl) (by kernel_rfl) (fun _ _ _ h => h) (Or.inr ⟨by rfl, rfl⟩) (by assumption) ?_
          (try simp only [Act.put, List.setIfInBounds_toArray, List.set_cons_zero, List.set_cons_succ])
          refine wpAnyH_take (i := 21) (oi := { dst := some 81, op := Go.Op.load 74 (Go.Operand.tmp 80), type := 74, pos := "law.go:166", after := #[{ on := 20, ground := Go.Ground.data }, { on := 13, ground := Go.Ground.guard }], guard := some (13, true) }) (v := undef) rfl (by kernel_rfl) (by kernel_rfl) (by kernel_rfl) (fun _ _ _ h => h) (Or.inr ⟨by rfl, rfl⟩) (by assumption) ?_
          (try simp only [Act.put, List.setIfInBounds_toArray, List.set_cons_zero, List.set_cons_succ])
          refine wpAnyH_take (i := 22) (oi := { dst := some 82, op := Go.Op.binOp Go.BinOp.neq 74 (Go.Operand.tmp 77) (Go.Operand.tmp 81) 74, type := 4, pos := "law.go:166", after := #[{ on := 17, ground := Go.Ground.data }, { on := 21, ground := Go.Ground.data }, { on := 13, ground := Go.Ground.guard }], guard := some (13, true) }) (v := undef) rfl (by kernel_rfl) (by kernel_rfl) (by kernel_rfl) (fun _ _ _ h => h) (Or.inr ⟨by rfl, rfl⟩) (by assumption) ?_
          (try simp only [Act.put, List.setIfInBounds_toArray, List.set_cons_zero, List.set_cons_succ])
          refine wpAnyH_take (i := 23) (oi := { dst := some 83, op := Go.Op.pick (Go.Operand.tmp 73) (Go.Operand.tmp 82) (Go.Operand.const (Go.Value.bool false)), type := 4, pos := "law.go:166", after := #[{ on := 13, ground := Go.Ground.data }, { on := 22, ground := Go.Ground.data }], guard := none }) (v := ?_) rfl (by kernel_rfl) (by kernel_rfl) (by kernel_rfl) (fun _ _ _ h => h) (Or.inl ⟨by rfl, ?_⟩) (by assumption) ?_
          rotate_left
          · intro w hSw
            (try dsimp only at hSw)
            go_simp
            try with_reducible rfl
          (try simp only [Act.put, List.setIfInBounds_toArray, List.set_cons_zero, List.set_cons_succ])
          refine wpAnyH_done (by kernel_rfl) ?_ _
          go_wp2
          go_roundw
          case rel => exact ⟨k + 1, by omega, by go_num, _, (by first | rfl | exact World.drewN_drewN _ _ _)⟩
          case measure => simp [intOf]; omega
        · rw [hkk rfl rfl] at hcx
          clear hkk
          obtain ⟨c0', c1', c2', c3', c4', c5'⟩ := hcx
          have c0 : (w9.drewN m).cell? ⟨b, off + k * 6, none⟩ = some (.bool true) := c0'
          have c1 : (w9.drewN m).cell? ⟨b, off + k * 6 + 1, none⟩ = some (.int .i64 a) := c1'
          have c2 : (w9.drewN m).cell? ⟨b, off + k * 6 + 2, none⟩ = some (.int .u64 (q : Int)) := c2'
          have c3 : (w9.drewN m).cell? ⟨b, off + k * 6 + 3, none⟩ = some (.int .i64 p) := c3'
          have c4 : (w9.drewN m).cell? ⟨b, off + k * 6 + 4, none⟩ = some (.bool true) := c4'
          have c5 : (w9.drewN m).cell? ⟨b, off + k * 6 + 5, none⟩ = some (.int .u32 (s : Int)) := c5'
          clear c0' c1' c2' c3' c4' c5'
          obtain ⟨d0', d1', d2', d3', d4', d5'⟩ := hdx
          have d0 : (w9.drewN m).cell? ⟨b2, off2 + k * 6, none⟩ = some (.bool true) := d0'
          have d1 : (w9.drewN m).cell? ⟨b2, off2 + k * 6 + 1, none⟩ = some (.int .i64 a) := d1'
          have d2 : (w9.drewN m).cell? ⟨b2, off2 + k * 6 + 2, none⟩ = some (.int .u64 (q : Int)) := d2'
          have d3 : (w9.drewN m).cell? ⟨b2, off2 + k * 6 + 3, none⟩ = some (.int .i64 p) := d3'
          have d4 : (w9.drewN m).cell? ⟨b2, off2 + k * 6 + 4, none⟩ = some (.bool true) := d4'
          have d5 : (w9.drewN m).cell? ⟨b2, off2 + k * 6 + 5, none⟩ = some (.int .u32 (s : Int)) := d5'
          clear d0' d1' d2' d3' d4' d5'
          go_wp2_with fail
          refine wp_region_held_drew (S := fun w' => w'.cell? ⟨b, off + k * 6, none⟩ = some (.bool true) ∧ w'.cell? ⟨b, off + k * 6 + 1, none⟩ = some (.int .i64 a) ∧ w'.cell? ⟨b, off + k * 6 + 2, none⟩ = some (.int .u64 (q : Int)) ∧ w'.cell? ⟨b, off + k * 6 + 3, none⟩ = some (.int .i64 p) ∧ w'.cell? ⟨b, off + k * 6 + 4, none⟩ = some (.bool true) ∧ w'.cell? ⟨b, off + k * 6 + 5, none⟩ = some (.int .u32 (s : Int)) ∧ w'.cell? ⟨b2, off2 + k * 6, none⟩ = some (.bool true) ∧ w'.cell? ⟨b2, off2 + k * 6 + 1, none⟩ = some (.int .i64 a) ∧ w'.cell? ⟨b2, off2 + k * 6 + 2, none⟩ = some (.int .u64 (q : Int)) ∧ w'.cell? ⟨b2, off2 + k * 6 + 3, none⟩ = some (.int .i64 p) ∧ w'.cell? ⟨b2, off2 + k * 6 + 4, none⟩ = some (.bool true) ∧ w'.cell? ⟨b2, off2 + k * 6 + 5, none⟩ = some (.int .u32 (s : Int))) (by kernel_rfl) ?_ (fun hHeld => ?_)
          · exact ⟨c0, c1, c2, c3, c4, c5, d0, d1, d2, d3, d4, d5⟩
          refine wpAnyH_take (i := 0) (oi := { dst := some 60, op := Go.Op.move (Go.Operand.tmp 0), type := 22, pos := "law.go:166", after := #[], guard := none }) (v := ?_) rfl (by kernel_rfl) (by kernel_rfl) (by kernel_rfl) (fun _ _ _ h => h) (Or.inl ⟨by rfl, ?_⟩) (by assumption) ?_
          rotate_left
          · intro w hSw
            (try dsimp only at hSw)
            go_simp
            try with_reducible rfl
          (try simp only [Act.put, List.setIfInBounds_toArray, List.set_cons_zero, List.set_cons_succ])
          refine wpAnyH_take (i := 1) (oi := { dst := some 61, op := Go.Op.move (Go.Operand.tmp 14), type := 3, pos := "law.go:166", after := #[], guard := none }) (v := ?_) rfl (by kernel_rfl) (by kernel_rfl) (by kernel_rfl) (fun _ _ _ h => h) (Or.inl ⟨by rfl, ?_⟩) (by assumption) ?_
          rotate_left
          · intro w hSw
            (try dsimp only at hSw)
            go_simp
            try with_reducible rfl
          (try simp only [Act.put, List.setIfInBounds_toArray, List.set_cons_zero, List.set_cons_succ])
          refine wpAnyH_take (i := 2) (oi := { dst := some 62, op := Go.Op.indexAddr 22 (Go.Operand.tmp 60) (Go.Operand.tmp 61), type := 0, pos := "law.go:166", after := #[{ on := 0, ground := Go.Ground.data }, { on := 1, ground := Go.Ground.data }], guard := none }) (v := ?_) rfl (by kernel_rfl) (by kernel_rfl) (by kernel_rfl) (fun _ _ _ h => h) (Or.inl ⟨by rfl, ?_⟩) (by assumption) ?_
          rotate_left
          · intro w hSw
            (try dsimp only at hSw)
            go_simp
            try with_reducible rfl
          (try simp only [Act.put, List.setIfInBounds_toArray, List.set_cons_zero, List.set_cons_succ])
          refine wpAnyH_take (i := 3) (oi := { dst := some 63, op := Go.Op.fieldAddr 74 (Go.Operand.tmp 62) 0, type := 0, pos := "law.go:166", after := #[{ on := 2, ground := Go.Ground.data }], guard := none }) (v := ?_) rfl (by kernel_rfl) (by kernel_rfl) (by kernel_rfl) (fun _ _ _ h => h) (Or.inl ⟨by rfl, ?_⟩) (by assumption) ?_
          rotate_left
          · intro w hSw
            (try dsimp only at hSw)
            go_simp
            try with_reducible rfl
          (try simp only [Act.put, List.setIfInBounds_toArray, List.set_cons_zero, List.set_cons_succ])
          refine wpAnyH_take (i := 4) (oi := { dst := some 64, op := Go.Op.load 4 (Go.Operand.tmp 63), type := 4, pos := "law.go:166", after := #[{ on := 3, ground := Go.Ground.data }], guard := none }) (v := ?_) rfl (by kernel_rfl) (by kernel_rfl) (by kernel_rfl) (fun _ _ _ h => h) (Or.inl ⟨by rfl, ?_⟩) (by assumption) ?_
          rotate_left
          · intro w hSw
            (try dsimp only at hSw)
            go_simp
            try with_reducible rfl
          (try simp only [Act.put, List.setIfInBounds_toArray, List.set_cons_zero, List.set_cons_succ])
          refine wpAnyH_take (i := 5) (oi := { dst := some 65, op := Go.Op.move (Go.Operand.tmp 64), type := 4, pos := "law.go:166", after := #[{ on := 4, ground := Go.Ground.data }], guard := none }) (v := ?_) rfl (by kernel_rfl) (by kernel_rfl) (by kernel_rfl) (fun _ _ _ h => h) (Or.inl ⟨by rfl, ?_⟩) (by assumption) ?_
          rotate_left
          · intro w hSw
            (try dsimp only at hSw)
            go_simp
            try with_reducible rfl
          (try simp only [Act.put, List.setIfInBounds_toArray, List.set_cons_zero, List.set_cons_succ])
          refine wpAnyH_take (i := 6) (oi := { dst := some 66, op := Go.Op.move (Go.Operand.tmp 0), type := 22, pos := "law.go:166", after := #[{ on := 5, ground := Go.Ground.guard }], guard := some (5, true) }) (v := ?_) rfl (by kernel_rfl) (by kernel_rfl) (by kernel_rfl) (fun _ _ _ h => h) (Or.inl ⟨by rfl, ?_⟩) (by assumption) ?_
          rotate_left
          · intro w hSw
            (try dsimp only at hSw)
            go_simp
            try with_reducible rfl
          (try simp only [Act.put, List.setIfInBounds_toArray, List.set_cons_zero, List.set_cons_succ])
          refine wpAnyH_take (i := 7) (oi := { dst := some 67, op := Go.Op.move (Go.Operand.tmp 14), type := 3, pos := "law.go:166", after := #[{ on := 5, ground := Go.Ground.guard }], guard := some (5, true) }) (v := ?_) rfl (by kernel_rfl) (by kernel_rfl) (by kernel_rfl) (fun _ _ _ h => h) (Or.inl ⟨by rfl, ?_⟩) (by assumption) ?_
          rotate_left
          · intro w hSw
            (try dsimp only at hSw)
            go_simp
            try with_reducible rfl
          (try simp only [Act.put, List.setIfInBounds_toArray, List.set_cons_zero, List.set_cons_succ])
          refine wpAnyH_take (i := 8) (oi := { dst := some 68, op := Go.Op.indexAddr 22 (Go.Operand.tmp 66) (Go.Operand.tmp 67), type := 0, pos := "law.go:166", after := #[{ on := 6, ground := Go.Ground.data }, { on := 7, ground := Go.Ground.data }, { on := 5, ground := Go.Ground.guard }], guard := some (5, true) }) (v := ?_) rfl (by kernel_rfl) (by kernel_rfl) (by kernel_rfl) (fun _ _ _ h => h) (Or.inl ⟨by rfl, ?_⟩) (by assumption) ?_
          rotate_left
          · intro w hSw
            (try dsimp only at hSw)
            go_simp
            try with_reducible rfl
          (try simp only [Act.put, List.setIfInBounds_toArray, List.set_cons_zero, List.set_cons_succ])
          refine wpAnyH_take (i := 9) (oi := { dst := some 69, op := Go.Op.fieldAddr 74 (Go.Operand.tmp 68) 1, type := 0, pos := "law.go:166", after := #[{ on := 8, ground := Go.Ground.data }, { on := 5, ground := Go.Ground.guard }], guard := some (5, true) }) (v := ?_) rfl (by kernel_rfl) (by kernel_rfl) (by kernel_rfl) (fun _ _ _ h => h) (Or.inl ⟨by rfl, ?_⟩) (by assumption) ?_
          rotate_left
          · intro w hSw
            (try dsimp only at hSw)
            go_simp
            try with_reducible rfl
          (try simp only [Act.put, List.setIfInBounds_toArray, List.set_cons_zero, List.set_cons_succ])
          refine wpAnyH_take (i := 10) (oi := { dst := some 70, op := Go.Op.fieldAddr 72 (Go.Operand.tmp 69) 2, type := 0, pos := "law.go:166", after := #[{ on := 9, ground := Go.Ground.data }, { on := 5, ground := Go.Ground.guard }], guard := some (5, true) }) (v := ?_) rfl (by kernel_rfl) (by kernel_rfl) (by kernel_rfl) (fun _ _ _ h => h) (Or.inl ⟨by rfl, ?_⟩) (by assumption) ?_
          rotate_left
          · intro w hSw
            (try dsimp only at hSw)
            go_simp
            try with_reducible rfl
          (try simp only [Act.put, List.setIfInBounds_toArray, List.set_cons_zero, List.set_cons_succ])
          refine wpAnyH_take (i := 11) (oi := { dst := some 71, op := Go.Op.load 4 (Go.Operand.tmp 70), type := 4, pos := "law.go:166", after := #[{ on := 10, ground := Go.Ground.data }, { on := 5, ground := Go.Ground.guard }], guard := some (5, true) }) (v := ?_) rfl (by kernel_rfl) (by kernel_rfl) (by kernel_rfl) (fun _ _ _ h => h) (Or.inl ⟨by rfl, ?_⟩) (by assumption) ?_
          rotate_left
          · intro w hSw
            (try dsimp only at hSw)
            go_simp
            try with_reducible rfl
          (try simp only [Act.put, List.setIfInBounds_toArray, List.set_cons_zero, List.set_cons_succ])
          refine wpAnyH_take (i := 12) (oi := { dst := some 72, op := Go.Op.pick (Go.Operand.tmp 65) (Go.Operand.tmp 71) (Go.Operand.const (Go.Value.bool false)), type := 4, pos := "law.go:166", after := #[{ on := 5, ground := Go.Ground.data }, { on := 11, ground := Go.Ground.data }], guard := none }) (v := ?_) rfl (by kernel_rfl) (by kernel_rfl) (by kernel_rfl) (fun _ _ _ h => h) (Or.inl ⟨by rfl, ?_⟩) (by assumption) ?_
          rotate_left
          · intro w hSw
            (try dsimp only at hSw)
            go_simp
            try with_reducible rfl
          (try simp only [Act.put, List.setIfInBounds_toArray, List.set_cons_zero, List.set_cons_succ])
          refine wpAnyH_take (i := 13) (oi := { dst := some 73, op := Go.Op.move (Go.Operand.tmp 72), type := 4, pos := "law.go:166", after := #[{ on := 12, ground := Go.Ground.data }, { on := 5, ground := Go.Ground.chain }], guard := none }) (v := ?_) rfl (by kernel_rfl) (by kernel_rfl) (by kernel_rfl) (fun _ _ _ h => h) (Or.inl ⟨by rfl, ?_⟩) (by assumption) ?_
          rotate_left
          · intro w hSw
            (try dsimp only at hSw)
            go_simp
            try with_reducible rfl
          (try simp only [Act.put, List.setIfInBounds_toArray, List.set_cons_zero, List.set_cons_succ])
          refine wpAnyH_take (i := 14) (oi := { dst := some 74, op := Go.Op.move (Go.Operand.tmp 13), type := 22, pos := "law.go:166", after := #[{ on := 13, ground := Go.Ground.guard }], guard := some (13, true) }) (v := ?_) rfl (by kernel_rfl) (by kernel_rfl) (by kernel_rfl) (fun _ _ _ h => h) (Or.inl ⟨by rfl, ?_⟩) (by assumption) ?_
          rotate_left
          · intro w hSw
            (try dsimp only at hSw)
            go_simp
            try with_reducible rfl
          (try simp only [Act.put, List.setIfInBounds_toArray, List.set_cons_zero, List.set_cons_succ])
          refine wpAnyH_take (i := 15) (oi := { dst := some 75, op := Go.Op.move (Go.Operand.tmp 14), type := 3, pos := "law.go:166", after := #[{ on := 13, ground := Go.Ground.guard }], guard := some (13, true) }) (v := ?_) rfl (by kernel_rfl) (by kernel_rfl) (by kernel_rfl) (fun _ _ _ h => h) (Or.inl ⟨by rfl, ?_⟩) (by assumption) ?_
          rotate_left
          · intro w hSw
            (try dsimp only at hSw)
            go_simp
            try with_reducible rfl
          (try simp only [Act.put, List.setIfInBounds_toArray, List.set_cons_zero, List.set_cons_succ])
          refine wpAnyH_take (i := 16) (oi := { dst := some 76, op := Go.Op.indexAddr 22 (Go.Operand.tmp 74) (Go.Operand.tmp 75), type := 0, pos := "law.go:166", after := #[{ on := 14, ground := Go.Ground.data }, { on := 15, ground := Go.Ground.data }, { on := 13, ground := Go.Ground.guard }], guard := some (13, true) }) (v := ?_) rfl (by kernel_rfl) (by kernel_rfl) (by kernel_rfl) (fun _ _ _ h => h) (Or.inl ⟨by rfl, ?_⟩) (by assumption) ?_
          rotate_left
          · intro w hSw
            (try dsimp only at hSw)
            go_simp
            try with_reducible rfl
          (try simp only [Act.put, List.setIfInBounds_toArray, List.set_cons_zero, List.set_cons_succ])
          refine wpAnyH_take (i := 17) (oi := { dst := some 77, op := Go.Op.load 74 (Go.Operand.tmp 76), type := 74, pos := "law.go:166", after := #[{ on := 16, ground := Go.Ground.data }, { on := 13, ground := Go.Ground.guard }], guard := some (13, true) }) (v := ?_) rfl (by kernel_rfl) (by kernel_rfl) (by kernel_rfl) (fun _ _ _ h => h) (Or.inl ⟨by rfl, ?_⟩) (by assumption) ?_
          rotate_left
          · intro w hSw
            (try dsimp only at hSw)
            go_simp
            try with_reducible rfl
          (try simp only [Act.put, List.setIfInBounds_toArray, List.set_cons_zero, List.set_cons_succ])
          refine wpAnyH_take (i := 18) (oi := { dst := some 78, op := Go.Op.move (Go.Operand.tmp 0), type := 22, pos := "law.go:166", after := #[{ on := 13, ground := Go.Ground.guard }], guard := some (13, true) }) (v := ?_) rfl (by kernel_rfl) (by kernel_rfl) (by kernel_rfl) (fun _ _ _ h => h) (Or.inl ⟨by rfl, ?_⟩) (by assumption) ?_
          rotate_left
          · intro w hSw
            (try dsimp only at hSw)
            go_simp
            try with_reducible rfl
          (try simp only [Act.put, List.setIfInBounds_toArray, List.set_cons_zero, List.set_cons_succ])
          refine wpAnyH_take (i := 19) (oi := { dst := some 79, op := Go.Op.move (Go.Operand.tmp 14), type := 3, pos := "law.go:166", after := #[{ on := 13, ground := Go.Ground.guard }], guard := some (13, true) }) (v := ?_) rfl (by kernel_rfl) (by kernel_rfl) (by kernel_rfl) (fun _ _ _ h => h) (Or.inl ⟨by rfl, ?_⟩) (by assumption) ?_
          rotate_left
          · intro w hSw
            (try dsimp only at hSw)
            go_simp
            try with_reducible rfl
          (try simp only [Act.put, List.setIfInBounds_toArray, List.set_cons_zero, List.set_cons_succ])
          refine wpAnyH_take (i := 20) (oi := { dst := some 80, op := Go.Op.indexAddr 22 (Go.Operand.tmp 78) (Go.Operand.tmp 79), type := 0, pos := "law.go:166", after := #[{ on := 18, ground := Go.Ground.data }, { on := 19, ground := Go.Ground.data }, { on := 13, ground := Go.Ground.guard }], guard := some (13, true) }) (v := ?_) rfl (by kernel_rfl) (by kernel_rfl) (by kernel_rfl) (fun _ _ _ h => h) (Or.inl ⟨by rfl, ?_⟩) (by assumption) ?_
          rotate_left
          · intro w hSw
            (try dsimp only at hSw)
            go_simp
            try with_reducible rfl
          (try simp only [Act.put, List.setIfInBounds_toArray, List.set_cons_zero, List.set_cons_succ])
          refine wpAnyH_take (i := 21) (oi := { dst := some 81, op := Go.Op.load 74 (Go.Operand.tmp 80), type := 74, pos := "law.go:166", after := #[{ on := 20, ground := Go.Ground.data }, { on := 13, ground := Go.Ground.guard }], guard := some (13, true) }) (v := ?_) rfl (by kernel_rfl) (by kernel_rfl) (by kernel_rfl) (fun _ _ _ h => h) (Or.inl ⟨by rfl, ?_⟩) (by assumption) ?_
          rotate_left
          · intro w hSw
            (try dsimp only at hSw)
            go_simp
            try with_reducible rfl
          (try simp only [Act.put, List.setIfInBounds_toArray, List.set_cons_zero, List.set_cons_succ])
          refine wpAnyH_take (i := 22) (oi := { dst := some 82, op := Go.Op.binOp Go.BinOp.neq 74 (Go.Operand.tmp 77) (Go.Operand.tmp 81) 74, type := 4, pos := "law.go:166", after := #[{ on := 17, ground := Go.Ground.data }, { on := 21, ground := Go.Ground.data }, { on := 13, ground := Go.Ground.guard }], guard := some (13, true) }) (v := ?_) rfl (by kernel_rfl) (by kernel_rfl) (by kernel_rfl) (fun _ _ _ h => h) (Or.inl ⟨by rfl, ?_⟩) (by assumption) ?_
          rotate_left
          · intro w hSw
            (try dsimp only at hSw)
            go_simp
            try with_reducible rfl
          (try simp only [Act.put, List.setIfInBounds_toArray, List.set_cons_zero, List.set_cons_succ])
          refine wpAnyH_take (i := 23) (oi := { dst := some 83, op := Go.Op.pick (Go.Operand.tmp 73) (Go.Operand.tmp 82) (Go.Operand.const (Go.Value.bool false)), type := 4, pos := "law.go:166", after := #[{ on := 13, ground := Go.Ground.data }, { on := 22, ground := Go.Ground.data }], guard := none }) (v := ?_) rfl (by kernel_rfl) (by kernel_rfl) (by kernel_rfl) (fun _ _ _ h => h) (Or.inl ⟨by rfl, ?_⟩) (by assumption) ?_
          rotate_left
          · intro w hSw
            (try dsimp only at hSw)
            go_simp
            try with_reducible rfl
          (try simp only [Act.put, List.setIfInBounds_toArray, List.set_cons_zero, List.set_cons_succ])
          refine wpAnyH_done (by kernel_rfl) ?_ _
          go_wp2
          go_roundw
          case rel => exact ⟨k + 1, by omega, by go_num, _, (by first | rfl | exact World.drewN_drewN _ _ _)⟩
          case measure => simp [intOf]; omega
    · have : k = N := by omega
      subst this
      go_wp2_with fail
      refine Calls.mono (told10 _) ?_
      intro e w10 hpost
      obtain ⟨rfl, hb⟩ := hpost
      go_wp2
      go_ret
      exact ⟨rfl, (below_drewN HB.out _).trans (hb.mono (by show W.heap.size ≤ w9.heap.size; omega))⟩

set_option maxRecDepth 100000 in
/-- What the walk gives, for every argument: the row's own words. -/
theorem contract (H : Type) (enc : TypeId × Value → H) (W : World) (base : Nat) (args : Array Value) (ds gs : List (DataW H)) (before : List MemPlace)
    (hval : ∀ (j : Nat) t v, Try.f8.params[j]? = some t → args[j]? = some v → Value.okWide Try.prog W .any base t v)
    (hW : DataW.Whole enc Try.prog Try.f8.params.toList Rows.bucketKeepsSpec.vars false W args.toList ds gs before) :
    Calls Try.prog 8 args W fun e W' => ∃ v, e = .returned v ∧ Rows.bucketKeepsSpec.post enc Try.prog Try.f8 false true false false W args v W' := by
  have hW' := hW
  obtain ⟨p, q, hA0, hV, rfl, hfz, hnd⟩ := hW
  have hA : DataW.TrodAll enc Try.prog W 0 (fun _ => true) true Try.f8.params.toList args.toList ds p := hA0
  rw [Try.params8] at hA hval
  obtain ⟨v0, vs0, d0, ds0, p0, q0, hargs, rfl, rfl, h0, r0⟩ := trodAll_cons hA
  obtain ⟨v1, vs1, d1, ds1, p1, q1, rfl, rfl, rfl, h1, r1⟩ := trodAll_cons r0
  obtain ⟨v2, vs2, d2, ds2, p2, q2, rfl, rfl, rfl, h2, r2⟩ := trodAll_cons r1
  obtain ⟨rfl, rfl, rfl⟩ := trodAll_nil r2
  obtain rfl : args = #[v0, v1, v2] := by cases args; simp_all
  obtain ⟨n0, f0, b0, c0⟩ := open_places Try.underlying22 (t0 := 4) (t1 := 3) (t2 := 23) (t3 := 3) (t4 := 4) (t5 := 26) (by kernel_rfl) (by kernel_rfl) (by kernel_rfl) (by kernel_rfl) (by kernel_rfl) (by kernel_rfl) (by kernel_rfl) (by kernel_rfl) (hval 0 22 v0 rfl rfl) h0
  obtain ⟨a1, e1, pp1, k1, rfl, c1, dd1⟩ := open_seen Try.underlying28 (t0 := 3) (t1 := 23) (t2 := 3) (t3 := 26) (by kernel_rfl) (by kernel_rfl) (by kernel_rfl) (by kernel_rfl) (by kernel_rfl) (by kernel_rfl) (hval 1 28 v1 rfl rfl) h1
  obtain ⟨a2, e2, rfl⟩ := open_filt Try.underlying53 (t0 := 3) (t1 := 3) (by kernel_rfl) (by kernel_rfl) (by kernel_rfl) (by kernel_rfl) (hval 2 53 v2 rfl rfl) h2
  refine (walk W v0 n0 f0 b0 c0 a1 e1 pp1 k1 c1 dd1 a2 e2).mono fun e W' ⟨he, hb⟩ => ?_
  subst he
  exact close_true (by kernel_rfl) Try.underlying4 (by kernel_rfl) (by kernel_rfl) rfl rfl hW' hb

set_option maxRecDepth 100000 in
theorem lifted (os : Os) (started : os.Started) (H : Type) (enc : TypeId × Value → H) :
    ReturnsInHanded {} Try.checked os 8 .any (Rows.bucketKeepsSpec.pre6 enc Try.prog Try.f8 Rows.bucketKeepsRow.domain false) (Rows.bucketKeepsSpec.post enc Try.prog Try.f8 false true false false) := by
  refine returnsInHanded_of_change (C := Try.checked) own started (by kernel_rfl) Try.func8
    (ChangeSpec.witness6 (enc := enc) (C := Try.checked) false ⟨#[], #[.slice none 0 0, .agg #[.int .i64 0, .int .u64 0, .int .i64 0, .int .u32 0], .agg #[.int .i64 0, .int .i64 0]], []⟩ 8 (by kernel_rfl) (by kernel_rfl) (by kernel_rfl) (by kernel_rfl)) ?_
  intro W base args ds gs before hval hW _ _
  exact contract H enc W base args ds gs before hval hW

theorem proved : Rows.BucketKeepsSaid :=
  OpenClaim.holds_of_wide 8 Try.f8 rfl rfl rfl rfl rfl rfl rfl ⟨rfl, rfl, rfl, rfl, rfl⟩ rfl rfl rfl rfl rfl (by kernel_rfl) Try.func8 (by kernel_rfl)
    (of_decide_eq_true (by kernel_rfl)) (by unfold Func.isWrapper; first | (rw [if_pos (by decide +kernel)]; kernel_rfl) | (rw [if_neg (by decide +kernel)]; exact ⟨rfl, rfl⟩))
    (fun os started H enc _ => lifted os started H enc)
#print axioms proved
end Go.Proofs.Ytocdljhjmhmfkaa.bucketKeeps
