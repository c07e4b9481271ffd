/-
  Of all buckets, and of stations that are ordered to be at a port, and of those whose order is dropped, the program tells what comes of it, and where they are then, as the document tells; what is handed in stays. No condition.
-/
import Derived.Test.YtlkajgkcadbboabRows
import Derived.Test.YtlkajgkcadbboabBuK
import Derived.Test.YtlkajgkcadbboabBuL
import Derived.Test.YtlkajgkcadbboabBuM
import Derived.Test.YtlkajgkcadbboabBuO
import Derived.Test.YtlkajgkcadbboabBuP
import Derived.Test.YtlkajgkcadbboabOpenBu
import Derived.WalkKit
import Derived.ProofKit
import Derived.OpenShut
namespace Go.Proofs.Ytlkajgkcadbboab.bucketOrders
open Go.ChangeShapes Go.WideShapes Go.ChangeAt Go.RowKit
open Go.ChangeMaps (open_string)
set_option linter.unusedVariables false

theorem own : ownKnob Try.prog.godebug = none := by kernel_rfl

set_option maxHeartbeats 6400000 in
theorem walk (W : World) (a0 : Value) (n0 : Nat) (f0 : Nat → Pl) (b0 : PlRow W W.heap.size a0 n0 f0) (c0 : ∀ i, i < n0 → (f0 i).e.ok) (a1 : Int) (e1 : Nat) (p1 : Int) (k1 : Nat) (c1 : e1 < 18446744073709551616) (d1 : k1 < 4294967296) :
    Calls Try.prog 4 #[a0, .agg #[.int .i64 a1, .int .u64 (e1 : Int), .int .i64 p1, .int .u32 (k1 : Int)]] W (Says (.bool true) W) := by
  obtain ⟨N, hN⟩ : ∃ N, N = min n0 8 := ⟨_, rfl⟩
  obtain ⟨F, hF⟩ : ∃ F, F = fixR f0 N := ⟨_, rfl⟩
  have HST : Hid (∀ i, i < N → (F i).e.stamp < 4294967296) := by rw [hF]; exact fixR_stamp N fun i hi => (c0 i (by omega)).2.2.2
  have HN : Hid (N ≤ 1000000) := by show N ≤ _; omega
  have HB0 := Lib.hid b0
  have HFIX := Lib.hid fun w (h : PlRow w W.heap.size a0 n0 f0) (hb : W.heap.size ≤ w.heap.size) => ref10_Fix hN h hb c0
  rw [← hF] at HFIX
  obtain ⟨r, hr⟩ : ∃ r, r = putF (fun i => ownP (F i)) ⟨a1, e1, p1, true, 0⟩ k1 N := ⟨_, rfl⟩
  have HL1 := Lib.hid fun w v (h : PlRow w w.heap.size v N F) => bucket_Order HN.out h (Nat.le_refl _) HST.out a1 e1 c1 p1 k1 d1
  have HL2 := Lib.hid fun w v (h : PlRow w w.heap.size v N F) => ref10_Order HN.out h (Nat.le_refl _) HST.out a1 e1 c1 p1 k1 d1
  rw [← hr] at HL1 HL2
  have HT8 := Lib.hid fun w => law8_To a1 (e1 : Int) w
  have HD1 := Lib.hid fun w v (h : PlRow w w.heap.size v N F) => bucket_Drop HN.out h (Nat.le_refl _) a1 e1
  have HD2 := Lib.hid fun w v (h : PlRow w w.heap.size v N F) => ref10_Drop HN.out h (Nat.le_refl _) a1 e1
  generalize dropF (fun i => ownP (F i)) a1 e1 N = dr at *
  obtain ⟨r1, r2⟩ := r
  obtain ⟨dr1, dr2⟩ := dr
  clear hr hF hN b0 c0 c1 d1
  simp only at HL1 HL2 HD1 HD2
  go_enter Try.func4, Try.ntmps4
  go_wp2_with fail
  refine Calls.mono (HFIX.out _ (HB0.out.below (by (repeat' (first | (with_reducible exact Below.refl _ _) | (with_reducible assumption) | (with_reducible refine Below.setCell ?_ ?_ _) | (with_reducible refine Below.alloc ?_ ?_ _) | (with_reducible refine below_drewN ?_ _) | (with_reducible refine Below.drew ?_) | go_size)))) (by go_size)) ?_
  intro e w1 hpost
  obtain ⟨vl, he, hrl, hb⟩ := hpost
  (try simp only [id] at he)
  subst he
  obtain ⟨hcc, _⟩ := bcell hb
  have s0 : w1.cell? ⟨W.heap.size, 0, none⟩ = some (.int .i64 a1) := by rw [hcc _ _ (by simp)]; simp [go_sem]
  have s1 : w1.cell? ⟨W.heap.size, 1, none⟩ = some (.int .u64 (e1 : Int)) := by rw [hcc _ _ (by simp)]; simp [go_sem]
  have s2 : w1.cell? ⟨W.heap.size, 2, none⟩ = some (.int .i64 p1) := by rw [hcc _ _ (by simp)]; simp [go_sem]
  have s3 : w1.cell? ⟨W.heap.size, 3, none⟩ = some (.int .u32 (k1 : Int)) := by rw [hcc _ _ (by simp)]; simp [go_sem]
  have HB : Hid (Below W.heap.size W w1) := Below.trans (by (repeat' (first | (with_reducible exact Below.refl _ _) | (with_reducible assumption) | (with_reducible refine Below.setCell ?_ ?_ _) | (with_reducible refine Below.alloc ?_ ?_ _) | (with_reducible refine below_drewN ?_ _) | (with_reducible refine Below.drew ?_) | go_size))) (hb.mono (by go_size))
  have hz : W.heap.size + 1 ≤ w1.heap.size := by have := hb.size; simp at this; omega
  have RL := Lib.hid hrl
  clear hcc hb hrl HFIX HB0
  go_wp2_with fail
  refine Calls.mono (law10_To HN.out RL.out.row (Nat.le_refl _)) ?_
  intro e w2 hpost
  obtain ⟨vo, he, hro, hb⟩ := hpost
  (try simp only [id] at he)
  subst he
  have RO := Lib.hid hro
  have RL := Lib.hid (RL.out.below hb)
  have s0 := ((bcell hb).1 W.heap.size 0 (by go_size)).trans s0
  have s1 := ((bcell hb).1 W.heap.size 1 (by go_size)).trans s1
  have s2 := ((bcell hb).1 W.heap.size 2 (by go_size)).trans s2
  have s3 := ((bcell hb).1 W.heap.size 3 (by go_size)).trans s3
  have HB := Lib.hid (HB.out.trans (hb.mono (by omega)))
  have hz := Nat.le_trans hz hb.size
  clear hb hro
  go_wp2_with fail
  refine wp_region_held_drew (S := fun w' => w'.cell? ⟨W.heap.size, 0, none⟩ = some (.int .i64 a1) ∧ w'.cell? ⟨W.heap.size, 1, none⟩ = some (.int .u64 (e1 : Int)) ∧ w'.cell? ⟨W.heap.size, 2, none⟩ = some (.int .i64 p1) ∧ w'.cell? ⟨W.heap.size, 3, none⟩ = some (.int .u32 (k1 : Int))) (by kernel_rfl) ?_ (fun hHeld => ?_)
  · exact ⟨s0, s1, s2, s3⟩
  refine wpAnyH_take (i := 0) (oi := { dst := some 19, op := Go.Op.move (Go.Operand.tmp 5), type := 30, pos := "law.go:61", after := #[], guard := none }) (v := ?_) rfl (by kernel_rfl) (by kernel_rfl) (by kernel_rfl) (fun _ _ _ h => h) (Or.inl ⟨by rfl, ?_⟩) (by assumption) ?_
  rotate_left
  · intro w hSw
    (try dsimp only at hSw)
    go_simp
    try with_reducible rfl
  (try simp only [Act.put, List.setIfInBounds_toArray, List.set_cons_zero, List.set_cons_succ])
  refine wpAnyH_take (i := 1) (oi := { dst := some 20, op := Go.Op.fieldAddr 28 (Go.Operand.tmp 3) 0, type := 0, pos := "law.go:61", after := #[], guard := none }) (v := ?_) rfl (by kernel_rfl) (by kernel_rfl) (by kernel_rfl) (fun _ _ _ h => h) (Or.inl ⟨by rfl, ?_⟩) (by assumption) ?_
  rotate_left
  · intro w hSw
    (try dsimp only at hSw)
    go_simp
    try with_reducible rfl
  (try simp only [Act.put, List.setIfInBounds_toArray, List.set_cons_zero, List.set_cons_succ])
  refine wpAnyH_take (i := 2) (oi := { dst := some 21, op := Go.Op.load 25 (Go.Operand.tmp 20), type := 25, pos := "law.go:61", after := #[{ on := 1, ground := Go.Ground.data }], guard := none }) (v := ?_) rfl (by kernel_rfl) (by kernel_rfl) (by kernel_rfl) (fun _ _ _ h => h) (Or.inl ⟨by rfl, ?_⟩) (by assumption) ?_
  rotate_left
  · intro w hSw
    (try dsimp only at hSw)
    go_simp
    try with_reducible rfl
  (try simp only [Act.put, List.setIfInBounds_toArray, List.set_cons_zero, List.set_cons_succ])
  refine wpAnyH_take (i := 4) (oi := { dst := some 23, op := Go.Op.fieldAddr 28 (Go.Operand.tmp 3) 1, type := 0, pos := "law.go:61", after := #[], guard := none }) (v := ?_) rfl (by kernel_rfl) (by kernel_rfl) (by kernel_rfl) (fun _ _ _ h => h) (Or.inl ⟨by rfl, ?_⟩) (by assumption) ?_
  rotate_left
  · intro w hSw
    (try dsimp only at hSw)
    go_simp
    try with_reducible rfl
  (try simp only [Act.put, List.setIfInBounds_toArray, List.set_cons_zero, List.set_cons_succ])
  refine wpAnyH_take (i := 5) (oi := { dst := some 24, op := Go.Op.load 3 (Go.Operand.tmp 23), type := 3, pos := "law.go:61", after := #[{ on := 4, ground := Go.Ground.data }], guard := none }) (v := ?_) rfl (by kernel_rfl) (by kernel_rfl) (by kernel_rfl) (fun _ _ _ h => h) (Or.inl ⟨by rfl, ?_⟩) (by assumption) ?_
  rotate_left
  · intro w hSw
    (try dsimp only at hSw)
    go_simp
    try with_reducible rfl
  (try simp only [Act.put, List.setIfInBounds_toArray, List.set_cons_zero, List.set_cons_succ])
  refine wpAnyH_take (i := 6) (oi := { dst := some 25, op := Go.Op.fieldAddr 28 (Go.Operand.tmp 3) 2, type := 0, pos := "law.go:61", after := #[], guard := none }) (v := ?_) rfl (by kernel_rfl) (by kernel_rfl) (by kernel_rfl) (fun _ _ _ h => h) (Or.inl ⟨by rfl, ?_⟩) (by assumption) ?_
  rotate_left
  · intro w hSw
    (try dsimp only at hSw)
    go_simp
    try with_reducible rfl
  (try simp only [Act.put, List.setIfInBounds_toArray, List.set_cons_zero, List.set_cons_succ])
  refine wpAnyH_take (i := 7) (oi := { dst := some 26, op := Go.Op.load 26 (Go.Operand.tmp 25), type := 26, pos := "law.go:61", after := #[{ on := 6, ground := Go.Ground.data }], guard := none }) (v := ?_) rfl (by kernel_rfl) (by kernel_rfl) (by kernel_rfl) (fun _ _ _ h => h) (Or.inl ⟨by rfl, ?_⟩) (by assumption) ?_
  rotate_left
  · intro w hSw
    (try dsimp only at hSw)
    go_simp
    try with_reducible rfl
  (try simp only [Act.put, List.setIfInBounds_toArray, List.set_cons_zero, List.set_cons_succ])
  refine wpAnyH_ready (rs := [3]) (by kernel_rfl) (by simp) ?_
  refine AllReadyH.cons (o := { dst := some 22, op := Go.Op.call { callee := Go.Callee.value (Go.Operand.func 17), args := #[Go.Operand.tmp 21], argTypes := #[25] }, type := 36, pos := "law.go:61", after := #[{ on := 2, ground := Go.Ground.data }], guard := none }) rfl (fun K hK => ?_) AllReadyH.nil
  go_simp
  refine Calls.mono (HT8.out _) ?_
  intro e w3 hpost
  obtain ⟨rfl, hb⟩ := hpost
  have hbd : Below w2.heap.size w2 w3 := ((Below.refl w2.heap.size w2).drew).trans hb
  have HB := Lib.hid (HB.out.trans (hbd.mono (by omega)))
  have hz := Nat.le_trans hz hbd.size
  have RL := Lib.hid (RL.out.below hbd)
  have RO := Lib.hid (RO.out.below hbd)
  clear hbd
  refine hK.out _ _ ?_ (fun hHeld => ?_)
  · (try dsimp only)
    obtain ⟨s0, s1, s2, s3⟩ := hHeld
    obtain ⟨hcc, _⟩ := bcell hb
    exact ⟨(hcc _ _ (by go_size)).trans s0, (hcc _ _ (by go_size)).trans s1, (hcc _ _ (by go_size)).trans s2, (hcc _ _ (by go_size)).trans s3⟩
  clear hK K
  (try simp only [Act.put, List.setIfInBounds_toArray, List.set_cons_zero, List.set_cons_succ])
  refine wpAnyH_ready (rs := [8]) (by kernel_rfl) (by simp) ?_
  refine AllReadyH.cons (o := { dst := some 27, op := Go.Op.call { callee := Go.Callee.value (Go.Operand.func 24), args := #[Go.Operand.tmp 19, Go.Operand.tmp 22, Go.Operand.tmp 24, Go.Operand.tmp 26], argTypes := #[30, 36, 3, 26] }, type := 32, pos := "law.go:61", after := #[{ on := 0, ground := Go.Ground.data }, { on := 3, ground := Go.Ground.data }, { on := 5, ground := Go.Ground.data }, { on := 7, ground := Go.Ground.data }, { on := 3, ground := Go.Ground.chain }], guard := none }) rfl (fun K hK => ?_) AllReadyH.nil
  go_simp
  refine Calls.mono (HL1.out _ _ RO.out.row) ?_
  intro e w4 hpost
  obtain ⟨va, he, hra, hb⟩ := hpost
  (try simp only [id] at he)
  subst he
  have hbd : Below w3.heap.size w3 w4 := hb
  have HB := Lib.hid (HB.out.trans (hbd.mono (by omega)))
  have hz := Nat.le_trans hz hbd.size
  have RL := Lib.hid (RL.out.below hbd)
  have RO := Lib.hid (RO.out.below hbd)
  have RA := Lib.hid hra
  clear hbd
  refine hK.out _ _ ?_ (fun hHeld => ?_)
  · (try dsimp only)
    obtain ⟨s0, s1, s2, s3⟩ := hHeld
    obtain ⟨hcc, _⟩ := bcell hb
    exact ⟨(hcc _ _ (by go_size)).trans s0, (hcc _ _ (by go_size)).trans s1, (hcc _ _ (by go_size)).trans s2, (hcc _ _ (by go_size)).trans s3⟩
  clear hK K
  (try simp only [Act.put, List.setIfInBounds_toArray, List.set_cons_zero, List.set_cons_succ])
  refine wpAnyH_take (i := 9) (oi := { dst := some 18, op := Go.Op.move (Go.Operand.tmp 27), type := 32, pos := "law.go:61", after := #[{ on := 8, ground := Go.Ground.data }], guard := none }) (v := ?_) rfl (by kernel_rfl) (by kernel_rfl) (by kernel_rfl) (fun _ _ _ h => h) (Or.inl ⟨by rfl, ?_⟩) (by assumption) ?_
  rotate_left
  · intro w hSw
    (try dsimp only at hSw)
    go_simp
    try with_reducible rfl
  (try simp only [Act.put, List.setIfInBounds_toArray, List.set_cons_zero, List.set_cons_succ])
  refine wpAnyH_take (i := 10) (oi := { dst := some 28, op := Go.Op.extract (Go.Operand.tmp 18) 0, type := 30, pos := "law.go:61", after := #[{ on := 9, ground := Go.Ground.data }], guard := none }) (v := ?_) rfl (by kernel_rfl) (by kernel_rfl) (by kernel_rfl) (fun _ _ _ h => h) (Or.inl ⟨by rfl, ?_⟩) (by assumption) ?_
  rotate_left
  · intro w hSw
    (try dsimp only at hSw)
    go_simp
    try with_reducible rfl
  (try simp only [Act.put, List.setIfInBounds_toArray, List.set_cons_zero, List.set_cons_succ])
  refine wpAnyH_take (i := 11) (oi := { dst := some 29, op := Go.Op.extract (Go.Operand.tmp 18) 1, type := 3, pos := "law.go:61", after := #[{ on := 9, ground := Go.Ground.data }, { on := 12, ground := Go.Ground.gcOnly Go.Departure.lateStores }], guard := none }) (v := ?_) rfl (by kernel_rfl) (by kernel_rfl) (by kernel_rfl) (fun _ _ _ h => h) (Or.inl ⟨by rfl, ?_⟩) (by assumption) ?_
  rotate_left
  · intro w hSw
    (try dsimp only at hSw)
    go_simp
    try with_reducible rfl
  (try simp only [Act.put, List.setIfInBounds_toArray, List.set_cons_zero, List.set_cons_succ])
  refine wpAnyH_take (i := 12) (oi := { dst := some 6, op := Go.Op.assign (Go.Operand.tmp 28), type := 30, pos := "law.go:61", after := #[{ on := 10, ground := Go.Ground.data }, { on := 8, ground := Go.Ground.chain }, { on := 0, ground := Go.Ground.phase }, { on := 1, ground := Go.Ground.phase }, { on := 2, ground := Go.Ground.phase }, { on := 3, ground := Go.Ground.phase }, { on := 4, ground := Go.Ground.phase }, { on := 5, ground := Go.Ground.phase }, { on := 6, ground := Go.Ground.phase }, { on := 7, ground := Go.Ground.phase }, { on := 8, ground := Go.Ground.phase }, { on := 9, ground := Go.Ground.phase }, { on := 10, ground := Go.Ground.phase }, { on := 11, ground := Go.Ground.textOnly Go.Departure.lateStores }], guard := none }) (v := ?_) rfl (by kernel_rfl) (by kernel_rfl) (by kernel_rfl) (fun _ _ _ h => h) (Or.inl ⟨by rfl, ?_⟩) (by assumption) ?_
  rotate_left
  · intro w hSw
    (try dsimp only at hSw)
    go_simp
    try with_reducible rfl
  (try simp only [Act.put, List.setIfInBounds_toArray, List.set_cons_zero, List.set_cons_succ])
  refine wpAnyH_take (i := 13) (oi := { dst := some 7, op := Go.Op.assign (Go.Operand.tmp 29), type := 3, pos := "law.go:61", after := #[{ on := 11, ground := Go.Ground.data }, { on := 12, ground := Go.Ground.chain }, { on := 0, ground := Go.Ground.phase }, { on := 1, ground := Go.Ground.phase }, { on := 2, ground := Go.Ground.phase }, { on := 3, ground := Go.Ground.phase }, { on := 4, ground := Go.Ground.phase }, { on := 5, ground := Go.Ground.phase }, { on := 6, ground := Go.Ground.phase }, { on := 7, ground := Go.Ground.phase }, { on := 8, ground := Go.Ground.phase }, { on := 9, ground := Go.Ground.phase }, { on := 10, ground := Go.Ground.phase }, { on := 11, ground := Go.Ground.phase }, { on := 12, ground := Go.Ground.phase }], guard := none }) (v := ?_) rfl (by kernel_rfl) (by kernel_rfl) (by kernel_rfl) (fun _ _ _ h => h) (Or.inl ⟨by rfl, ?_⟩) (by assumption) ?_
  rotate_left
  · intro w hSw
    (try dsimp only at hSw)
    go_simp
    try with_reducible rfl
  (try simp only [Act.put, List.setIfInBounds_toArray, List.set_cons_zero, List.set_cons_succ])
  have hq := hHeld
  clear s0 s1 s2 s3
  obtain ⟨s0, s1, s2, s3⟩ := hq
  refine wpAnyH_done (by kernel_rfl) ?_ _
  clear HL1
  go_wp2_with fail
  refine Calls.mono (HL2.out _ _ RL.out.row) ?_
  intro e w5 hpost
  obtain ⟨vb, he, hrb, hb⟩ := hpost
  (try simp only [id] at he)
  subst he
  have RL := Lib.hid (RL.out.below hb)
  have RO := Lib.hid (RO.out.below hb)
  have RA := Lib.hid (RA.out.below hb)
  have s0 := ((bcell hb).1 W.heap.size 0 (by go_size)).trans s0
  have s1 := ((bcell hb).1 W.heap.size 1 (by go_size)).trans s1
  have s2 := ((bcell hb).1 W.heap.size 2 (by go_size)).trans s2
  have s3 := ((bcell hb).1 W.heap.size 3 (by go_size)).trans s3
  have HB := Lib.hid (HB.out.trans (hb.mono (by omega)))
  have hz := Nat.le_trans hz hb.size
  have RB := Lib.hid hrb
  clear hrb HL2
  clear hb
  go_wp2_with fail
  refine Calls.mono (HT8.out _) ?_
  intro e w6 hpost
  obtain ⟨rfl, hb⟩ := hpost
  have RL := Lib.hid (RL.out.below hb)
  have RO := Lib.hid (RO.out.below hb)
  have RA := Lib.hid (RA.out.below hb)
  have RB := Lib.hid (RB.out.below hb)
  have s0 := ((bcell hb).1 W.heap.size 0 (by go_size)).trans s0
  have s1 := ((bcell hb).1 W.heap.size 1 (by go_size)).trans s1
  have s2 := ((bcell hb).1 W.heap.size 2 (by go_size)).trans s2
  have s3 := ((bcell hb).1 W.heap.size 3 (by go_size)).trans s3
  have HB := Lib.hid (HB.out.trans (hb.mono (by omega)))
  have hz := Nat.le_trans hz hb.size
  clear hb
  go_wp2_with fail
  refine Calls.mono (HD1.out _ _ RO.out.row) ?_
  intro e w7 hpost
  obtain ⟨vc, he, hrc, hb⟩ := hpost
  (try simp only [id] at he)
  subst he
  have RL := Lib.hid (RL.out.below hb)
  have RO := Lib.hid (RO.out.below hb)
  have RA := Lib.hid (RA.out.below hb)
  have RB := Lib.hid (RB.out.below hb)
  have s0 := ((bcell hb).1 W.heap.size 0 (by go_size)).trans s0
  have s1 := ((bcell hb).1 W.heap.size 1 (by go_size)).trans s1
  have s2 := ((bcell hb).1 W.heap.size 2 (by go_size)).trans s2
  have s3 := ((bcell hb).1 W.heap.size 3 (by go_size)).trans s3
  have HB := Lib.hid (HB.out.trans (hb.mono (by omega)))
  have hz := Nat.le_trans hz hb.size
  have RC := Lib.hid hrc
  clear hrc HD1
  clear hb
  go_wp2_with fail
  refine Calls.mono (HD2.out _ _ RL.out.row) ?_
  intro e w8 hpost
  obtain ⟨vd, he, hrd, hb⟩ := hpost
  (try simp only [id] at he)
  subst he
  have RL := Lib.hid (RL.out.below hb)
  have RO := Lib.hid (RO.out.below hb)
  have RA := Lib.hid (RA.out.below hb)
  have RB := Lib.hid (RB.out.below hb)
  have RC := Lib.hid (RC.out.below hb)
  have s0 := ((bcell hb).1 W.heap.size 0 (by go_size)).trans s0
  have s1 := ((bcell hb).1 W.heap.size 1 (by go_size)).trans s1
  have s2 := ((bcell hb).1 W.heap.size 2 (by go_size)).trans s2
  have s3 := ((bcell hb).1 W.heap.size 3 (by go_size)).trans s3
  have HB := Lib.hid (HB.out.trans (hb.mono (by omega)))
  have hz := Nat.le_trans hz hb.size
  have RD := Lib.hid hrd
  clear hrd HD2
  clear hb
  clear s0 s1 s2 s3
  have hrr : ((r2 : Int) == (r2 : Int)) = true := by simp
  go_wp2_with fail
  refine Calls.mono (told10 _) ?_
  intro e w9 hpost
  obtain ⟨rfl, hb⟩ := hpost
  have RL := Lib.hid (RL.out.below hb)
  have RO := Lib.hid (RO.out.below hb)
  have RA := Lib.hid (RA.out.below hb)
  have RB := Lib.hid (RB.out.below hb)
  have RC := Lib.hid (RC.out.below hb)
  have RD := Lib.hid (RD.out.below hb)
  have HB := Lib.hid (HB.out.trans (hb.mono (by omega)))
  have hz := Nat.le_trans hz hb.size
  clear hb
  go_wp2_with fail
  refine Calls.mono (law10_From HN.out RA.out.row (Nat.le_refl _)) ?_
  intro e w10 hpost
  obtain ⟨vx, he, hrx, hb⟩ := hpost
  (try simp only [id] at he)
  subst he
  have RL := Lib.hid (RL.out.below hb)
  have RO := Lib.hid (RO.out.below hb)
  have RB := Lib.hid (RB.out.below hb)
  have RC := Lib.hid (RC.out.below hb)
  have RD := Lib.hid (RD.out.below hb)
  have HB := Lib.hid (HB.out.trans (hb.mono (by omega)))
  have hz := Nat.le_trans hz hb.size
  have RX := Lib.hid hrx
  clear hrx
  clear hb
  go_wp2_with fail
  refine Calls.mono (ref10_SameEq RX.out.row RB.out.row) ?_
  intro e w11 hpost
  obtain ⟨rfl, hb⟩ := hpost
  have RL := Lib.hid (RL.out.below hb)
  have RO := Lib.hid (RO.out.below hb)
  have RC := Lib.hid (RC.out.below hb)
  have RD := Lib.hid (RD.out.below hb)
  have HB := Lib.hid (HB.out.trans (hb.mono (by omega)))
  have hz := Nat.le_trans hz hb.size
  clear hb
  go_wp2_with fail
  refine Calls.mono (law10_From HN.out RC.out.row (Nat.le_refl _)) ?_
  intro e w12 hpost
  obtain ⟨vy, he, hry, hb⟩ := hpost
  (try simp only [id] at he)
  subst he
  have RL := Lib.hid (RL.out.below hb)
  have RO := Lib.hid (RO.out.below hb)
  have RD := Lib.hid (RD.out.below hb)
  have HB := Lib.hid (HB.out.trans (hb.mono (by omega)))
  have hz := Nat.le_trans hz hb.size
  have RY := Lib.hid hry
  clear hry
  clear hb
  go_wp2_with fail
  refine Calls.mono (ref10_SameEq RY.out.row RD.out.row) ?_
  intro e w13 hpost
  obtain ⟨rfl, hb⟩ := hpost
  have RL := Lib.hid (RL.out.below hb)
  have RO := Lib.hid (RO.out.below hb)
  have HB := Lib.hid (HB.out.trans (hb.mono (by omega)))
  have hz := Nat.le_trans hz hb.size
  clear hb
  go_wp2_with fail
  refine Calls.mono (law10_From HN.out RO.out.row (Nat.le_refl _)) ?_
  intro e w14 hpost
  obtain ⟨vz, he, hrz, hb⟩ := hpost
  (try simp only [id] at he)
  subst he
  have RL := Lib.hid (RL.out.below hb)
  have HB := Lib.hid (HB.out.trans (hb.mono (by omega)))
  have hz := Nat.le_trans hz hb.size
  have RZ := Lib.hid hrz
  clear hrz
  clear hb
  go_wp2_with fail
  refine Calls.mono (ref10_SameEq RZ.out.row RL.out.row) ?_
  intro e w15 hpost
  obtain ⟨rfl, hb⟩ := hpost
  have HB := Lib.hid (HB.out.trans (hb.mono (by omega)))
  have hz := Nat.le_trans hz hb.size
  clear hb
  go_wp2
  go_ret
  exact ⟨by simp, HB.out⟩

set_option maxRecDepth 100000 in
/-- What the walk gives, for every argument: the row's own words. -/
theorem contract (H : Type) (enc : TypeId × Value → H) (W : World) (base : Nat) (args : Array Value) (ds gs : List (DataW H)) (before : List MemPlace)
    (hval : ∀ (j : Nat) t v, Try.f4.params[j]? = some t → args[j]? = some v → Value.okWide Try.prog W .any base t v)
    (hW : DataW.Whole enc Try.prog Try.f4.params.toList Rows.bucketOrdersSpec.vars false W args.toList ds gs before) :
    Calls Try.prog 4 args W fun e W' => ∃ v, e = .returned v ∧ Rows.bucketOrdersSpec.post enc Try.prog Try.f4 false true false false W args v W' := by
  have hW' := hW
  obtain ⟨p, q, hA0, hV, rfl, hfz, hnd⟩ := hW
  have hA : DataW.TrodAll enc Try.prog W 0 (fun _ => true) true Try.f4.params.toList args.toList ds p := hA0
  rw [Try.params4] at hA hval
  obtain ⟨v0, vs0, d0, ds0, p0, q0, hargs, rfl, rfl, h0, r0⟩ := trodAll_cons hA
  obtain ⟨v1, vs1, d1, ds1, p1, q1, rfl, rfl, rfl, h1, r1⟩ := trodAll_cons r0
  obtain ⟨rfl, rfl, rfl⟩ := trodAll_nil r1
  obtain rfl : args = #[v0, v1] := by cases args; simp_all
  obtain ⟨n0, f0, b0, c0⟩ := open_places Try.underlying22 (t0 := 4) (t1 := 3) (t2 := 23) (t3 := 3) (t4 := 4) (t5 := 26) (by kernel_rfl) (by kernel_rfl) (by kernel_rfl) (by kernel_rfl) (by kernel_rfl) (by kernel_rfl) (by kernel_rfl) (by kernel_rfl) (hval 0 22 v0 rfl rfl) h0
  obtain ⟨a1, e1, pp1, k1, rfl, c1, dd1⟩ := open_seen Try.underlying28 (t0 := 3) (t1 := 23) (t2 := 3) (t3 := 26) (by kernel_rfl) (by kernel_rfl) (by kernel_rfl) (by kernel_rfl) (by kernel_rfl) (by kernel_rfl) (hval 1 28 v1 rfl rfl) h1
  refine (walk W v0 n0 f0 b0 c0 a1 e1 pp1 k1 c1 dd1).mono fun e W' ⟨he, hb⟩ => ?_
  subst he
  exact close_true (by kernel_rfl) Try.underlying4 (by kernel_rfl) (by kernel_rfl) rfl rfl hW' hb

set_option maxRecDepth 100000 in
theorem lifted (os : Os) (started : os.Started) (H : Type) (enc : TypeId × Value → H) :
    ReturnsInHanded {} Try.checked os 4 .any (Rows.bucketOrdersSpec.pre6 enc Try.prog Try.f4 Rows.bucketOrdersRow.domain false) (Rows.bucketOrdersSpec.post enc Try.prog Try.f4 false true false false) := by
  refine returnsInHanded_of_change (C := Try.checked) own started (by kernel_rfl) Try.func4
    (ChangeSpec.witness6 (enc := enc) (C := Try.checked) false ⟨#[], #[.slice none 0 0, .agg #[.int .i64 0, .int .u64 0, .int .i64 0, .int .u32 0]], []⟩ 8 (by kernel_rfl) (by kernel_rfl) (by kernel_rfl) (by kernel_rfl)) ?_
  intro W base args ds gs before hval hW _ _
  exact contract H enc W base args ds gs before hval hW

theorem proved : Rows.BucketOrdersSaid :=
  OpenClaim.holds_of_wide 4 Try.f4 rfl rfl rfl rfl rfl rfl rfl ⟨rfl, rfl, rfl, rfl, rfl⟩ rfl rfl rfl rfl rfl (by kernel_rfl) Try.func4 (by kernel_rfl)
    (of_decide_eq_true (by kernel_rfl)) (by unfold Func.isWrapper; first | (rw [if_pos (by decide +kernel)]; kernel_rfl) | (rw [if_neg (by decide +kernel)]; exact ⟨rfl, rfl⟩))
    (fun os started H enc _ => lifted os started H enc)
#print axioms proved
end Go.Proofs.Ytlkajgkcadbboab.bucketOrders
