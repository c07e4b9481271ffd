/-
  A book copied: the program's Copy. No statement is proved here.
-/
import Derived.Test.YtccnfcjaehcfkaaBkM
import Derived.Deep.RegionHeld3
set_option linter.unusedVariables false
namespace Go.Proofs.Ytccnfcjaehcfkaa
open Go.RowKit

set_option maxRecDepth 20000 in
set_option maxHeartbeats 12800000 in
theorem book_Copy {w : World} {D : Nat → Prop} {p q S B n : Nat} {g : Nat → Nat → Pl} (h : BkAt w D p q S B n g) (hS : 1 ≤ S ∧ S ≤ 8) (hB : 1 ≤ B ∧ B ≤ 16) (hn : 1 ≤ n ∧ n ≤ 8) :
    Calls Try.prog 47 #[.pointer (some ⟨p, 0, none⟩)] w fun e w' => ∃ p2 q2, e = .returned (.pointer (some ⟨p2, 0, none⟩)) ∧
      BkAt w' (fun b => b ≤ p2) p2 q2 S B n g ∧ w.heap.size ≤ q2 ∧ q2 < p2 ∧ Below w.heap.size w w' := by
  obtain ⟨M, hM⟩ : ∃ M, M = S * B := ⟨_, rfl⟩
  have hMB : M ≤ 128 := by rw [hM]; exact Nat.mul_le_mul hS.2 hB.2
  have HM := Lib.hid hM
  have HBK := Lib.hid h
  have HCL := Lib.hid fun f w u (hr : PlRow w w.heap.size u n f) => clone_places hn.1 (by omega) hr (Nat.le_refl _)
  have hk1 := fun W => run_mkFull (P := Try.prog) W stRows M (by omega)
  obtain ⟨hp, hq0, hpq, s0, s1, s2, ⟨cap, c1, c2, s3⟩, _, _⟩ := h
  rw [← hM] at c1 s3
  unfold maxLen at c2
  clear hM
  go_enter Try.func47, Try.ntmps47
  go_wp2_with fail
  refine wp_region_held_drew (S := fun w' => w'.cell? ⟨p, 0, none⟩ = some (.int .i64 (S : Nat)) ∧ w'.cell? ⟨p, 1, none⟩ = some (.int .i64 (B : Nat)) ∧ w'.cell? ⟨p, 2, none⟩ = some (.int .i64 (n : Nat)) ∧ w'.cell? ⟨p, 3, none⟩ = some (.slice (some ⟨q, 0, none⟩) M cap)) (by kernel_rfl) ?_ (fun hHeld => ?_)
  · exact ⟨s0, s1, s2, s3⟩
  refine wpAnyH_take (i := 0) (oi := { dst := some 8, op := Go.Op.move (Go.Operand.tmp 0), type := 82, pos := "book.go:44", after := #[], guard := none }) (v := ?_) rfl (by kernel_rfl) (by kernel_rfl) (by kernel_rfl) (fun _ _ _ h => h) (Or.inl ⟨by rfl, ?_⟩) (by assumption) ?_
  rotate_left
  · intro w hSw
    (try dsimp only at hSw)
    go_simp
    try with_reducible rfl
  (try simp only [Act.put, List.setIfInBounds_toArray, List.set_cons_zero, List.set_cons_succ])
  refine wpAnyH_take (i := 1) (oi := { dst := some 9, op := Go.Op.nilCheck (Go.Operand.tmp 8), type := 0, pos := "book.go:44", after := #[{ on := 0, ground := Go.Ground.data }], guard := none }) (v := ?_) rfl (by kernel_rfl) (by kernel_rfl) (by kernel_rfl) (fun _ _ _ h => h) (Or.inl ⟨by rfl, ?_⟩) (by assumption) ?_
  rotate_left
  · intro w hSw
    (try dsimp only at hSw)
    go_simp
    try with_reducible rfl
  (try simp only [Act.put, List.setIfInBounds_toArray, List.set_cons_zero, List.set_cons_succ])
  refine wpAnyH_take (i := 2) (oi := { dst := some 10, op := Go.Op.fieldAddr 136 (Go.Operand.tmp 9) 0, type := 0, pos := "book.go:44", after := #[{ on := 1, ground := Go.Ground.data }], guard := none }) (v := ?_) rfl (by kernel_rfl) (by kernel_rfl) (by kernel_rfl) (fun _ _ _ h => h) (Or.inl ⟨by rfl, ?_⟩) (by assumption) ?_
  rotate_left
  · intro w hSw
    (try dsimp only at hSw)
    go_simp
    try with_reducible rfl
  (try simp only [Act.put, List.setIfInBounds_toArray, List.set_cons_zero, List.set_cons_succ])
  refine wpAnyH_take (i := 3) (oi := { dst := some 11, op := Go.Op.load 86 (Go.Operand.tmp 10), type := 86, pos := "book.go:44", after := #[{ on := 2, ground := Go.Ground.data }], guard := none }) (v := ?_) rfl (by kernel_rfl) (by kernel_rfl) (by kernel_rfl) (fun _ _ _ h => h) (Or.inl ⟨by rfl, ?_⟩) (by assumption) ?_
  rotate_left
  · intro w hSw
    (try dsimp only at hSw)
    go_simp
    try with_reducible rfl
  (try simp only [Act.put, List.setIfInBounds_toArray, List.set_cons_zero, List.set_cons_succ])
  refine wpAnyH_take (i := 4) (oi := { dst := some 12, op := Go.Op.move (Go.Operand.tmp 0), type := 82, pos := "book.go:44", after := #[], guard := none }) (v := ?_) rfl (by kernel_rfl) (by kernel_rfl) (by kernel_rfl) (fun _ _ _ h => h) (Or.inl ⟨by rfl, ?_⟩) (by assumption) ?_
  rotate_left
  · intro w hSw
    (try dsimp only at hSw)
    go_simp
    try with_reducible rfl
  (try simp only [Act.put, List.setIfInBounds_toArray, List.set_cons_zero, List.set_cons_succ])
  refine wpAnyH_take (i := 5) (oi := { dst := some 13, op := Go.Op.nilCheck (Go.Operand.tmp 12), type := 0, pos := "book.go:44", after := #[{ on := 4, ground := Go.Ground.data }], guard := none }) (v := ?_) rfl (by kernel_rfl) (by kernel_rfl) (by kernel_rfl) (fun _ _ _ h => h) (Or.inl ⟨by rfl, ?_⟩) (by assumption) ?_
  rotate_left
  · intro w hSw
    (try dsimp only at hSw)
    go_simp
    try with_reducible rfl
  (try simp only [Act.put, List.setIfInBounds_toArray, List.set_cons_zero, List.set_cons_succ])
  refine wpAnyH_take (i := 6) (oi := { dst := some 14, op := Go.Op.fieldAddr 136 (Go.Operand.tmp 13) 1, type := 0, pos := "book.go:44", after := #[{ on := 5, ground := Go.Ground.data }], guard := none }) (v := ?_) rfl (by kernel_rfl) (by kernel_rfl) (by kernel_rfl) (fun _ _ _ h => h) (Or.inl ⟨by rfl, ?_⟩) (by assumption) ?_
  rotate_left
  · intro w hSw
    (try dsimp only at hSw)
    go_simp
    try with_reducible rfl
  (try simp only [Act.put, List.setIfInBounds_toArray, List.set_cons_zero, List.set_cons_succ])
  refine wpAnyH_take (i := 7) (oi := { dst := some 15, op := Go.Op.load 134 (Go.Operand.tmp 14), type := 134, pos := "book.go:44", after := #[{ on := 6, ground := Go.Ground.data }], guard := none }) (v := ?_) rfl (by kernel_rfl) (by kernel_rfl) (by kernel_rfl) (fun _ _ _ h => h) (Or.inl ⟨by rfl, ?_⟩) (by assumption) ?_
  rotate_left
  · intro w hSw
    (try dsimp only at hSw)
    go_simp
    try with_reducible rfl
  (try simp only [Act.put, List.setIfInBounds_toArray, List.set_cons_zero, List.set_cons_succ])
  refine wpAnyH_take (i := 8) (oi := { dst := some 16, op := Go.Op.call { callee := Go.Callee.builtin Go.Builtin.len, args := #[Go.Operand.tmp 15], argTypes := #[134] }, type := 3, pos := "book.go:44", after := #[{ on := 7, ground := Go.Ground.data }], guard := none }) (v := ?_) rfl (by kernel_rfl) (by kernel_rfl) (by kernel_rfl) (fun _ _ _ h => h) (Or.inl ⟨by rfl, ?_⟩) (by assumption) ?_
  rotate_left
  · intro w hSw
    (try dsimp only at hSw)
    go_simp
    try with_reducible rfl
  (try simp only [Act.put, List.setIfInBounds_toArray, List.set_cons_zero, List.set_cons_succ])
  refine wpAnyH_ready (rs := [9]) (by kernel_rfl) (by simp) ?_
  refine AllReadyH.cons (o := { dst := some 17, op := Go.Op.makeSlice 134 (Go.Operand.tmp 16) (Go.Operand.tmp 16), type := 134, pos := "book.go:44", after := #[{ on := 8, ground := Go.Ground.data }, { on := 8, ground := Go.Ground.data }], guard := none }) rfl (fun K hK => ?_) AllReadyH.nil
  go_simp

  refine hK.out _ _ ?_ (fun hHeld => ?_)
  · (try dsimp only)
    obtain ⟨q0, q1, q2, q3⟩ := hHeld
    exact ⟨(World.cell?_alloc_lt _ _ _ (by show p < w.heap.size; omega)).trans q0, (World.cell?_alloc_lt _ _ _ (by show p < w.heap.size; omega)).trans q1, (World.cell?_alloc_lt _ _ _ (by show p < w.heap.size; omega)).trans q2, (World.cell?_alloc_lt _ _ _ (by show p < w.heap.size; omega)).trans q3⟩
  clear hK K
  (try simp only [Act.put, List.setIfInBounds_toArray, List.set_cons_zero, List.set_cons_succ])
  refine wpAnyH_take (i := 10) (oi := { dst := some 18, op := Go.Op.build 136 #[(0, Go.Operand.tmp 11), (1, Go.Operand.tmp 17)], type := 136, pos := "book.go:44", after := #[{ on := 3, ground := Go.Ground.data }, { on := 9, ground := Go.Ground.data }], guard := none }) (v := ?_) rfl (by kernel_rfl) (by kernel_rfl) (by kernel_rfl) (fun _ _ _ h => h) (Or.inl ⟨by rfl, ?_⟩) (by assumption) ?_
  rotate_left
  · intro w hSw
    (try dsimp only at hSw)
    go_simp
    try with_reducible rfl
  (try simp only [Act.put, List.setIfInBounds_toArray, List.set_cons_zero, List.set_cons_succ])
  refine wpAnyH_ready (rs := [11]) (by kernel_rfl) (by simp) ?_
  refine AllReadyH.cons (o := { dst := some 19, op := Go.Op.box 136 (Go.Operand.tmp 18), type := 82, pos := "book.go:44", after := #[{ on := 10, ground := Go.Ground.data }], guard := none }) rfl (fun K hK => ?_) AllReadyH.nil
  go_simp

  refine hK.out _ _ ?_ (fun hHeld => ?_)
  · (try dsimp only)
    obtain ⟨q0, q1, q2, q3⟩ := hHeld
    exact ⟨(World.cell?_alloc_lt _ _ _ (by show p < _; simp; omega)).trans q0, (World.cell?_alloc_lt _ _ _ (by show p < _; simp; omega)).trans q1, (World.cell?_alloc_lt _ _ _ (by show p < _; simp; omega)).trans q2, (World.cell?_alloc_lt _ _ _ (by show p < _; simp; omega)).trans q3⟩
  clear hK K
  (try simp only [Act.put, List.setIfInBounds_toArray, List.set_cons_zero, List.set_cons_succ])
  refine wpAnyH_take (i := 12) (oi := { dst := some 3, op := Go.Op.assign (Go.Operand.tmp 19), type := 82, pos := "book.go:44", after := #[{ on := 11, ground := Go.Ground.data }, { on := 0, ground := Go.Ground.phase }, { on := 1, ground := Go.Ground.phase }, { on := 2, ground := Go.Ground.phase }, { on := 3, ground := Go.Ground.phase }, { on := 4, ground := Go.Ground.phase }, { on := 5, ground := Go.Ground.phase }, { on := 6, ground := Go.Ground.phase }, { on := 7, ground := Go.Ground.phase }, { on := 8, ground := Go.Ground.phase }, { on := 9, ground := Go.Ground.phase }, { on := 10, ground := Go.Ground.phase }, { on := 11, ground := Go.Ground.phase }], guard := none }) (v := ?_) rfl (by kernel_rfl) (by kernel_rfl) (by kernel_rfl) (fun _ _ _ h => h) (Or.inl ⟨by rfl, ?_⟩) (by assumption) ?_
  rotate_left
  · intro w hSw
    (try dsimp only at hSw)
    go_simp
    try with_reducible rfl
  (try simp only [Act.put, List.setIfInBounds_toArray, List.set_cons_zero, List.set_cons_succ])
  refine wpAnyH_done (by kernel_rfl) ?_ _
  obtain ⟨q2, hq2⟩ : ∃ q2, q2 = w.heap.size := ⟨_, rfl⟩
  obtain ⟨p2, hp2⟩ : ∃ p2, p2 = w.heap.size + 1 := ⟨_, rfl⟩
  obtain ⟨w2, hw2⟩ : ∃ w2, w2 = ((w.alloc (.cells (mkC (.slice none 0 0) 1 M) 30)).alloc (.cells #[.int .i64 (S : Nat), .int .i64 (B : Nat), .int .i64 (n : Nat), .slice (some ⟨q2, 0, none⟩) M M] 136)).drew := ⟨_, rfl⟩
  have HQ0 : Hid (w2.rowIs q2 30 M (fun _ => .slice none 0 0)) := by rw [hw2, hq2]; exact (rowIs_nils.alloc _).drew
  have HP0 : Hid (w2.cell? ⟨p2, 0, none⟩ = some (.int .i64 (S : Nat)) ∧ w2.cell? ⟨p2, 1, none⟩ = some (.int .i64 (B : Nat)) ∧ w2.cell? ⟨p2, 2, none⟩ = some (.int .i64 (n : Nat)) ∧ w2.cell? ⟨p2, 3, none⟩ = some (.slice (some ⟨q2, 0, none⟩) M M)) := by
    rw [hw2, hp2]
    exact ⟨by simp [go_sem], by simp [go_sem], by simp [go_sem], by simp [go_sem]⟩
  have HB2 : Hid (Below w.heap.size w w2) := by rw [hw2]; exact (((Below.refl _ _).alloc (Nat.le_refl _) _).alloc (by simp) _).drew
  have hpz2 : p2 < w2.heap.size := by rw [hw2, hp2]; simp
  have hqp2 : q2 + 1 = p2 := by rw [hp2, hq2]
  have HW : Hid (w.heap.size = q2) := hq2.symm
  rw [← hp2, ← hq2, ← hw2]
  have hpl : p < q2 := by rw [hq2]; exact hp
  have hql : q < q2 := by rw [hq2]; exact hq0
  clear hw2 hp2 hHeld s0 s1 s2 hk1
  have HK2 := Lib.hid (HBK.out.call HB2.out)
  have y3 := (HB2.out.cell (p := ⟨p, 3, none⟩) hp).trans s3
  clear s3 hq2
  go_wp2
  clear y3
  go_loopw [25] (fun i wr => ∃ (k : Nat) (G : Nat → Value), k ≤ M ∧ i = .int .i64 k ∧ p2 < wr.heap.size ∧ Hid (wr.rowIs q2 30 M G) ∧ Hid (∀ i, i < k → PlRowD wr (fun b => b ≤ p2) (G i) n (g i)) ∧ Hid (wr.cell? ⟨p2, 0, none⟩ = some (.int .i64 (S : Nat)) ∧ wr.cell? ⟨p2, 1, none⟩ = some (.int .i64 (B : Nat)) ∧ wr.cell? ⟨p2, 2, none⟩ = some (.int .i64 (n : Nat)) ∧ wr.cell? ⟨p2, 3, none⟩ = some (.slice (some ⟨q2, 0, none⟩) M M)) ∧ Hid (BkAt wr D p q S B n g) ∧ Hid (Below w.heap.size w wr)) (fun i _ => M - (intOf i).toNat)
  case atStart => exact ⟨0, _, by omega, rfl, hpz2, HQ0, fun i hi => absurd hi (by omega), HP0, HK2, HB2⟩
  case round =>
    obtain ⟨k, G, hk, rfl, hpz, HQ, HR, HP, HK, HB⟩ := hrel
    obtain ⟨t0, t1, t2, t3⟩ := HP.out
    by_cases hlt : k < M
    · have g0 : (0 : Int) ≤ (k : Int) := Int.natCast_nonneg _
      have g1 : (k : Int) < (M : Int) := by omega
      obtain ⟨v0, s3, hrow⟩ := HK.out.2.2.2.2.2.2.2.2 k (by rw [← HM.out]; exact hlt)
      have HROW := Lib.hid hrow.row
      clear hrow
      go_wp2_with fail
      refine wp_region_held_drew (S := fun w' => w'.cell? ⟨p2, 3, none⟩ = some (.slice (some ⟨q2, 0, none⟩) M M)) (by kernel_rfl) ?_ (fun hHeld => ?_)
      · exact t3
      refine wpAnyH_take (i := 0) (oi := { dst := some 30, op := Go.Op.move (Go.Operand.tmp 3), type := 82, pos := "book.go:46", after := #[], guard := none }) (v := ?_) rfl (by kernel_rfl) (by kernel_rfl) (by kernel_rfl) (fun _ _ _ h => h) (Or.inl ⟨by rfl, ?_⟩) (by assumption) ?_
      rotate_left
      · intro w hSw
        (try dsimp only at hSw)
        go_simp
        try with_reducible rfl
      (try simp only [Act.put, List.setIfInBounds_toArray, List.set_cons_zero, List.set_cons_succ])
      refine wpAnyH_take (i := 1) (oi := { dst := some 31, op := Go.Op.nilCheck (Go.Operand.tmp 30), type := 0, pos := "book.go:46", after := #[{ on := 0, ground := Go.Ground.data }], guard := none }) (v := ?_) rfl (by kernel_rfl) (by kernel_rfl) (by kernel_rfl) (fun _ _ _ h => h) (Or.inl ⟨by rfl, ?_⟩) (by assumption) ?_
      rotate_left
      · intro w hSw
        (try dsimp only at hSw)
        go_simp
        try with_reducible rfl
      (try simp only [Act.put, List.setIfInBounds_toArray, List.set_cons_zero, List.set_cons_succ])
      refine wpAnyH_take (i := 2) (oi := { dst := some 32, op := Go.Op.fieldAddr 136 (Go.Operand.tmp 31) 1, type := 0, pos := "book.go:46", after := #[{ on := 1, ground := Go.Ground.data }], guard := none }) (v := ?_) rfl (by kernel_rfl) (by kernel_rfl) (by kernel_rfl) (fun _ _ _ h => h) (Or.inl ⟨by rfl, ?_⟩) (by assumption) ?_
      rotate_left
      · intro w hSw
        (try dsimp only at hSw)
        go_simp
        try with_reducible rfl
      (try simp only [Act.put, List.setIfInBounds_toArray, List.set_cons_zero, List.set_cons_succ])
      refine wpAnyH_take (i := 3) (oi := { dst := some 33, op := Go.Op.load 134 (Go.Operand.tmp 32), type := 134, pos := "book.go:46", after := #[{ on := 2, ground := Go.Ground.data }], guard := none }) (v := ?_) rfl (by kernel_rfl) (by kernel_rfl) (by kernel_rfl) (fun _ _ _ h => h) (Or.inl ⟨by rfl, ?_⟩) (by assumption) ?_
      rotate_left
      · intro w hSw
        (try dsimp only at hSw)
        go_simp
        try with_reducible rfl
      (try simp only [Act.put, List.setIfInBounds_toArray, List.set_cons_zero, List.set_cons_succ])
      refine wpAnyH_take (i := 4) (oi := { dst := some 34, op := Go.Op.move (Go.Operand.tmp 4), type := 3, pos := "book.go:46", after := #[], guard := none }) (v := ?_) rfl (by kernel_rfl) (by kernel_rfl) (by kernel_rfl) (fun _ _ _ h => h) (Or.inl ⟨by rfl, ?_⟩) (by assumption) ?_
      rotate_left
      · intro w hSw
        (try dsimp only at hSw)
        go_simp
        try with_reducible rfl
      (try simp only [Act.put, List.setIfInBounds_toArray, List.set_cons_zero, List.set_cons_succ])
      refine wpAnyH_take (i := 5) (oi := { dst := some 35, op := Go.Op.move (Go.Operand.tmp 5), type := 30, pos := "book.go:46", after := #[], guard := none }) (v := ?_) rfl (by kernel_rfl) (by kernel_rfl) (by kernel_rfl) (fun _ _ _ h => h) (Or.inl ⟨by rfl, ?_⟩) (by assumption) ?_
      rotate_left
      · intro w hSw
        (try dsimp only at hSw)
        go_simp
        try with_reducible rfl
      (try simp only [Act.put, List.setIfInBounds_toArray, List.set_cons_zero, List.set_cons_succ])
      refine wpAnyH_ready (rs := [6]) (by kernel_rfl) (by simp) ?_
      refine AllReadyH.cons (o := { dst := some 36, op := Go.Op.call { callee := Go.Callee.value (Go.Operand.func 83), args := #[Go.Operand.tmp 35], argTypes := #[30] }, type := 30, pos := "book.go:46", after := #[{ on := 5, ground := Go.Ground.data }], guard := none }) rfl (fun K hK => ?_) AllReadyH.nil
      go_simp
      refine Calls.mono (HCL.out _ _ _ (HROW.out.below (by (repeat' (first | (with_reducible exact Below.refl _ _) | (with_reducible assumption) | (with_reducible refine Below.setCell ?_ ?_ _) | (with_reducible refine Below.alloc ?_ ?_ _) | (with_reducible refine below_drewN ?_ _) | (with_reducible refine Below.drew ?_) | go_size))))) ?_
      intro e v1 hpost
      obtain ⟨va, he, hra, hb⟩ := hpost
      simp only [id] at he
      subst he
      have HRA := Lib.hid hra
      obtain ⟨Av, cv, hva, _⟩ := hra
      subst hva
      have hb1 : Below wr.heap.size wr v1 := ((Below.refl wr.heap.size wr).drew).trans hb
      have HQ1 : Hid (v1.rowIs q2 30 M G) := HQ.out.of_block (hb1.block q2 (by omega))
      have y1 := HQ1.out.cell hlt
      have y2 := HQ1.out.frozen
      have hz1 := hb1.size
      refine hK.out _ _ ?_ (fun hHeld => ?_)
      · (try dsimp only)
        exact (hb.cell (p := ⟨p2, _, none⟩) (by show p2 < wr.heap.size; omega)).trans hHeld
      clear hK K
      (try simp only [Act.put, List.setIfInBounds_toArray, List.set_cons_zero, List.set_cons_succ])
      refine wpAnyH_take (i := 7) (oi := { dst := some 37, op := Go.Op.indexAddr 134 (Go.Operand.tmp 33) (Go.Operand.tmp 34), type := 0, pos := "book.go:46", after := #[{ on := 3, ground := Go.Ground.data }, { on := 4, ground := Go.Ground.data }, { on := 0, ground := Go.Ground.phase }, { on := 1, ground := Go.Ground.phase }, { on := 2, ground := Go.Ground.phase }, { on := 3, ground := Go.Ground.phase }, { on := 4, ground := Go.Ground.phase }, { on := 5, ground := Go.Ground.phase }, { on := 6, ground := Go.Ground.phase }], guard := none }) (v := ?_) rfl (by kernel_rfl) (by kernel_rfl) (by kernel_rfl) (fun _ _ _ h => h) (Or.inl ⟨by rfl, ?_⟩) (by assumption) ?_
      rotate_left
      · intro w hSw
        (try dsimp only at hSw)
        go_simp
        try with_reducible rfl
      (try simp only [Act.put, List.setIfInBounds_toArray, List.set_cons_zero, List.set_cons_succ])
      refine wpAnyH_ready (rs := [8]) (by kernel_rfl) (by simp) ?_
      refine AllReadyH.cons (o := { dst := none, op := Go.Op.store 30 (Go.Operand.tmp 37) (Go.Operand.tmp 36), type := 0, pos := "book.go:46", after := #[{ on := 7, ground := Go.Ground.data }, { on := 6, ground := Go.Ground.data }, { on := 6, ground := Go.Ground.chain }, { on := 0, ground := Go.Ground.phase }, { on := 1, ground := Go.Ground.phase }, { on := 2, ground := Go.Ground.phase }, { on := 3, ground := Go.Ground.phase }, { on := 4, ground := Go.Ground.phase }, { on := 5, ground := Go.Ground.phase }, { on := 6, ground := Go.Ground.phase }], guard := none }) rfl (fun K hK => ?_) AllReadyH.nil
      go_simp

      refine hK.out _ _ ?_ (fun hHeld => ?_)
      · (try dsimp only)
        exact ((But.set k _).cell (show p2 < v1.heap.size by omega) (show p2 ≠ q2 by omega)).trans hHeld
      clear hK K
      (try simp only [Act.put, List.setIfInBounds_toArray, List.set_cons_zero, List.set_cons_succ])
      refine wpAnyH_done (by kernel_rfl) ?_ _
      obtain ⟨v2, hv2⟩ : ∃ w', w' = v1.setCell ⟨q2, k, none⟩ (.slice Av n cv) := ⟨_, rfl⟩
      have hbut : But q2 wr v2 := by rw [hv2]; exact (But.of hb1 (by omega)).trans (But.set k _)
      have HQ2 : Hid (v2.rowIs q2 30 M (fun j => if j = k then .slice Av n cv else G j)) := by rw [hv2]; exact HQ1.out.set k _
      have HR2 : Hid (∀ i, i < k + 1 → PlRowD v2 (fun b => b ≤ p2) ((fun j => if j = k then .slice Av n cv else G j) i) n (g i)) := fun i hi => by
        by_cases hik : i = k
        · show PlRowD v2 _ (if i = k then _ else _) n _
          rw [if_pos hik, hv2, hik]
          exact (PlRowD.of_own (D := fun b => b ≤ p2) HRA.out (fun b hb => by show b < wr.heap.size; have : b ≤ p2 := hb; omega)).but (But.set k _) (by show q2 ≤ p2; omega)
        · show PlRowD v2 _ (if i = k then _ else _) n _
          rw [if_neg hik]
          exact (HR.out i (by omega)).but hbut (by show q2 ≤ p2; omega)
      have cz := hbut.below.size
      have HP2 : Hid (v2.cell? ⟨p2, 0, none⟩ = some (.int .i64 (S : Nat)) ∧ v2.cell? ⟨p2, 1, none⟩ = some (.int .i64 (B : Nat)) ∧ v2.cell? ⟨p2, 2, none⟩ = some (.int .i64 (n : Nat)) ∧ v2.cell? ⟨p2, 3, none⟩ = some (.slice (some ⟨q2, 0, none⟩) M M)) :=
        ⟨(hbut.cell (show p2 < _ by omega) (show p2 ≠ q2 by omega)).trans t0, (hbut.cell (show p2 < _ by omega) (show p2 ≠ q2 by omega)).trans t1, (hbut.cell (show p2 < _ by omega) (show p2 ≠ q2 by omega)).trans t2, (hbut.cell (show p2 < _ by omega) (show p2 ≠ q2 by omega)).trans t3⟩
      have HB3 : Hid (Below w.heap.size w v2) := HB.out.trans (hbut.below.mono (by rw [HW.out]; exact Nat.le_refl _))
      have HK3 : Hid (BkAt v2 D p q S B n g) := HBK.out.call HB3.out
      rw [← hv2]
      have hpz2' : p2 < v2.heap.size := by omega
      clear hv2 hHeld y1 y2 HRA HQ1 HQ HR HP HB HK hbut hb1 hb t0 t1 t2 t3 s3 HROW
      go_wp2
      go_roundw
      case rel => exact ⟨k + 1, _, by omega, by go_num, hpz2', HQ2, HR2, HP2, HK3, HB3⟩
      case measure => simp [intOf]; omega
    · have hkM : M = k := by omega
      subst hkM
      go_wp2
      go_ret
      have hcap : M ≤ maxLen := by unfold maxLen; omega
      refine ⟨p2, q2, rfl, ⟨hpz, by omega, by omega, t0, t1, t2, ⟨M, by rw [← HM.out]; exact Nat.le_refl _, hcap, ?_⟩, HQ.out.frozen, fun i hi => ?_⟩, by rw [HW.out]; exact Nat.le_refl _, by omega, HB.out⟩
      · rw [← HM.out]; exact t3
      · rw [← HM.out] at hi
        exact ⟨_, HQ.out.cell hi, HR.out i hi⟩
end Go.Proofs.Ytccnfcjaehcfkaa
