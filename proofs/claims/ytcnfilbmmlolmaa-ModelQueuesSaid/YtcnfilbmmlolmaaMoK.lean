/-
  An Op as the program has it; a model's Stand. No statement is proved here.
-/
import Derived.Test.YtcnfilbmmlolmaaMoU
import Derived.Test.YtcnfilbmmlolmaaMoT
import Derived.Test.YtcnfilbmmlolmaaMzB
set_option linter.unusedVariables false
namespace Go.Proofs.Ytcnfilbmmlolmaa
open Go.RowKit

set_option maxRecDepth 20000 in
set_option maxHeartbeats 3200000 in
theorem law17_Op (kd po tt vi sx kv km me un nw li sh bu id : Int) (w : World) : Calls Try.prog 23 #[opV kd po tt vi sx kv km me un nw li sh bu id] w (Says (opV kd po tt vi sx kv km me un nw li sh bu id) w) := by
  have HKY := Lib.hid fun W => law8_To kv km W
  have HBOX : Hid (∀ w', Below (w.heap.size + 2) ((w.alloc (.cells #[.int .i64 kd, .int .i64 po, .int .i64 tt, .int .i64 vi, .int .i64 sx, .int .i64 kv, .int .u64 km, .int .u64 me, .int .u64 un, .int .u32 nw, .int .u32 li, .int .i64 sh, .int .i64 bu, .int .i64 id] 75)).alloc (.cells #[.int .i64 0, .int .i64 0, .int .i64 0, .int .i64 0, .int .i64 0, .int .i64 0, .int .u64 0, .int .u64 0, .int .u64 0, .int .u32 0, .int .u32 0, .int .i64 0, .int .i64 0, .int .i64 0] 50)) w' → w'.cell? ⟨w.heap.size, 0, none⟩ = some (.int .i64 kd) ∧ w'.cell? ⟨w.heap.size, 1, none⟩ = some (.int .i64 po) ∧ w'.cell? ⟨w.heap.size, 2, none⟩ = some (.int .i64 tt) ∧ w'.cell? ⟨w.heap.size, 3, none⟩ = some (.int .i64 vi) ∧ w'.cell? ⟨w.heap.size, 4, none⟩ = some (.int .i64 sx) ∧ w'.cell? ⟨w.heap.size, 5, none⟩ = some (.int .i64 kv) ∧ w'.cell? ⟨w.heap.size, 6, none⟩ = some (.int .u64 km) ∧ w'.cell? ⟨w.heap.size, 7, none⟩ = some (.int .u64 me) ∧ w'.cell? ⟨w.heap.size, 8, none⟩ = some (.int .u64 un) ∧ w'.cell? ⟨w.heap.size, 9, none⟩ = some (.int .u32 nw) ∧ w'.cell? ⟨w.heap.size, 10, none⟩ = some (.int .u32 li) ∧ w'.cell? ⟨w.heap.size, 11, none⟩ = some (.int .i64 sh) ∧ w'.cell? ⟨w.heap.size, 12, none⟩ = some (.int .i64 bu) ∧ w'.cell? ⟨w.heap.size, 13, none⟩ = some (.int .i64 id)) := fun w' hb => by
    refine ⟨?_, ?_, ?_, ?_, ?_, ?_, ?_, ?_, ?_, ?_, ?_, ?_, ?_, ?_⟩ <;>
    · rw [hb.cell (by show w.heap.size < _; omega)]
      simp [go_sem]
  have HLOW : Hid (∀ w', Below (w.heap.size + 2) ((w.alloc (.cells #[.int .i64 kd, .int .i64 po, .int .i64 tt, .int .i64 vi, .int .i64 sx, .int .i64 kv, .int .u64 km, .int .u64 me, .int .u64 un, .int .u32 nw, .int .u32 li, .int .i64 sh, .int .i64 bu, .int .i64 id] 75)).alloc (.cells #[.int .i64 0, .int .i64 0, .int .i64 0, .int .i64 0, .int .i64 0, .int .i64 0, .int .u64 0, .int .u64 0, .int .u64 0, .int .u32 0, .int .u32 0, .int .i64 0, .int .i64 0, .int .i64 0] 50)) w' → Below w.heap.size w w') := fun w' hb => (((Below.refl w.heap.size w).alloc (Nat.le_refl _) _).alloc (by simp) _).trans (hb.mono (by omega))
  have HSZ : Hid (∀ w', Below (w.heap.size + 2) ((w.alloc (.cells #[.int .i64 kd, .int .i64 po, .int .i64 tt, .int .i64 vi, .int .i64 sx, .int .i64 kv, .int .u64 km, .int .u64 me, .int .u64 un, .int .u32 nw, .int .u32 li, .int .i64 sh, .int .i64 bu, .int .i64 id] 75)).alloc (.cells #[.int .i64 0, .int .i64 0, .int .i64 0, .int .i64 0, .int .i64 0, .int .i64 0, .int .u64 0, .int .u64 0, .int .u64 0, .int .u32 0, .int .u32 0, .int .i64 0, .int .i64 0, .int .i64 0] 50)) w' → w.heap.size + 2 ≤ w'.heap.size) := fun w' hb => by have := hb.size; simp at this; omega
  have HUP : Hid (∀ w' w'', Below (w.heap.size + 2) ((w.alloc (.cells #[.int .i64 kd, .int .i64 po, .int .i64 tt, .int .i64 vi, .int .i64 sx, .int .i64 kv, .int .u64 km, .int .u64 me, .int .u64 un, .int .u32 nw, .int .u32 li, .int .i64 sh, .int .i64 bu, .int .i64 id] 75)).alloc (.cells #[.int .i64 0, .int .i64 0, .int .i64 0, .int .i64 0, .int .i64 0, .int .i64 0, .int .u64 0, .int .u64 0, .int .u64 0, .int .u32 0, .int .u32 0, .int .i64 0, .int .i64 0, .int .i64 0] 50)) w' → Below w'.heap.size w' w'' → Below (w.heap.size + 2) ((w.alloc (.cells #[.int .i64 kd, .int .i64 po, .int .i64 tt, .int .i64 vi, .int .i64 sx, .int .i64 kv, .int .u64 km, .int .u64 me, .int .u64 un, .int .u32 nw, .int .u32 li, .int .i64 sh, .int .i64 bu, .int .i64 id] 75)).alloc (.cells #[.int .i64 0, .int .i64 0, .int .i64 0, .int .i64 0, .int .i64 0, .int .i64 0, .int .u64 0, .int .u64 0, .int .u64 0, .int .u32 0, .int .u32 0, .int .i64 0, .int .i64 0, .int .i64 0] 50)) w'') := fun w' w'' h1 h2 => h1.trans (h2.mono (by have := h1.size; simp at this; omega))
  unfold opV
  go_enter Try.func23, Try.ntmps23
  go_wp2_with fail
  refine wp_region_held_drew (S := fun w' => w'.cell? ⟨w.heap.size, 0, none⟩ = some (.int .i64 kd) ∧ w'.cell? ⟨w.heap.size, 1, none⟩ = some (.int .i64 po) ∧ w'.cell? ⟨w.heap.size, 2, none⟩ = some (.int .i64 tt) ∧ w'.cell? ⟨w.heap.size, 3, none⟩ = some (.int .i64 vi) ∧ w'.cell? ⟨w.heap.size, 4, none⟩ = some (.int .i64 sx) ∧ w'.cell? ⟨w.heap.size, 5, none⟩ = some (.int .i64 kv) ∧ w'.cell? ⟨w.heap.size, 6, none⟩ = some (.int .u64 km) ∧ w'.cell? ⟨w.heap.size, 7, none⟩ = some (.int .u64 me) ∧ w'.cell? ⟨w.heap.size, 8, none⟩ = some (.int .u64 un) ∧ w'.cell? ⟨w.heap.size, 9, none⟩ = some (.int .u32 nw) ∧ w'.cell? ⟨w.heap.size, 10, none⟩ = some (.int .u32 li) ∧ w'.cell? ⟨w.heap.size, 11, none⟩ = some (.int .i64 sh) ∧ w'.cell? ⟨w.heap.size, 12, none⟩ = some (.int .i64 bu) ∧ w'.cell? ⟨w.heap.size, 13, none⟩ = some (.int .i64 id)) (by kernel_rfl) ?_ (fun hHeld => ?_)
  · exact HBOX.out _ (Below.refl _ _).drew
  obtain ⟨v0, hv0⟩ : ∃ w', w' = (((w.alloc (.cells #[.int .i64 kd, .int .i64 po, .int .i64 tt, .int .i64 vi, .int .i64 sx, .int .i64 kv, .int .u64 km, .int .u64 me, .int .u64 un, .int .u32 nw, .int .u32 li, .int .i64 sh, .int .i64 bu, .int .i64 id] 75)).alloc (.cells #[.int .i64 0, .int .i64 0, .int .i64 0, .int .i64 0, .int .i64 0, .int .i64 0, .int .u64 0, .int .u64 0, .int .u64 0, .int .u32 0, .int .u32 0, .int .i64 0, .int .i64 0, .int .i64 0] 50))).drew := ⟨_, rfl⟩
  have hq0 : Below (w.heap.size + 2) ((w.alloc (.cells #[.int .i64 kd, .int .i64 po, .int .i64 tt, .int .i64 vi, .int .i64 sx, .int .i64 kv, .int .u64 km, .int .u64 me, .int .u64 un, .int .u32 nw, .int .u32 li, .int .i64 sh, .int .i64 bu, .int .i64 id] 75)).alloc (.cells #[.int .i64 0, .int .i64 0, .int .i64 0, .int .i64 0, .int .i64 0, .int .i64 0, .int .u64 0, .int .u64 0, .int .u64 0, .int .u32 0, .int .u32 0, .int .i64 0, .int .i64 0, .int .i64 0] 50)) v0 := by rw [hv0]; exact (Below.refl _ _).drew
  have HT0 : Hid (v0.there (w.heap.size + 1) 0 14) := by
    rw [hv0, World.there_drew]
    have := there_of (cs := #[.int .i64 0, .int .i64 0, .int .i64 0, .int .i64 0, .int .i64 0, .int .i64 0, .int .u64 0, .int .u64 0, .int .u64 0, .int .u32 0, .int .u32 0, .int .i64 0, .int .i64 0, .int .i64 0]) (heap_self (w.alloc (.cells #[.int .i64 kd, .int .i64 po, .int .i64 tt, .int .i64 vi, .int .i64 sx, .int .i64 kv, .int .u64 km, .int .u64 me, .int .u64 un, .int .u32 nw, .int .u32 li, .int .i64 sh, .int .i64 bu, .int .i64 id] 75)) #[.int .i64 0, .int .i64 0, .int .i64 0, .int .i64 0, .int .i64 0, .int .i64 0, .int .u64 0, .int .u64 0, .int .u64 0, .int .u32 0, .int .u32 0, .int .i64 0, .int .i64 0, .int .i64 0] 50)
    rw [World.size_alloc] at this
    exact this
  (try rw [← hv0] at hHeld ⊢)
  clear hv0
  refine wpAnyH_take (i := 0) (oi := { dst := some 3, op := Go.Op.fieldAddr 75 (Go.Operand.tmp 1) 0, type := 0, pos := "law.go:31", after := #[], guard := none }) (v := ?_) rfl (by kernel_rfl) (by kernel_rfl) (by kernel_rfl) (fun _ _ _ h => h) (Or.inl ⟨by rfl, ?_⟩) (by assumption) ?_
  rotate_left
  · intro w hSw
    (try dsimp only at hSw)
    go_simp
    try with_reducible rfl
  (try simp only [Act.put, List.setIfInBounds_toArray, List.set_cons_zero, List.set_cons_succ])
  refine wpAnyH_take (i := 1) (oi := { dst := some 4, op := Go.Op.load 3 (Go.Operand.tmp 3), type := 3, pos := "law.go:31", after := #[{ on := 0, ground := Go.Ground.data }], guard := none }) (v := ?_) rfl (by kernel_rfl) (by kernel_rfl) (by kernel_rfl) (fun _ _ _ h => h) (Or.inl ⟨by rfl, ?_⟩) (by assumption) ?_
  rotate_left
  · intro w hSw
    (try dsimp only at hSw)
    go_simp
    try with_reducible rfl
  (try simp only [Act.put, List.setIfInBounds_toArray, List.set_cons_zero, List.set_cons_succ])
  refine wpAnyH_take (i := 2) (oi := { dst := some 5, op := Go.Op.fieldAddr 75 (Go.Operand.tmp 1) 1, type := 0, pos := "law.go:31", after := #[], guard := none }) (v := ?_) rfl (by kernel_rfl) (by kernel_rfl) (by kernel_rfl) (fun _ _ _ h => h) (Or.inl ⟨by rfl, ?_⟩) (by assumption) ?_
  rotate_left
  · intro w hSw
    (try dsimp only at hSw)
    go_simp
    try with_reducible rfl
  (try simp only [Act.put, List.setIfInBounds_toArray, List.set_cons_zero, List.set_cons_succ])
  refine wpAnyH_take (i := 3) (oi := { dst := some 6, op := Go.Op.load 3 (Go.Operand.tmp 5), type := 3, pos := "law.go:31", after := #[{ on := 2, ground := Go.Ground.data }], guard := none }) (v := ?_) rfl (by kernel_rfl) (by kernel_rfl) (by kernel_rfl) (fun _ _ _ h => h) (Or.inl ⟨by rfl, ?_⟩) (by assumption) ?_
  rotate_left
  · intro w hSw
    (try dsimp only at hSw)
    go_simp
    try with_reducible rfl
  (try simp only [Act.put, List.setIfInBounds_toArray, List.set_cons_zero, List.set_cons_succ])
  refine wpAnyH_take (i := 4) (oi := { dst := some 7, op := Go.Op.fieldAddr 75 (Go.Operand.tmp 1) 2, type := 0, pos := "law.go:31", after := #[], guard := none }) (v := ?_) rfl (by kernel_rfl) (by kernel_rfl) (by kernel_rfl) (fun _ _ _ h => h) (Or.inl ⟨by rfl, ?_⟩) (by assumption) ?_
  rotate_left
  · intro w hSw
    (try dsimp only at hSw)
    go_simp
    try with_reducible rfl
  (try simp only [Act.put, List.setIfInBounds_toArray, List.set_cons_zero, List.set_cons_succ])
  refine wpAnyH_take (i := 5) (oi := { dst := some 8, op := Go.Op.load 3 (Go.Operand.tmp 7), type := 3, pos := "law.go:31", after := #[{ on := 4, ground := Go.Ground.data }], guard := none }) (v := ?_) rfl (by kernel_rfl) (by kernel_rfl) (by kernel_rfl) (fun _ _ _ h => h) (Or.inl ⟨by rfl, ?_⟩) (by assumption) ?_
  rotate_left
  · intro w hSw
    (try dsimp only at hSw)
    go_simp
    try with_reducible rfl
  (try simp only [Act.put, List.setIfInBounds_toArray, List.set_cons_zero, List.set_cons_succ])
  refine wpAnyH_take (i := 6) (oi := { dst := some 9, op := Go.Op.fieldAddr 75 (Go.Operand.tmp 1) 3, type := 0, pos := "law.go:31", after := #[], guard := none }) (v := ?_) rfl (by kernel_rfl) (by kernel_rfl) (by kernel_rfl) (fun _ _ _ h => h) (Or.inl ⟨by rfl, ?_⟩) (by assumption) ?_
  rotate_left
  · intro w hSw
    (try dsimp only at hSw)
    go_simp
    try with_reducible rfl
  (try simp only [Act.put, List.setIfInBounds_toArray, List.set_cons_zero, List.set_cons_succ])
  refine wpAnyH_take (i := 7) (oi := { dst := some 10, op := Go.Op.load 3 (Go.Operand.tmp 9), type := 3, pos := "law.go:31", after := #[{ on := 6, ground := Go.Ground.data }], guard := none }) (v := ?_) rfl (by kernel_rfl) (by kernel_rfl) (by kernel_rfl) (fun _ _ _ h => h) (Or.inl ⟨by rfl, ?_⟩) (by assumption) ?_
  rotate_left
  · intro w hSw
    (try dsimp only at hSw)
    go_simp
    try with_reducible rfl
  (try simp only [Act.put, List.setIfInBounds_toArray, List.set_cons_zero, List.set_cons_succ])
  refine wpAnyH_take (i := 8) (oi := { dst := some 11, op := Go.Op.fieldAddr 75 (Go.Operand.tmp 1) 4, type := 0, pos := "law.go:31", after := #[], guard := none }) (v := ?_) rfl (by kernel_rfl) (by kernel_rfl) (by kernel_rfl) (fun _ _ _ h => h) (Or.inl ⟨by rfl, ?_⟩) (by assumption) ?_
  rotate_left
  · intro w hSw
    (try dsimp only at hSw)
    go_simp
    try with_reducible rfl
  (try simp only [Act.put, List.setIfInBounds_toArray, List.set_cons_zero, List.set_cons_succ])
  refine wpAnyH_take (i := 9) (oi := { dst := some 12, op := Go.Op.load 3 (Go.Operand.tmp 11), type := 3, pos := "law.go:31", after := #[{ on := 8, ground := Go.Ground.data }], guard := none }) (v := ?_) rfl (by kernel_rfl) (by kernel_rfl) (by kernel_rfl) (fun _ _ _ h => h) (Or.inl ⟨by rfl, ?_⟩) (by assumption) ?_
  rotate_left
  · intro w hSw
    (try dsimp only at hSw)
    go_simp
    try with_reducible rfl
  (try simp only [Act.put, List.setIfInBounds_toArray, List.set_cons_zero, List.set_cons_succ])
  refine wpAnyH_take (i := 10) (oi := { dst := some 13, op := Go.Op.fieldAddr 75 (Go.Operand.tmp 1) 5, type := 0, pos := "law.go:31", after := #[], guard := none }) (v := ?_) rfl (by kernel_rfl) (by kernel_rfl) (by kernel_rfl) (fun _ _ _ h => h) (Or.inl ⟨by rfl, ?_⟩) (by assumption) ?_
  rotate_left
  · intro w hSw
    (try dsimp only at hSw)
    go_simp
    try with_reducible rfl
  (try simp only [Act.put, List.setIfInBounds_toArray, List.set_cons_zero, List.set_cons_succ])
  refine wpAnyH_take (i := 11) (oi := { dst := some 14, op := Go.Op.load 73 (Go.Operand.tmp 13), type := 73, pos := "law.go:31", after := #[{ on := 10, ground := Go.Ground.data }], guard := none }) (v := ?_) rfl (by kernel_rfl) (by kernel_rfl) (by kernel_rfl) (fun _ _ _ h => h) (Or.inl ⟨by rfl, ?_⟩) (by assumption) ?_
  rotate_left
  · intro w hSw
    (try dsimp only at hSw)
    go_simp
    try with_reducible rfl
  (try simp only [Act.put, List.setIfInBounds_toArray, List.set_cons_zero, List.set_cons_succ])
  refine wpAnyH_take (i := 13) (oi := { dst := some 16, op := Go.Op.fieldAddr 75 (Go.Operand.tmp 1) 6, type := 0, pos := "law.go:31", after := #[], guard := none }) (v := ?_) rfl (by kernel_rfl) (by kernel_rfl) (by kernel_rfl) (fun _ _ _ h => h) (Or.inl ⟨by rfl, ?_⟩) (by assumption) ?_
  rotate_left
  · intro w hSw
    (try dsimp only at hSw)
    go_simp
    try with_reducible rfl
  (try simp only [Act.put, List.setIfInBounds_toArray, List.set_cons_zero, List.set_cons_succ])
  refine wpAnyH_take (i := 14) (oi := { dst := some 17, op := Go.Op.load 44 (Go.Operand.tmp 16), type := 44, pos := "law.go:31", after := #[{ on := 13, ground := Go.Ground.data }], guard := none }) (v := ?_) rfl (by kernel_rfl) (by kernel_rfl) (by kernel_rfl) (fun _ _ _ h => h) (Or.inl ⟨by rfl, ?_⟩) (by assumption) ?_
  rotate_left
  · intro w hSw
    (try dsimp only at hSw)
    go_simp
    try with_reducible rfl
  (try simp only [Act.put, List.setIfInBounds_toArray, List.set_cons_zero, List.set_cons_succ])
  refine wpAnyH_take (i := 15) (oi := { dst := some 18, op := Go.Op.fieldAddr 75 (Go.Operand.tmp 1) 7, type := 0, pos := "law.go:31", after := #[], guard := none }) (v := ?_) rfl (by kernel_rfl) (by kernel_rfl) (by kernel_rfl) (fun _ _ _ h => h) (Or.inl ⟨by rfl, ?_⟩) (by assumption) ?_
  rotate_left
  · intro w hSw
    (try dsimp only at hSw)
    go_simp
    try with_reducible rfl
  (try simp only [Act.put, List.setIfInBounds_toArray, List.set_cons_zero, List.set_cons_succ])
  refine wpAnyH_take (i := 16) (oi := { dst := some 19, op := Go.Op.load 44 (Go.Operand.tmp 18), type := 44, pos := "law.go:31", after := #[{ on := 15, ground := Go.Ground.data }], guard := none }) (v := ?_) rfl (by kernel_rfl) (by kernel_rfl) (by kernel_rfl) (fun _ _ _ h => h) (Or.inl ⟨by rfl, ?_⟩) (by assumption) ?_
  rotate_left
  · intro w hSw
    (try dsimp only at hSw)
    go_simp
    try with_reducible rfl
  (try simp only [Act.put, List.setIfInBounds_toArray, List.set_cons_zero, List.set_cons_succ])
  refine wpAnyH_take (i := 17) (oi := { dst := some 20, op := Go.Op.fieldAddr 75 (Go.Operand.tmp 1) 8, type := 0, pos := "law.go:31", after := #[], guard := none }) (v := ?_) rfl (by kernel_rfl) (by kernel_rfl) (by kernel_rfl) (fun _ _ _ h => h) (Or.inl ⟨by rfl, ?_⟩) (by assumption) ?_
  rotate_left
  · intro w hSw
    (try dsimp only at hSw)
    go_simp
    try with_reducible rfl
  (try simp only [Act.put, List.setIfInBounds_toArray, List.set_cons_zero, List.set_cons_succ])
  refine wpAnyH_take (i := 18) (oi := { dst := some 21, op := Go.Op.load 26 (Go.Operand.tmp 20), type := 26, pos := "law.go:31", after := #[{ on := 17, ground := Go.Ground.data }], guard := none }) (v := ?_) rfl (by kernel_rfl) (by kernel_rfl) (by kernel_rfl) (fun _ _ _ h => h) (Or.inl ⟨by rfl, ?_⟩) (by assumption) ?_
  rotate_left
  · intro w hSw
    (try dsimp only at hSw)
    go_simp
    try with_reducible rfl
  (try simp only [Act.put, List.setIfInBounds_toArray, List.set_cons_zero, List.set_cons_succ])
  refine wpAnyH_take (i := 19) (oi := { dst := some 22, op := Go.Op.fieldAddr 75 (Go.Operand.tmp 1) 9, type := 0, pos := "law.go:31", after := #[], guard := none }) (v := ?_) rfl (by kernel_rfl) (by kernel_rfl) (by kernel_rfl) (fun _ _ _ h => h) (Or.inl ⟨by rfl, ?_⟩) (by assumption) ?_
  rotate_left
  · intro w hSw
    (try dsimp only at hSw)
    go_simp
    try with_reducible rfl
  (try simp only [Act.put, List.setIfInBounds_toArray, List.set_cons_zero, List.set_cons_succ])
  refine wpAnyH_take (i := 20) (oi := { dst := some 23, op := Go.Op.load 26 (Go.Operand.tmp 22), type := 26, pos := "law.go:31", after := #[{ on := 19, ground := Go.Ground.data }], guard := none }) (v := ?_) rfl (by kernel_rfl) (by kernel_rfl) (by kernel_rfl) (fun _ _ _ h => h) (Or.inl ⟨by rfl, ?_⟩) (by assumption) ?_
  rotate_left
  · intro w hSw
    (try dsimp only at hSw)
    go_simp
    try with_reducible rfl
  (try simp only [Act.put, List.setIfInBounds_toArray, List.set_cons_zero, List.set_cons_succ])
  refine wpAnyH_take (i := 21) (oi := { dst := some 24, op := Go.Op.fieldAddr 75 (Go.Operand.tmp 1) 10, type := 0, pos := "law.go:31", after := #[], guard := none }) (v := ?_) rfl (by kernel_rfl) (by kernel_rfl) (by kernel_rfl) (fun _ _ _ h => h) (Or.inl ⟨by rfl, ?_⟩) (by assumption) ?_
  rotate_left
  · intro w hSw
    (try dsimp only at hSw)
    go_simp
    try with_reducible rfl
  (try simp only [Act.put, List.setIfInBounds_toArray, List.set_cons_zero, List.set_cons_succ])
  refine wpAnyH_take (i := 22) (oi := { dst := some 25, op := Go.Op.load 3 (Go.Operand.tmp 24), type := 3, pos := "law.go:31", after := #[{ on := 21, ground := Go.Ground.data }], guard := none }) (v := ?_) rfl (by kernel_rfl) (by kernel_rfl) (by kernel_rfl) (fun _ _ _ h => h) (Or.inl ⟨by rfl, ?_⟩) (by assumption) ?_
  rotate_left
  · intro w hSw
    (try dsimp only at hSw)
    go_simp
    try with_reducible rfl
  (try simp only [Act.put, List.setIfInBounds_toArray, List.set_cons_zero, List.set_cons_succ])
  refine wpAnyH_take (i := 23) (oi := { dst := some 26, op := Go.Op.fieldAddr 75 (Go.Operand.tmp 1) 11, type := 0, pos := "law.go:31", after := #[], guard := none }) (v := ?_) rfl (by kernel_rfl) (by kernel_rfl) (by kernel_rfl) (fun _ _ _ h => h) (Or.inl ⟨by rfl, ?_⟩) (by assumption) ?_
  rotate_left
  · intro w hSw
    (try dsimp only at hSw)
    go_simp
    try with_reducible rfl
  (try simp only [Act.put, List.setIfInBounds_toArray, List.set_cons_zero, List.set_cons_succ])
  refine wpAnyH_take (i := 24) (oi := { dst := some 27, op := Go.Op.load 3 (Go.Operand.tmp 26), type := 3, pos := "law.go:31", after := #[{ on := 23, ground := Go.Ground.data }], guard := none }) (v := ?_) rfl (by kernel_rfl) (by kernel_rfl) (by kernel_rfl) (fun _ _ _ h => h) (Or.inl ⟨by rfl, ?_⟩) (by assumption) ?_
  rotate_left
  · intro w hSw
    (try dsimp only at hSw)
    go_simp
    try with_reducible rfl
  (try simp only [Act.put, List.setIfInBounds_toArray, List.set_cons_zero, List.set_cons_succ])
  refine wpAnyH_take (i := 25) (oi := { dst := some 28, op := Go.Op.fieldAddr 75 (Go.Operand.tmp 1) 12, type := 0, pos := "law.go:31", after := #[], guard := none }) (v := ?_) rfl (by kernel_rfl) (by kernel_rfl) (by kernel_rfl) (fun _ _ _ h => h) (Or.inl ⟨by rfl, ?_⟩) (by assumption) ?_
  rotate_left
  · intro w hSw
    (try dsimp only at hSw)
    go_simp
    try with_reducible rfl
  (try simp only [Act.put, List.setIfInBounds_toArray, List.set_cons_zero, List.set_cons_succ])
  refine wpAnyH_take (i := 26) (oi := { dst := some 29, op := Go.Op.load 3 (Go.Operand.tmp 28), type := 3, pos := "law.go:31", after := #[{ on := 25, ground := Go.Ground.data }], guard := none }) (v := ?_) rfl (by kernel_rfl) (by kernel_rfl) (by kernel_rfl) (fun _ _ _ h => h) (Or.inl ⟨by rfl, ?_⟩) (by assumption) ?_
  rotate_left
  · intro w hSw
    (try dsimp only at hSw)
    go_simp
    try with_reducible rfl
  (try simp only [Act.put, List.setIfInBounds_toArray, List.set_cons_zero, List.set_cons_succ])
  refine wpAnyH_ready (rs := [12]) (by kernel_rfl) (by simp) ?_
  refine AllReadyH.cons (o := { dst := some 15, op := Go.Op.call { callee := Go.Callee.value (Go.Operand.func 69), args := #[Go.Operand.tmp 14], argTypes := #[73] }, type := 47, pos := "law.go:31", after := #[{ on := 11, ground := Go.Ground.data }], guard := none }) rfl (fun K hK => ?_) AllReadyH.nil
  go_simp
  refine Calls.mono (HKY.out _) ?_
  rintro e wb ⟨rfl, hbb⟩
  have hqb := HUP.out _ _ hq0 hbb
  have HTB : Hid (wb.there (w.heap.size + 1) 0 14) := there_below HT0.out hbb (by have := HSZ.out _ hq0; omega)
  clear hbb
  refine hK.out _ _ ?_ (fun hHeld => ?_)
  · (try dsimp only)
    exact HBOX.out _ hqb
  clear hK K
  (try simp only [Act.put, List.setIfInBounds_toArray, List.set_cons_zero, List.set_cons_succ])
  refine wpAnyH_take (i := 27) (oi := { dst := some 30, op := Go.Op.build 50 #[(0, Go.Operand.tmp 4), (1, Go.Operand.tmp 6), (2, Go.Operand.tmp 8), (3, Go.Operand.tmp 10), (4, Go.Operand.tmp 12), (5, Go.Operand.tmp 15), (6, Go.Operand.tmp 17), (7, Go.Operand.tmp 19), (8, Go.Operand.tmp 21), (9, Go.Operand.tmp 23), (10, Go.Operand.tmp 25), (11, Go.Operand.tmp 27), (12, Go.Operand.tmp 29)], type := 50, pos := "law.go:31", after := #[{ on := 1, ground := Go.Ground.data }, { on := 3, ground := Go.Ground.data }, { on := 5, ground := Go.Ground.data }, { on := 7, ground := Go.Ground.data }, { on := 9, ground := Go.Ground.data }, { on := 12, ground := Go.Ground.data }, { on := 14, ground := Go.Ground.data }, { on := 16, ground := Go.Ground.data }, { on := 18, ground := Go.Ground.data }, { on := 20, ground := Go.Ground.data }, { on := 22, ground := Go.Ground.data }, { on := 24, ground := Go.Ground.data }, { on := 26, ground := Go.Ground.data }], guard := none }) (v := ?_) rfl (by kernel_rfl) (by kernel_rfl) (by kernel_rfl) (fun _ _ _ h => h) (Or.inl ⟨by rfl, ?_⟩) (by assumption) ?_
  rotate_left
  · intro w hSw
    (try dsimp only at hSw)
    go_simp
    try with_reducible rfl
  (try simp only [Act.put, List.setIfInBounds_toArray, List.set_cons_zero, List.set_cons_succ])
  refine wpAnyH_ready (rs := [28]) (by kernel_rfl) (by simp) ?_
  refine AllReadyH.cons (o := { dst := none, op := Go.Op.store 50 (Go.Operand.tmp 2) (Go.Operand.tmp 30), type := 0, pos := "law.go:31", after := #[{ on := 27, ground := Go.Ground.data }, { on := 12, ground := Go.Ground.chain }, { on := 0, ground := Go.Ground.phase }, { on := 1, ground := Go.Ground.phase }, { on := 2, ground := Go.Ground.phase }, { on := 3, ground := Go.Ground.phase }, { on := 4, ground := Go.Ground.phase }, { on := 5, ground := Go.Ground.phase }, { on := 6, ground := Go.Ground.phase }, { on := 7, ground := Go.Ground.phase }, { on := 8, ground := Go.Ground.phase }, { on := 9, ground := Go.Ground.phase }, { on := 10, ground := Go.Ground.phase }, { on := 11, ground := Go.Ground.phase }, { on := 12, ground := Go.Ground.phase }, { on := 13, ground := Go.Ground.phase }, { on := 14, ground := Go.Ground.phase }, { on := 15, ground := Go.Ground.phase }, { on := 16, ground := Go.Ground.phase }, { on := 17, ground := Go.Ground.phase }, { on := 18, ground := Go.Ground.phase }, { on := 19, ground := Go.Ground.phase }, { on := 20, ground := Go.Ground.phase }, { on := 21, ground := Go.Ground.phase }, { on := 22, ground := Go.Ground.phase }, { on := 23, ground := Go.Ground.phase }, { on := 24, ground := Go.Ground.phase }, { on := 25, ground := Go.Ground.phase }, { on := 26, ground := Go.Ground.phase }, { on := 27, ground := Go.Ground.phase }], guard := none }) rfl (fun K hK => ?_) AllReadyH.nil
  refine step_store (by rfl) 50 _ _ (by rfl) (w.heap.size + 1) 0 #[.int .i64 kd, .int .i64 po, .int .i64 tt, .int .i64 vi, .int .i64 sx, .int .i64 kv, .int .u64 km, .int .u64 me, .int .u64 un, .int .u32 nw, .int .u32 li, .int .i64 sh, .int .i64 bu, .int .i64 id] (by rfl) (by rfl) HTB.out (by kernel_rfl) (by simp [Value.oneCell']) ?_
  intro wz hst
  refine hK.out _ _ ?_ (fun hHeld => ?_)
  · (try dsimp only)
    obtain ⟨y0, y1, y2, y3, y4, y5, y6, y7, y8, y9, y10, y11, y12, y13⟩ := HBOX.out _ hqb
    exact ⟨(World.cell?_of_block (a := ⟨w.heap.size, 0, none⟩) (hst.far w.heap.size (by omega))).trans y0, (World.cell?_of_block (a := ⟨w.heap.size, 1, none⟩) (hst.far w.heap.size (by omega))).trans y1, (World.cell?_of_block (a := ⟨w.heap.size, 2, none⟩) (hst.far w.heap.size (by omega))).trans y2, (World.cell?_of_block (a := ⟨w.heap.size, 3, none⟩) (hst.far w.heap.size (by omega))).trans y3, (World.cell?_of_block (a := ⟨w.heap.size, 4, none⟩) (hst.far w.heap.size (by omega))).trans y4, (World.cell?_of_block (a := ⟨w.heap.size, 5, none⟩) (hst.far w.heap.size (by omega))).trans y5, (World.cell?_of_block (a := ⟨w.heap.size, 6, none⟩) (hst.far w.heap.size (by omega))).trans y6, (World.cell?_of_block (a := ⟨w.heap.size, 7, none⟩) (hst.far w.heap.size (by omega))).trans y7, (World.cell?_of_block (a := ⟨w.heap.size, 8, none⟩) (hst.far w.heap.size (by omega))).trans y8, (World.cell?_of_block (a := ⟨w.heap.size, 9, none⟩) (hst.far w.heap.size (by omega))).trans y9, (World.cell?_of_block (a := ⟨w.heap.size, 10, none⟩) (hst.far w.heap.size (by omega))).trans y10, (World.cell?_of_block (a := ⟨w.heap.size, 11, none⟩) (hst.far w.heap.size (by omega))).trans y11, (World.cell?_of_block (a := ⟨w.heap.size, 12, none⟩) (hst.far w.heap.size (by omega))).trans y12, (World.cell?_of_block (a := ⟨w.heap.size, 13, none⟩) (hst.far w.heap.size (by omega))).trans y13⟩
  clear hK K
  (try simp only [Act.put])
  refine wpAnyH_done (by kernel_rfl) ?_ _
  have z0 : wz.cell? ⟨w.heap.size + 1, 0, none⟩ = some (.int .i64 kd) := hst.cells 0 _ rfl
  have z1 : wz.cell? ⟨w.heap.size + 1, 1, none⟩ = some (.int .i64 po) := hst.cells 1 _ rfl
  have z2 : wz.cell? ⟨w.heap.size + 1, 2, none⟩ = some (.int .i64 tt) := hst.cells 2 _ rfl
  have z3 : wz.cell? ⟨w.heap.size + 1, 3, none⟩ = some (.int .i64 vi) := hst.cells 3 _ rfl
  have z4 : wz.cell? ⟨w.heap.size + 1, 4, none⟩ = some (.int .i64 sx) := hst.cells 4 _ rfl
  have z5 : wz.cell? ⟨w.heap.size + 1, 5, none⟩ = some (.int .i64 kv) := hst.cells 5 _ rfl
  have z6 : wz.cell? ⟨w.heap.size + 1, 6, none⟩ = some (.int .u64 km) := hst.cells 6 _ rfl
  have z7 : wz.cell? ⟨w.heap.size + 1, 7, none⟩ = some (.int .u64 me) := hst.cells 7 _ rfl
  have z8 : wz.cell? ⟨w.heap.size + 1, 8, none⟩ = some (.int .u64 un) := hst.cells 8 _ rfl
  have z9 : wz.cell? ⟨w.heap.size + 1, 9, none⟩ = some (.int .u32 nw) := hst.cells 9 _ rfl
  have z10 : wz.cell? ⟨w.heap.size + 1, 10, none⟩ = some (.int .u32 li) := hst.cells 10 _ rfl
  have z11 : wz.cell? ⟨w.heap.size + 1, 11, none⟩ = some (.int .i64 sh) := hst.cells 11 _ rfl
  have z12 : wz.cell? ⟨w.heap.size + 1, 12, none⟩ = some (.int .i64 bu) := hst.cells 12 _ rfl
  have z13 : wz.cell? ⟨w.heap.size + 1, 13, none⟩ = some (.int .i64 id) := hst.cells 13 _ rfl
  have HBZ : Hid (Below w.heap.size w wz) := (HLOW.out _ hqb).trans (hst.below _ (by omega))
  clear hst hHeld
  go_wp2
  exact bodyPost_ret (v := opV kd po tt vi sx kv km me un nw li sh bu id) (by simp [results, Try.results23, go_sem, opV, z0, z1, z2, z3, z4, z5, z6, z7, z8, z9, z10, z11, z12, z13]) rfl ⟨rfl, HBZ.out⟩
end Go.Proofs.Ytcnfilbmmlolmaa
