/-
  Places handed over. No statement is proved here.
-/
import Derived.Test.YtnhooknpknkjkaaBuF
import Derived.Test.YtnhooknpknkjkaaSlotC
set_option linter.unusedVariables false
namespace Go.Proofs.Ytnhooknpknkjkaa
open Go.RowKit

set_option maxHeartbeats 3200000 in
theorem law10_To {f : Nat → Pl} {n : Nat} {y : Value} {w : World} {B : Nat} (hn : n ≤ 1000000) (hv : PlRow w B y n f) (hB : B ≤ w.heap.size) :
    Calls Try.prog 10 #[y] w (Gives 67 n f id w) := by
  obtain ⟨A, cap, rfl, h1, h2, h3⟩ := hv
  have HC := Lib.hid h3
  have HCAP := Lib.hid h1
  unfold maxLen at h2
  clear h3
  go_enter Try.func10, Try.ntmps10
  go_wp2
  go_loopw [3, 4] (fun out i wr => ∃ k : Nat, k ≤ n ∧ i = .int .i64 k ∧ Hid (wr.ownsRow w.heap.size 67 6 out k (plc (listP f k))) ∧ Hid (Below w.heap.size w wr)) (fun _ i _ => n - (intOf i).toNat)
  case atStart => exact ⟨0, by omega, rfl, ⟨by simp [plc, listP], .inl ⟨rfl, rfl⟩⟩, Below.refl _ _⟩
  case round =>
    obtain ⟨k, hk, rfl, HO, HB⟩ := hrel
    have hzw := HB.out.size
    by_cases hlt : k < n
    · obtain ⟨b, off, rfl, hb, hc⟩ := HC.out (by omega)
      have g0 : (0 : Int) ≤ (k : Int) := Int.natCast_nonneg _
      have g1 : (k : Int) < (n : Int) := by omega
      have hcx := (hc k hlt).keep (w' := wr) fun p hp => HB.out.cell (by rw [hp]; omega)
      have HX : Hid (∀ x, f k = x → plc (listP f (k + 1)) = plc (listP f k) ++ x.cells) := fun x hx => by
        rw [listP_succ, plc_append, plc_one1, ← hx]
      obtain ⟨x, hx⟩ : ∃ x, x = f k := ⟨_, rfl⟩
      rw [← hx] at hcx HX
      have HX := Lib.hid (HX.out x rfl)
      clear hx
      obtain ⟨u, ⟨a, q, p, st, s⟩⟩ := x
      obtain ⟨c0', c1', c2', c3', c4', c5'⟩ := hcx
      have c0 : wr.cell? ⟨b, off + k * 6, none⟩ = some (.bool u) := c0'
      have c1 : wr.cell? ⟨b, off + k * 6 + 1, none⟩ = some (.int .i64 a) := c1'
      have c2 : wr.cell? ⟨b, off + k * 6 + 2, none⟩ = some (.int .u64 (q : Int)) := c2'
      have c3 : wr.cell? ⟨b, off + k * 6 + 3, none⟩ = some (.int .i64 p) := c3'
      have c4 : wr.cell? ⟨b, off + k * 6 + 4, none⟩ = some (.bool st) := c4'
      have c5 : wr.cell? ⟨b, off + k * 6 + 5, none⟩ = some (.int .u32 (s : Int)) := c5'
      clear c0' c1' c2' c3' c4' c5'
      have hbr : b < wr.heap.size := by omega
      have hbw : b < w.heap.size := by omega
      have HTO := Lib.hid fun W => law9_To a (q : Int) p st (s : Int) W
      clear hc HC
      go_wp2_with fail
      refine wp_region_held_drew (S := fun w' => w'.cell? ⟨b, off + k * 6, none⟩ = some (.bool u) ∧ w'.cell? ⟨b, off + k * 6 + 1, none⟩ = some (.int .i64 a) ∧ w'.cell? ⟨b, off + k * 6 + 2, none⟩ = some (.int .u64 (q : Int)) ∧ w'.cell? ⟨b, off + k * 6 + 3, none⟩ = some (.int .i64 p) ∧ w'.cell? ⟨b, off + k * 6 + 4, none⟩ = some (.bool st) ∧ w'.cell? ⟨b, off + k * 6 + 5, none⟩ = some (.int .u32 (s : Int))) (by kernel_rfl) ?_ (fun hHeld => ?_)
      · exact ⟨c0, c1, c2, c3, c4, c5⟩
      refine wpAnyH_take (i := 0) (oi := { dst := some 11, op := Go.Op.move (Go.Operand.tmp 3), type := 30, pos := "law.go:19", after := #[], guard := none }) (v := ?_) rfl (by kernel_rfl) (by kernel_rfl) (by kernel_rfl) (fun _ _ _ h => h) (Or.inl ⟨by rfl, ?_⟩) (by assumption) ?_
      rotate_left
      · intro w hSw
        (try dsimp only at hSw)
        go_simp
        try with_reducible rfl
      (try simp only [Act.put, List.setIfInBounds_toArray, List.set_cons_zero, List.set_cons_succ])
      refine wpAnyH_take (i := 1) (oi := { dst := some 12, op := Go.Op.move (Go.Operand.tmp 0), type := 22, pos := "law.go:19", after := #[], guard := none }) (v := ?_) rfl (by kernel_rfl) (by kernel_rfl) (by kernel_rfl) (fun _ _ _ h => h) (Or.inl ⟨by rfl, ?_⟩) (by assumption) ?_
      rotate_left
      · intro w hSw
        (try dsimp only at hSw)
        go_simp
        try with_reducible rfl
      (try simp only [Act.put, List.setIfInBounds_toArray, List.set_cons_zero, List.set_cons_succ])
      refine wpAnyH_take (i := 2) (oi := { dst := some 13, op := Go.Op.move (Go.Operand.tmp 4), type := 3, pos := "law.go:19", after := #[], guard := none }) (v := ?_) rfl (by kernel_rfl) (by kernel_rfl) (by kernel_rfl) (fun _ _ _ h => h) (Or.inl ⟨by rfl, ?_⟩) (by assumption) ?_
      rotate_left
      · intro w hSw
        (try dsimp only at hSw)
        go_simp
        try with_reducible rfl
      (try simp only [Act.put, List.setIfInBounds_toArray, List.set_cons_zero, List.set_cons_succ])
      refine wpAnyH_take (i := 3) (oi := { dst := some 14, op := Go.Op.indexAddr 22 (Go.Operand.tmp 12) (Go.Operand.tmp 13), type := 0, pos := "law.go:19", after := #[{ on := 1, ground := Go.Ground.data }, { on := 2, ground := Go.Ground.data }], guard := none }) (v := ?_) rfl (by kernel_rfl) (by kernel_rfl) (by kernel_rfl) (fun _ _ _ h => h) (Or.inl ⟨by rfl, ?_⟩) (by assumption) ?_
      rotate_left
      · intro w hSw
        (try dsimp only at hSw)
        go_simp
        try with_reducible rfl
      (try simp only [Act.put, List.setIfInBounds_toArray, List.set_cons_zero, List.set_cons_succ])
      refine wpAnyH_take (i := 4) (oi := { dst := some 15, op := Go.Op.fieldAddr 74 (Go.Operand.tmp 14) 0, type := 0, pos := "law.go:19", after := #[{ on := 3, ground := Go.Ground.data }], guard := none }) (v := ?_) rfl (by kernel_rfl) (by kernel_rfl) (by kernel_rfl) (fun _ _ _ h => h) (Or.inl ⟨by rfl, ?_⟩) (by assumption) ?_
      rotate_left
      · intro w hSw
        (try dsimp only at hSw)
        go_simp
        try with_reducible rfl
      (try simp only [Act.put, List.setIfInBounds_toArray, List.set_cons_zero, List.set_cons_succ])
      refine wpAnyH_take (i := 5) (oi := { dst := some 16, op := Go.Op.load 4 (Go.Operand.tmp 15), type := 4, pos := "law.go:19", after := #[{ on := 4, ground := Go.Ground.data }], guard := none }) (v := ?_) rfl (by kernel_rfl) (by kernel_rfl) (by kernel_rfl) (fun _ _ _ h => h) (Or.inl ⟨by rfl, ?_⟩) (by assumption) ?_
      rotate_left
      · intro w hSw
        (try dsimp only at hSw)
        go_simp
        try with_reducible rfl
      (try simp only [Act.put, List.setIfInBounds_toArray, List.set_cons_zero, List.set_cons_succ])
      refine wpAnyH_take (i := 6) (oi := { dst := some 17, op := Go.Op.move (Go.Operand.tmp 0), type := 22, pos := "law.go:19", after := #[], guard := none }) (v := ?_) rfl (by kernel_rfl) (by kernel_rfl) (by kernel_rfl) (fun _ _ _ h => h) (Or.inl ⟨by rfl, ?_⟩) (by assumption) ?_
      rotate_left
      · intro w hSw
        (try dsimp only at hSw)
        go_simp
        try with_reducible rfl
      (try simp only [Act.put, List.setIfInBounds_toArray, List.set_cons_zero, List.set_cons_succ])
      refine wpAnyH_take (i := 7) (oi := { dst := some 18, op := Go.Op.move (Go.Operand.tmp 4), type := 3, pos := "law.go:19", after := #[], guard := none }) (v := ?_) rfl (by kernel_rfl) (by kernel_rfl) (by kernel_rfl) (fun _ _ _ h => h) (Or.inl ⟨by rfl, ?_⟩) (by assumption) ?_
      rotate_left
      · intro w hSw
        (try dsimp only at hSw)
        go_simp
        try with_reducible rfl
      (try simp only [Act.put, List.setIfInBounds_toArray, List.set_cons_zero, List.set_cons_succ])
      refine wpAnyH_take (i := 8) (oi := { dst := some 19, op := Go.Op.indexAddr 22 (Go.Operand.tmp 17) (Go.Operand.tmp 18), type := 0, pos := "law.go:19", after := #[{ on := 6, ground := Go.Ground.data }, { on := 7, ground := Go.Ground.data }], guard := none }) (v := ?_) rfl (by kernel_rfl) (by kernel_rfl) (by kernel_rfl) (fun _ _ _ h => h) (Or.inl ⟨by rfl, ?_⟩) (by assumption) ?_
      rotate_left
      · intro w hSw
        (try dsimp only at hSw)
        go_simp
        try with_reducible rfl
      (try simp only [Act.put, List.setIfInBounds_toArray, List.set_cons_zero, List.set_cons_succ])
      refine wpAnyH_take (i := 9) (oi := { dst := some 20, op := Go.Op.fieldAddr 74 (Go.Operand.tmp 19) 1, type := 0, pos := "law.go:19", after := #[{ on := 8, ground := Go.Ground.data }], guard := none }) (v := ?_) rfl (by kernel_rfl) (by kernel_rfl) (by kernel_rfl) (fun _ _ _ h => h) (Or.inl ⟨by rfl, ?_⟩) (by assumption) ?_
      rotate_left
      · intro w hSw
        (try dsimp only at hSw)
        go_simp
        try with_reducible rfl
      (try simp only [Act.put, List.setIfInBounds_toArray, List.set_cons_zero, List.set_cons_succ])
      refine wpAnyH_take (i := 10) (oi := { dst := some 21, op := Go.Op.load 72 (Go.Operand.tmp 20), type := 72, pos := "law.go:19", after := #[{ on := 9, ground := Go.Ground.data }], guard := none }) (v := ?_) rfl (by kernel_rfl) (by kernel_rfl) (by kernel_rfl) (fun _ _ _ h => h) (Or.inl ⟨by rfl, ?_⟩) (by assumption) ?_
      rotate_left
      · intro w hSw
        (try dsimp only at hSw)
        go_simp
        try with_reducible rfl
      (try simp only [Act.put, List.setIfInBounds_toArray, List.set_cons_zero, List.set_cons_succ])
      refine wpAnyH_ready (rs := [11]) (by kernel_rfl) (by simp) ?_
      refine AllReadyH.cons (o := { dst := some 22, op := Go.Op.call { callee := Go.Callee.value (Go.Operand.func 31), args := #[Go.Operand.tmp 21], argTypes := #[72] }, type := 65, pos := "law.go:19", after := #[{ on := 10, ground := Go.Ground.data }], guard := none }) rfl (fun K hK => ?_) AllReadyH.nil
      go_simp
      refine Calls.mono (HTO.out _) ?_
      rintro e w4 ⟨rfl, hb4⟩
      have hbd : Below wr.heap.size wr w4 := ((Below.refl wr.heap.size wr).drew).trans hb4
      have HO4 := Lib.hid (own_below HO.out hbd)
      have HB4 := Lib.hid (HB.out.trans (hbd.mono hzw))
      have hz4 := hbd.size
      refine hK.out _ _ ?_ (fun hHeld => ?_)
      · (try dsimp only)
        obtain ⟨c0, c1, c2, c3, c4, c5⟩ := hHeld
        obtain ⟨hcc, _⟩ := bcell hb4
        exact ⟨(hcc _ _ (by go_size)).trans c0, (hcc _ _ (by go_size)).trans c1, (hcc _ _ (by go_size)).trans c2, (hcc _ _ (by go_size)).trans c3, (hcc _ _ (by go_size)).trans c4, (hcc _ _ (by go_size)).trans c5⟩
      clear hK K
      (try simp only [Act.put, List.setIfInBounds_toArray, List.set_cons_zero, List.set_cons_succ])
      refine wpAnyH_take (i := 12) (oi := { dst := some 23, op := Go.Op.build 67 #[(0, Go.Operand.tmp 16), (1, Go.Operand.tmp 22)], type := 67, pos := "law.go:19", after := #[{ on := 5, ground := Go.Ground.data }, { on := 11, ground := Go.Ground.data }], guard := none }) (v := ?_) rfl (by kernel_rfl) (by kernel_rfl) (by kernel_rfl) (fun _ _ _ h => h) (Or.inl ⟨by rfl, ?_⟩) (by assumption) ?_
      rotate_left
      · intro w hSw
        (try dsimp only at hSw)
        go_simp
        try with_reducible rfl
      (try simp only [Act.put, List.setIfInBounds_toArray, List.set_cons_zero, List.set_cons_succ])
      refine wpAnyH_ready (rs := [13]) (by kernel_rfl) (by simp) ?_
      refine AllReadyH.cons (o := { dst := some 24, op := Go.Op.buildSlice 30 1 #[(0, Go.Operand.tmp 23)], type := 30, pos := "law.go:19", after := #[{ on := 12, ground := Go.Ground.data }], guard := none }) rfl (fun K hK => ?_) AllReadyH.nil
      go_simp

      refine hK.out _ _ ?_ (fun hHeld => ?_)
      · (try dsimp only)
        obtain ⟨c0, c1, c2, c3, c4, c5⟩ := hHeld
        exact ⟨(World.cell?_alloc_lt _ _ _ (by show b < _; omega)).trans c0, (World.cell?_alloc_lt _ _ _ (by show b < _; omega)).trans c1, (World.cell?_alloc_lt _ _ _ (by show b < _; omega)).trans c2, (World.cell?_alloc_lt _ _ _ (by show b < _; omega)).trans c3, (World.cell?_alloc_lt _ _ _ (by show b < _; omega)).trans c4, (World.cell?_alloc_lt _ _ _ (by show b < _; omega)).trans c5⟩
      clear hK K
      (try simp only [Act.put, List.setIfInBounds_toArray, List.set_cons_zero, List.set_cons_succ])
      refine wpAnyH_ready (rs := [14]) (by kernel_rfl) (by simp) ?_
      refine AllReadyH.cons (o := { dst := some 25, op := Go.Op.call { callee := Go.Callee.builtin Go.Builtin.append, args := #[Go.Operand.tmp 11, Go.Operand.tmp 24], argTypes := #[30, 30] }, type := 30, pos := "law.go:19", after := #[{ on := 0, ground := Go.Ground.data }, { on := 13, ground := Go.Ground.data }, { on := 11, ground := Go.Ground.chain }], guard := none }) rfl (fun K hK => ?_) AllReadyH.nil
      refine step_app _ (by rfl) stPlaces _ _ (by rfl) w.heap.size _ k _ (by rfl) (own_below HO4.out ((Below.refl _ _).alloc (Nat.le_refl _) (.cells #[.bool u, .int .i64 a, .int .u64 (q : Int), .int .i64 p, .bool st, .int .u32 (s : Int)] 67))) (w4.heap.size + 1) _ 1 [.bool u, .int .i64 a, .int .u64 (q : Int), .int .i64 p, .bool st, .int .u32 (s : Int)] (by rfl) (litN6 w4 #[.bool u, .int .i64 a, .int .u64 (q : Int), .int .i64 p, .bool st, .int .u32 (s : Int)] _ rfl) (by simp [Value.oneCell']) (by omega) (by simp; omega) ?_
      intro v2 w2 hown2 hgr2 hat2 hbel2
      clear hgr2 hat2
      refine hK.out _ _ ?_ (fun hHeld => ?_)
      · (try dsimp only)
        obtain ⟨c0, c1, c2, c3, c4, c5⟩ := hHeld
        obtain ⟨hcc, _⟩ := bcell hbel2
        exact ⟨(hcc _ _ (by omega)).trans c0, (hcc _ _ (by omega)).trans c1, (hcc _ _ (by omega)).trans c2, (hcc _ _ (by omega)).trans c3, (hcc _ _ (by omega)).trans c4, (hcc _ _ (by omega)).trans c5⟩
      clear hK K
      (try simp only [Act.put, List.setIfInBounds_toArray, List.set_cons_zero, List.set_cons_succ])
      refine wpAnyH_take (i := 15) (oi := { dst := some 3, op := Go.Op.assign (Go.Operand.tmp 25), type := 30, pos := "law.go:19", after := #[{ on := 14, ground := Go.Ground.data }, { on := 14, ground := Go.Ground.chain }, { on := 0, ground := Go.Ground.phase }, { on := 1, ground := Go.Ground.phase }, { on := 2, ground := Go.Ground.phase }, { on := 3, ground := Go.Ground.phase }, { on := 4, ground := Go.Ground.phase }, { on := 5, ground := Go.Ground.phase }, { on := 6, ground := Go.Ground.phase }, { on := 7, ground := Go.Ground.phase }, { on := 8, ground := Go.Ground.phase }, { on := 9, ground := Go.Ground.phase }, { on := 10, ground := Go.Ground.phase }, { on := 11, ground := Go.Ground.phase }, { on := 12, ground := Go.Ground.phase }, { on := 13, ground := Go.Ground.phase }, { on := 14, ground := Go.Ground.phase }], guard := none }) (v := ?_) rfl (by kernel_rfl) (by kernel_rfl) (by kernel_rfl) (fun _ _ _ h => h) (Or.inl ⟨by rfl, ?_⟩) (by assumption) ?_
      rotate_left
      · intro w hSw
        (try dsimp only at hSw)
        go_simp
        try with_reducible rfl
      (try simp only [Act.put, List.setIfInBounds_toArray, List.set_cons_zero, List.set_cons_succ])
      refine wpAnyH_done (by kernel_rfl) ?_ _
      have HO2 : Hid (w2.ownsRow w.heap.size 67 6 v2 (k + 1) (plc (listP f (k + 1)))) := by
        rw [HX.out]; exact hown2
      have HB2 : Hid (Below w.heap.size w w2) := (HB4.out.alloc (by omega) _).trans hbel2
      clear hown2 hbel2
      go_wp2
      go_roundw
      case rel => exact ⟨k + 1, by omega, by go_num, HO2.out, HB2.out⟩
      case measure => simp [intOf]; omega
    · have : k = n := by omega
      subst this
      go_wp2
      go_ret
      exact ⟨_, rfl, RowOf.of_own HO.out, HB.out⟩

set_option maxHeartbeats 3200000 in
theorem law10_From {f : Nat → Pl} {n : Nat} {y : Value} {w : World} {B : Nat} (hn : n ≤ 1000000) (hv : PlRow w B y n f) (hB : B ≤ w.heap.size) :
    Calls Try.prog 16 #[y] w (Gives 74 n f id w) := by
  obtain ⟨A, cap, rfl, h1, h2, h3⟩ := hv
  have HC := Lib.hid h3
  have HCAP := Lib.hid h1
  unfold maxLen at h2
  clear h3
  go_enter Try.func16, Try.ntmps16
  go_wp2
  go_loopw [3, 4] (fun out i wr => ∃ k : Nat, k ≤ n ∧ i = .int .i64 k ∧ Hid (wr.ownsRow w.heap.size 74 6 out k (plc (listP f k))) ∧ Hid (Below w.heap.size w wr)) (fun _ i _ => n - (intOf i).toNat)
  case atStart => exact ⟨0, by omega, rfl, ⟨by simp [plc, listP], .inl ⟨rfl, rfl⟩⟩, Below.refl _ _⟩
  case round =>
    obtain ⟨k, hk, rfl, HO, HB⟩ := hrel
    have hzw := HB.out.size
    by_cases hlt : k < n
    · obtain ⟨b, off, rfl, hb, hc⟩ := HC.out (by omega)
      have g0 : (0 : Int) ≤ (k : Int) := Int.natCast_nonneg _
      have g1 : (k : Int) < (n : Int) := by omega
      have hcx := (hc k hlt).keep (w' := wr) fun p hp => HB.out.cell (by rw [hp]; omega)
      have HX : Hid (∀ x, f k = x → plc (listP f (k + 1)) = plc (listP f k) ++ x.cells) := fun x hx => by
        rw [listP_succ, plc_append, plc_one1, ← hx]
      obtain ⟨x, hx⟩ : ∃ x, x = f k := ⟨_, rfl⟩
      rw [← hx] at hcx HX
      have HX := Lib.hid (HX.out x rfl)
      clear hx
      obtain ⟨u, ⟨a, q, p, st, s⟩⟩ := x
      obtain ⟨c0', c1', c2', c3', c4', c5'⟩ := hcx
      have c0 : wr.cell? ⟨b, off + k * 6, none⟩ = some (.bool u) := c0'
      have c1 : wr.cell? ⟨b, off + k * 6 + 1, none⟩ = some (.int .i64 a) := c1'
      have c2 : wr.cell? ⟨b, off + k * 6 + 2, none⟩ = some (.int .u64 (q : Int)) := c2'
      have c3 : wr.cell? ⟨b, off + k * 6 + 3, none⟩ = some (.int .i64 p) := c3'
      have c4 : wr.cell? ⟨b, off + k * 6 + 4, none⟩ = some (.bool st) := c4'
      have c5 : wr.cell? ⟨b, off + k * 6 + 5, none⟩ = some (.int .u32 (s : Int)) := c5'
      clear c0' c1' c2' c3' c4' c5'
      have hbr : b < wr.heap.size := by omega
      have hbw : b < w.heap.size := by omega
      have HTO := Lib.hid fun W => law9_From a (q : Int) p st (s : Int) W
      clear hc HC
      go_wp2_with fail
      refine wp_region_held_drew (S := fun w' => w'.cell? ⟨b, off + k * 6, none⟩ = some (.bool u) ∧ w'.cell? ⟨b, off + k * 6 + 1, none⟩ = some (.int .i64 a) ∧ w'.cell? ⟨b, off + k * 6 + 2, none⟩ = some (.int .u64 (q : Int)) ∧ w'.cell? ⟨b, off + k * 6 + 3, none⟩ = some (.int .i64 p) ∧ w'.cell? ⟨b, off + k * 6 + 4, none⟩ = some (.bool st) ∧ w'.cell? ⟨b, off + k * 6 + 5, none⟩ = some (.int .u32 (s : Int))) (by kernel_rfl) ?_ (fun hHeld => ?_)
      · exact ⟨c0, c1, c2, c3, c4, c5⟩
      refine wpAnyH_take (i := 0) (oi := { dst := some 11, op := Go.Op.move (Go.Operand.tmp 3), type := 22, pos := "law.go:27", after := #[], guard := none }) (v := ?_) rfl (by kernel_rfl) (by kernel_rfl) (by kernel_rfl) (fun _ _ _ h => h) (Or.inl ⟨by rfl, ?_⟩) (by assumption) ?_
      rotate_left
      · intro w hSw
        (try dsimp only at hSw)
        go_simp
        try with_reducible rfl
      (try simp only [Act.put, List.setIfInBounds_toArray, List.set_cons_zero, List.set_cons_succ])
      refine wpAnyH_take (i := 1) (oi := { dst := some 12, op := Go.Op.move (Go.Operand.tmp 0), type := 30, pos := "law.go:27", after := #[], guard := none }) (v := ?_) rfl (by kernel_rfl) (by kernel_rfl) (by kernel_rfl) (fun _ _ _ h => h) (Or.inl ⟨by rfl, ?_⟩) (by assumption) ?_
      rotate_left
      · intro w hSw
        (try dsimp only at hSw)
        go_simp
        try with_reducible rfl
      (try simp only [Act.put, List.setIfInBounds_toArray, List.set_cons_zero, List.set_cons_succ])
      refine wpAnyH_take (i := 2) (oi := { dst := some 13, op := Go.Op.move (Go.Operand.tmp 4), type := 3, pos := "law.go:27", after := #[], guard := none }) (v := ?_) rfl (by kernel_rfl) (by kernel_rfl) (by kernel_rfl) (fun _ _ _ h => h) (Or.inl ⟨by rfl, ?_⟩) (by assumption) ?_
      rotate_left
      · intro w hSw
        (try dsimp only at hSw)
        go_simp
        try with_reducible rfl
      (try simp only [Act.put, List.setIfInBounds_toArray, List.set_cons_zero, List.set_cons_succ])
      refine wpAnyH_take (i := 3) (oi := { dst := some 14, op := Go.Op.indexAddr 30 (Go.Operand.tmp 12) (Go.Operand.tmp 13), type := 0, pos := "law.go:27", after := #[{ on := 1, ground := Go.Ground.data }, { on := 2, ground := Go.Ground.data }], guard := none }) (v := ?_) rfl (by kernel_rfl) (by kernel_rfl) (by kernel_rfl) (fun _ _ _ h => h) (Or.inl ⟨by rfl, ?_⟩) (by assumption) ?_
      rotate_left
      · intro w hSw
        (try dsimp only at hSw)
        go_simp
        try with_reducible rfl
      (try simp only [Act.put, List.setIfInBounds_toArray, List.set_cons_zero, List.set_cons_succ])
      refine wpAnyH_take (i := 4) (oi := { dst := some 15, op := Go.Op.fieldAddr 67 (Go.Operand.tmp 14) 0, type := 0, pos := "law.go:27", after := #[{ on := 3, ground := Go.Ground.data }], guard := none }) (v := ?_) rfl (by kernel_rfl) (by kernel_rfl) (by kernel_rfl) (fun _ _ _ h => h) (Or.inl ⟨by rfl, ?_⟩) (by assumption) ?_
      rotate_left
      · intro w hSw
        (try dsimp only at hSw)
        go_simp
        try with_reducible rfl
      (try simp only [Act.put, List.setIfInBounds_toArray, List.set_cons_zero, List.set_cons_succ])
      refine wpAnyH_take (i := 5) (oi := { dst := some 16, op := Go.Op.load 4 (Go.Operand.tmp 15), type := 4, pos := "law.go:27", after := #[{ on := 4, ground := Go.Ground.data }], guard := none }) (v := ?_) rfl (by kernel_rfl) (by kernel_rfl) (by kernel_rfl) (fun _ _ _ h => h) (Or.inl ⟨by rfl, ?_⟩) (by assumption) ?_
      rotate_left
      · intro w hSw
        (try dsimp only at hSw)
        go_simp
        try with_reducible rfl
      (try simp only [Act.put, List.setIfInBounds_toArray, List.set_cons_zero, List.set_cons_succ])
      refine wpAnyH_take (i := 6) (oi := { dst := some 17, op := Go.Op.move (Go.Operand.tmp 0), type := 30, pos := "law.go:27", after := #[], guard := none }) (v := ?_) rfl (by kernel_rfl) (by kernel_rfl) (by kernel_rfl) (fun _ _ _ h => h) (Or.inl ⟨by rfl, ?_⟩) (by assumption) ?_
      rotate_left
      · intro w hSw
        (try dsimp only at hSw)
        go_simp
        try with_reducible rfl
      (try simp only [Act.put, List.setIfInBounds_toArray, List.set_cons_zero, List.set_cons_succ])
      refine wpAnyH_take (i := 7) (oi := { dst := some 18, op := Go.Op.move (Go.Operand.tmp 4), type := 3, pos := "law.go:27", after := #[], guard := none }) (v := ?_) rfl (by kernel_rfl) (by kernel_rfl) (by kernel_rfl) (fun _ _ _ h => h) (Or.inl ⟨by rfl, ?_⟩) (by assumption) ?_
      rotate_left
      · intro w hSw
        (try dsimp only at hSw)
        go_simp
        try with_reducible rfl
      (try simp only [Act.put, List.setIfInBounds_toArray, List.set_cons_zero, List.set_cons_succ])
      refine wpAnyH_take (i := 8) (oi := { dst := some 19, op := Go.Op.indexAddr 30 (Go.Operand.tmp 17) (Go.Operand.tmp 18), type := 0, pos := "law.go:27", after := #[{ on := 6, ground := Go.Ground.data }, { on := 7, ground := Go.Ground.data }], guard := none }) (v := ?_) rfl (by kernel_rfl) (by kernel_rfl) (by kernel_rfl) (fun _ _ _ h => h) (Or.inl ⟨by rfl, ?_⟩) (by assumption) ?_
      rotate_left
      · intro w hSw
        (try dsimp only at hSw)
        go_simp
        try with_reducible rfl
      (try simp only [Act.put, List.setIfInBounds_toArray, List.set_cons_zero, List.set_cons_succ])
      refine wpAnyH_take (i := 9) (oi := { dst := some 20, op := Go.Op.fieldAddr 67 (Go.Operand.tmp 19) 1, type := 0, pos := "law.go:27", after := #[{ on := 8, ground := Go.Ground.data }], guard := none }) (v := ?_) rfl (by kernel_rfl) (by kernel_rfl) (by kernel_rfl) (fun _ _ _ h => h) (Or.inl ⟨by rfl, ?_⟩) (by assumption) ?_
      rotate_left
      · intro w hSw
        (try dsimp only at hSw)
        go_simp
        try with_reducible rfl
      (try simp only [Act.put, List.setIfInBounds_toArray, List.set_cons_zero, List.set_cons_succ])
      refine wpAnyH_take (i := 10) (oi := { dst := some 21, op := Go.Op.load 65 (Go.Operand.tmp 20), type := 65, pos := "law.go:27", after := #[{ on := 9, ground := Go.Ground.data }], guard := none }) (v := ?_) rfl (by kernel_rfl) (by kernel_rfl) (by kernel_rfl) (fun _ _ _ h => h) (Or.inl ⟨by rfl, ?_⟩) (by assumption) ?_
      rotate_left
      · intro w hSw
        (try dsimp only at hSw)
        go_simp
        try with_reducible rfl
      (try simp only [Act.put, List.setIfInBounds_toArray, List.set_cons_zero, List.set_cons_succ])
      refine wpAnyH_ready (rs := [11]) (by kernel_rfl) (by simp) ?_
      refine AllReadyH.cons (o := { dst := some 22, op := Go.Op.call { callee := Go.Callee.value (Go.Operand.func 36), args := #[Go.Operand.tmp 21], argTypes := #[65] }, type := 72, pos := "law.go:27", after := #[{ on := 10, ground := Go.Ground.data }], guard := none }) rfl (fun K hK => ?_) AllReadyH.nil
      go_simp
      refine Calls.mono (HTO.out _) ?_
      rintro e w4 ⟨rfl, hb4⟩
      have hbd : Below wr.heap.size wr w4 := ((Below.refl wr.heap.size wr).drew).trans hb4
      have HO4 := Lib.hid (own_below HO.out hbd)
      have HB4 := Lib.hid (HB.out.trans (hbd.mono hzw))
      have hz4 := hbd.size
      refine hK.out _ _ ?_ (fun hHeld => ?_)
      · (try dsimp only)
        obtain ⟨c0, c1, c2, c3, c4, c5⟩ := hHeld
        obtain ⟨hcc, _⟩ := bcell hb4
        exact ⟨(hcc _ _ (by go_size)).trans c0, (hcc _ _ (by go_size)).trans c1, (hcc _ _ (by go_size)).trans c2, (hcc _ _ (by go_size)).trans c3, (hcc _ _ (by go_size)).trans c4, (hcc _ _ (by go_size)).trans c5⟩
      clear hK K
      (try simp only [Act.put, List.setIfInBounds_toArray, List.set_cons_zero, List.set_cons_succ])
      refine wpAnyH_take (i := 12) (oi := { dst := some 23, op := Go.Op.build 74 #[(0, Go.Operand.tmp 16), (1, Go.Operand.tmp 22)], type := 74, pos := "law.go:27", after := #[{ on := 5, ground := Go.Ground.data }, { on := 11, ground := Go.Ground.data }], guard := none }) (v := ?_) rfl (by kernel_rfl) (by kernel_rfl) (by kernel_rfl) (fun _ _ _ h => h) (Or.inl ⟨by rfl, ?_⟩) (by assumption) ?_
      rotate_left
      · intro w hSw
        (try dsimp only at hSw)
        go_simp
        try with_reducible rfl
      (try simp only [Act.put, List.setIfInBounds_toArray, List.set_cons_zero, List.set_cons_succ])
      refine wpAnyH_ready (rs := [13]) (by kernel_rfl) (by simp) ?_
      refine AllReadyH.cons (o := { dst := some 24, op := Go.Op.buildSlice 22 1 #[(0, Go.Operand.tmp 23)], type := 22, pos := "law.go:27", after := #[{ on := 12, ground := Go.Ground.data }], guard := none }) rfl (fun K hK => ?_) AllReadyH.nil
      go_simp

      refine hK.out _ _ ?_ (fun hHeld => ?_)
      · (try dsimp only)
        obtain ⟨c0, c1, c2, c3, c4, c5⟩ := hHeld
        exact ⟨(World.cell?_alloc_lt _ _ _ (by show b < _; omega)).trans c0, (World.cell?_alloc_lt _ _ _ (by show b < _; omega)).trans c1, (World.cell?_alloc_lt _ _ _ (by show b < _; omega)).trans c2, (World.cell?_alloc_lt _ _ _ (by show b < _; omega)).trans c3, (World.cell?_alloc_lt _ _ _ (by show b < _; omega)).trans c4, (World.cell?_alloc_lt _ _ _ (by show b < _; omega)).trans c5⟩
      clear hK K
      (try simp only [Act.put, List.setIfInBounds_toArray, List.set_cons_zero, List.set_cons_succ])
      refine wpAnyH_ready (rs := [14]) (by kernel_rfl) (by simp) ?_
      refine AllReadyH.cons (o := { dst := some 25, op := Go.Op.call { callee := Go.Callee.builtin Go.Builtin.append, args := #[Go.Operand.tmp 11, Go.Operand.tmp 24], argTypes := #[22, 22] }, type := 22, pos := "law.go:27", after := #[{ on := 0, ground := Go.Ground.data }, { on := 13, ground := Go.Ground.data }, { on := 11, ground := Go.Ground.chain }], guard := none }) rfl (fun K hK => ?_) AllReadyH.nil
      refine step_app _ (by rfl) stPlacesR _ _ (by rfl) w.heap.size _ k _ (by rfl) (own_below HO4.out ((Below.refl _ _).alloc (Nat.le_refl _) (.cells #[.bool u, .int .i64 a, .int .u64 (q : Int), .int .i64 p, .bool st, .int .u32 (s : Int)] 74))) (w4.heap.size + 1) _ 1 [.bool u, .int .i64 a, .int .u64 (q : Int), .int .i64 p, .bool st, .int .u32 (s : Int)] (by rfl) (litN6 w4 #[.bool u, .int .i64 a, .int .u64 (q : Int), .int .i64 p, .bool st, .int .u32 (s : Int)] _ rfl) (by simp [Value.oneCell']) (by omega) (by simp; omega) ?_
      intro v2 w2 hown2 hgr2 hat2 hbel2
      clear hgr2 hat2
      refine hK.out _ _ ?_ (fun hHeld => ?_)
      · (try dsimp only)
        obtain ⟨c0, c1, c2, c3, c4, c5⟩ := hHeld
        obtain ⟨hcc, _⟩ := bcell hbel2
        exact ⟨(hcc _ _ (by omega)).trans c0, (hcc _ _ (by omega)).trans c1, (hcc _ _ (by omega)).trans c2, (hcc _ _ (by omega)).trans c3, (hcc _ _ (by omega)).trans c4, (hcc _ _ (by omega)).trans c5⟩
      clear hK K
      (try simp only [Act.put, List.setIfInBounds_toArray, List.set_cons_zero, List.set_cons_succ])
      refine wpAnyH_take (i := 15) (oi := { dst := some 3, op := Go.Op.assign (Go.Operand.tmp 25), type := 22, pos := "law.go:27", after := #[{ on := 14, ground := Go.Ground.data }, { on := 14, ground := Go.Ground.chain }, { on := 0, ground := Go.Ground.phase }, { on := 1, ground := Go.Ground.phase }, { on := 2, ground := Go.Ground.phase }, { on := 3, ground := Go.Ground.phase }, { on := 4, ground := Go.Ground.phase }, { on := 5, ground := Go.Ground.phase }, { on := 6, ground := Go.Ground.phase }, { on := 7, ground := Go.Ground.phase }, { on := 8, ground := Go.Ground.phase }, { on := 9, ground := Go.Ground.phase }, { on := 10, ground := Go.Ground.phase }, { on := 11, ground := Go.Ground.phase }, { on := 12, ground := Go.Ground.phase }, { on := 13, ground := Go.Ground.phase }, { on := 14, ground := Go.Ground.phase }], guard := none }) (v := ?_) rfl (by kernel_rfl) (by kernel_rfl) (by kernel_rfl) (fun _ _ _ h => h) (Or.inl ⟨by rfl, ?_⟩) (by assumption) ?_
      rotate_left
      · intro w hSw
        (try dsimp only at hSw)
        go_simp
        try with_reducible rfl
      (try simp only [Act.put, List.setIfInBounds_toArray, List.set_cons_zero, List.set_cons_succ])
      refine wpAnyH_done (by kernel_rfl) ?_ _
      have HO2 : Hid (w2.ownsRow w.heap.size 74 6 v2 (k + 1) (plc (listP f (k + 1)))) := by
        rw [HX.out]; exact hown2
      have HB2 : Hid (Below w.heap.size w w2) := (HB4.out.alloc (by omega) _).trans hbel2
      clear hown2 hbel2
      go_wp2
      go_roundw
      case rel => exact ⟨k + 1, by omega, by go_num, HO2.out, HB2.out⟩
      case measure => simp [intOf]; omega
    · have : k = n := by omega
      subst this
      go_wp2
      go_ret
      exact ⟨_, rfl, RowOf.of_own HO.out, HB.out⟩

set_option maxHeartbeats 3200000 in
theorem ref10_SameEq {f : Nat → Pl} {n : Nat} {y z : Value} {w : World} {B B2 : Nat} (hy : PlRow w B y n f) (hz : PlRow w B2 z n f) :
    Calls Try.prog 15 #[y, z] w (Says (.bool true) w) := by
  obtain ⟨A, cap, rfl, h1, h2, h3⟩ := hy
  obtain ⟨A2, cap2, rfl, h4, h5, h6⟩ := hz
  have HC := Lib.hid h3
  have HD := Lib.hid h6
  unfold maxLen at h2 h5
  have hne : ((n : Int) != (n : Int)) = false := by simp
  clear h3 h6
  go_enter Try.func15, Try.ntmps15
  go_wp2
  clear hne
  go_loopw [5] (fun i wr => ∃ k : Nat, k ≤ n ∧ i = .int .i64 k ∧ ∃ m, wr = w.drewN m) (fun i _ => n - (intOf i).toNat)
  case atStart => exact ⟨0, by omega, rfl, 0, rfl⟩
  case round =>
    obtain ⟨k, hk, rfl, m, rfl⟩ := hrel
    by_cases hlt : k < n
    · obtain ⟨b, off, rfl, hb, hc⟩ := HC.out (by omega)
      obtain ⟨b2, off2, rfl, hb2, hc2⟩ := HD.out (by omega)
      have g0 : (0 : Int) ≤ (k : Int) := Int.natCast_nonneg _
      have g1 : (k : Int) < (n : Int) := by omega
      have hcx := hc k hlt
      have hdx := hc2 k hlt
      obtain ⟨x, hx⟩ : ∃ x, x = f k := ⟨_, rfl⟩
      rw [← hx] at hcx hdx
      clear hx
      obtain ⟨u, ⟨a, q, p, st, s⟩⟩ := x
      obtain ⟨c0', c1', c2', c3', c4', c5'⟩ := hcx
      have c0 : (w.drewN m).cell? ⟨b, off + k * 6, none⟩ = some (.bool u) := c0'
      have c1 : (w.drewN m).cell? ⟨b, off + k * 6 + 1, none⟩ = some (.int .i64 a) := c1'
      have c2 : (w.drewN m).cell? ⟨b, off + k * 6 + 2, none⟩ = some (.int .u64 (q : Int)) := c2'
      have c3 : (w.drewN m).cell? ⟨b, off + k * 6 + 3, none⟩ = some (.int .i64 p) := c3'
      have c4 : (w.drewN m).cell? ⟨b, off + k * 6 + 4, none⟩ = some (.bool st) := c4'
      have c5 : (w.drewN m).cell? ⟨b, off + k * 6 + 5, none⟩ = some (.int .u32 (s : Int)) := c5'
      clear c0' c1' c2' c3' c4' c5'
      obtain ⟨d0', d1', d2', d3', d4', d5'⟩ := hdx
      have d0 : (w.drewN m).cell? ⟨b2, off2 + k * 6, none⟩ = some (.bool u) := d0'
      have d1 : (w.drewN m).cell? ⟨b2, off2 + k * 6 + 1, none⟩ = some (.int .i64 a) := d1'
      have d2 : (w.drewN m).cell? ⟨b2, off2 + k * 6 + 2, none⟩ = some (.int .u64 (q : Int)) := d2'
      have d3 : (w.drewN m).cell? ⟨b2, off2 + k * 6 + 3, none⟩ = some (.int .i64 p) := d3'
      have d4 : (w.drewN m).cell? ⟨b2, off2 + k * 6 + 4, none⟩ = some (.bool st) := d4'
      have d5 : (w.drewN m).cell? ⟨b2, off2 + k * 6 + 5, none⟩ = some (.int .u32 (s : Int)) := d5'
      clear d0' d1' d2' d3' d4' d5'
      clear hc HC hc2 HD
      go_wp2_with fail
      refine wp_region_held_drew (S := fun w' => w'.cell? ⟨b, off + k * 6, none⟩ = some (.bool u) ∧ w'.cell? ⟨b, off + k * 6 + 1, none⟩ = some (.int .i64 a) ∧ w'.cell? ⟨b, off + k * 6 + 2, none⟩ = some (.int .u64 (q : Int)) ∧ w'.cell? ⟨b, off + k * 6 + 3, none⟩ = some (.int .i64 p) ∧ w'.cell? ⟨b, off + k * 6 + 4, none⟩ = some (.bool st) ∧ w'.cell? ⟨b, off + k * 6 + 5, none⟩ = some (.int .u32 (s : Int)) ∧ w'.cell? ⟨b2, off2 + k * 6, none⟩ = some (.bool u) ∧ w'.cell? ⟨b2, off2 + k * 6 + 1, none⟩ = some (.int .i64 a) ∧ w'.cell? ⟨b2, off2 + k * 6 + 2, none⟩ = some (.int .u64 (q : Int)) ∧ w'.cell? ⟨b2, off2 + k * 6 + 3, none⟩ = some (.int .i64 p) ∧ w'.cell? ⟨b2, off2 + k * 6 + 4, none⟩ = some (.bool st) ∧ w'.cell? ⟨b2, off2 + k * 6 + 5, none⟩ = some (.int .u32 (s : Int))) (by kernel_rfl) ?_ (fun hHeld => ?_)
      · exact ⟨c0, c1, c2, c3, c4, c5, d0, d1, d2, d3, d4, d5⟩
      refine wpAnyH_take (i := 0) (oi := { dst := some 17, op := Go.Op.move (Go.Operand.tmp 0), type := 22, pos := "ref.go:40", after := #[], guard := none }) (v := ?_) rfl (by kernel_rfl) (by kernel_rfl) (by kernel_rfl) (fun _ _ _ h => h) (Or.inl ⟨by rfl, ?_⟩) (by assumption) ?_
      rotate_left
      · intro w hSw
        (try dsimp only at hSw)
        go_simp
        try with_reducible rfl
      (try simp only [Act.put, List.setIfInBounds_toArray, List.set_cons_zero, List.set_cons_succ])
      refine wpAnyH_take (i := 1) (oi := { dst := some 18, op := Go.Op.move (Go.Operand.tmp 5), type := 3, pos := "ref.go:40", after := #[], guard := none }) (v := ?_) rfl (by kernel_rfl) (by kernel_rfl) (by kernel_rfl) (fun _ _ _ h => h) (Or.inl ⟨by rfl, ?_⟩) (by assumption) ?_
      rotate_left
      · intro w hSw
        (try dsimp only at hSw)
        go_simp
        try with_reducible rfl
      (try simp only [Act.put, List.setIfInBounds_toArray, List.set_cons_zero, List.set_cons_succ])
      refine wpAnyH_take (i := 2) (oi := { dst := some 19, op := Go.Op.indexAddr 22 (Go.Operand.tmp 17) (Go.Operand.tmp 18), type := 0, pos := "ref.go:40", after := #[{ on := 0, ground := Go.Ground.data }, { on := 1, ground := Go.Ground.data }], guard := none }) (v := ?_) rfl (by kernel_rfl) (by kernel_rfl) (by kernel_rfl) (fun _ _ _ h => h) (Or.inl ⟨by rfl, ?_⟩) (by assumption) ?_
      rotate_left
      · intro w hSw
        (try dsimp only at hSw)
        go_simp
        try with_reducible rfl
      (try simp only [Act.put, List.setIfInBounds_toArray, List.set_cons_zero, List.set_cons_succ])
      refine wpAnyH_take (i := 3) (oi := { dst := some 20, op := Go.Op.load 74 (Go.Operand.tmp 19), type := 74, pos := "ref.go:40", after := #[{ on := 2, ground := Go.Ground.data }], guard := none }) (v := ?_) rfl (by kernel_rfl) (by kernel_rfl) (by kernel_rfl) (fun _ _ _ h => h) (Or.inl ⟨by rfl, ?_⟩) (by assumption) ?_
      rotate_left
      · intro w hSw
        (try dsimp only at hSw)
        go_simp
        try with_reducible rfl
      (try simp only [Act.put, List.setIfInBounds_toArray, List.set_cons_zero, List.set_cons_succ])
      refine wpAnyH_take (i := 4) (oi := { dst := some 21, op := Go.Op.move (Go.Operand.tmp 1), type := 22, pos := "ref.go:40", after := #[], guard := none }) (v := ?_) rfl (by kernel_rfl) (by kernel_rfl) (by kernel_rfl) (fun _ _ _ h => h) (Or.inl ⟨by rfl, ?_⟩) (by assumption) ?_
      rotate_left
      · intro w hSw
        (try dsimp only at hSw)
        go_simp
        try with_reducible rfl
      (try simp only [Act.put, List.setIfInBounds_toArray, List.set_cons_zero, List.set_cons_succ])
      refine wpAnyH_take (i := 5) (oi := { dst := some 22, op := Go.Op.move (Go.Operand.tmp 5), type := 3, pos := "ref.go:40", after := #[], guard := none }) (v := ?_) rfl (by kernel_rfl) (by kernel_rfl) (by kernel_rfl) (fun _ _ _ h => h) (Or.inl ⟨by rfl, ?_⟩) (by assumption) ?_
      rotate_left
      · intro w hSw
        (try dsimp only at hSw)
        go_simp
        try with_reducible rfl
      (try simp only [Act.put, List.setIfInBounds_toArray, List.set_cons_zero, List.set_cons_succ])
      refine wpAnyH_take (i := 6) (oi := { dst := some 23, op := Go.Op.indexAddr 22 (Go.Operand.tmp 21) (Go.Operand.tmp 22), type := 0, pos := "ref.go:40", after := #[{ on := 4, ground := Go.Ground.data }, { on := 5, ground := Go.Ground.data }], guard := none }) (v := ?_) rfl (by kernel_rfl) (by kernel_rfl) (by kernel_rfl) (fun _ _ _ h => h) (Or.inl ⟨by rfl, ?_⟩) (by assumption) ?_
      rotate_left
      · intro w hSw
        (try dsimp only at hSw)
        go_simp
        try with_reducible rfl
      (try simp only [Act.put, List.setIfInBounds_toArray, List.set_cons_zero, List.set_cons_succ])
      refine wpAnyH_take (i := 7) (oi := { dst := some 24, op := Go.Op.load 74 (Go.Operand.tmp 23), type := 74, pos := "ref.go:40", after := #[{ on := 6, ground := Go.Ground.data }], guard := none }) (v := ?_) rfl (by kernel_rfl) (by kernel_rfl) (by kernel_rfl) (fun _ _ _ h => h) (Or.inl ⟨by rfl, ?_⟩) (by assumption) ?_
      rotate_left
      · intro w hSw
        (try dsimp only at hSw)
        go_simp
        try with_reducible rfl
      (try simp only [Act.put, List.setIfInBounds_toArray, List.set_cons_zero, List.set_cons_succ])
      refine wpAnyH_take (i := 8) (oi := { dst := some 25, op := Go.Op.binOp Go.BinOp.neq 74 (Go.Operand.tmp 20) (Go.Operand.tmp 24) 74, type := 4, pos := "ref.go:40", after := #[{ on := 3, ground := Go.Ground.data }, { on := 7, ground := Go.Ground.data }], guard := none }) (v := ?_) rfl (by kernel_rfl) (by kernel_rfl) (by kernel_rfl) (fun _ _ _ h => h) (Or.inl ⟨by rfl, ?_⟩) (by assumption) ?_
      rotate_left
      · intro w hSw
        (try dsimp only at hSw)
        go_simp
        try with_reducible rfl
      (try simp only [Act.put, List.setIfInBounds_toArray, List.set_cons_zero, List.set_cons_succ])
      refine wpAnyH_done (by kernel_rfl) ?_ _
      go_wp2
      go_roundw
      case rel => exact ⟨k + 1, by omega, by go_num, _, rfl⟩
      case measure => simp [intOf]; omega
    · have : k = n := by omega
      subst this
      go_wp2
      go_ret
      exact ⟨rfl, below_drewN (Below.refl _ _) _⟩
end Go.Proofs.Ytnhooknpknkjkaa
