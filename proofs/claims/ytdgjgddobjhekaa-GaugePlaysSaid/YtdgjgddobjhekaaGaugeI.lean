/-
  Gauges, the document's own: Open, Fill. No statement is proved here.
-/
import Derived.Test.YtdgjgddobjhekaaGaugeZ
import Derived.Deep.RegionHeld3
import Derived.Deep.DeepCutAuto
set_option linter.unusedVariables false
namespace Go.Proofs.Ytdgjgddobjhekaa
open Go.RowKit

set_option maxHeartbeats 1600000 in
theorem ref5_Open (lv mo ro last : Nat) (hl : lv < 18446744073709551616) (w : World) :
    Calls Try.prog 24 #[.agg #[.float .f64 lv, .float .f64 mo, .float .f64 ro, .int .u32 (last : Int)]] w (Says (.bool (openW lv)) w) := by
  have HK := Lib.hid fun W => ref5_Kind lv hl W
  unfold openW
  generalize kindW lv = k at *
  clear hl
  by_cases h5 : k = 5
  · subst h5
    go_enter Try.func24, Try.ntmps24
    go_wp2_with fail
    refine (HK.out _).mono ?_
    rintro e w1 ⟨rfl, hb⟩
    have HB1 : Hid (Below w.heap.size w w1) := Below.trans (by (repeat' (first | (with_reducible exact Below.refl _ _) | (with_reducible assumption) | (with_reducible refine Below.setCell ?_ ?_ _) | (with_reducible refine Below.alloc ?_ ?_ _) | (with_reducible refine below_drewN ?_ _) | (with_reducible refine Below.drew ?_) | go_size))) (hb.mono (by go_size))
    have hz1 := hb.size
    simp only [World.size_alloc] at hz1
    go_wp2
    go_ret
    exact ⟨by simp, HB1.out⟩
  · have q5 : ((k : Int) == 5) = false := by simp; omega
    have hk5 : (k == 5) = false := by simpa using h5
    rw [hk5]
    by_cases h3 : k = 3
    · subst h3
      clear h5 hk5
      go_enter Try.func24, Try.ntmps24
      go_wp2_with fail
      refine (HK.out _).mono ?_
      rintro e w1 ⟨rfl, hb⟩
      have HB1 : Hid (Below w.heap.size w w1) := Below.trans (by (repeat' (first | (with_reducible exact Below.refl _ _) | (with_reducible assumption) | (with_reducible refine Below.setCell ?_ ?_ _) | (with_reducible refine Below.alloc ?_ ?_ _) | (with_reducible refine below_drewN ?_ _) | (with_reducible refine Below.drew ?_) | go_size))) (hb.mono (by go_size))
      have hz1 := hb.size
      simp only [World.size_alloc] at hz1
      have k0 : w1.cell? ⟨w.heap.size, 0, none⟩ = some (.float .f64 lv) := by rw [(bcell hb).1 _ _ (by simp)]; simp [go_sem]
      clear hb
      go_wp2_with fail
      refine (HK.out _).mono ?_
      rintro e w2 ⟨rfl, hb⟩
      have HB2 : Hid (Below w.heap.size w w2) := HB1.out.trans (hb.mono HB1.out.size)
      go_wp2
      go_ret
      exact ⟨by simp, HB2.out⟩
    · have q3 : ((k : Int) == 3) = false := by simp; omega
      have hk3 : (k == 3) = false := by simpa using h3
      rw [hk3]
      clear h5 hk5 h3 hk3
      go_enter Try.func24, Try.ntmps24
      go_wp2_with fail
      refine (HK.out _).mono ?_
      rintro e w1 ⟨rfl, hb⟩
      have HB1 : Hid (Below w.heap.size w w1) := Below.trans (by (repeat' (first | (with_reducible exact Below.refl _ _) | (with_reducible assumption) | (with_reducible refine Below.setCell ?_ ?_ _) | (with_reducible refine Below.alloc ?_ ?_ _) | (with_reducible refine below_drewN ?_ _) | (with_reducible refine Below.drew ?_) | go_size))) (hb.mono (by go_size))
      have hz1 := hb.size
      simp only [World.size_alloc] at hz1
      have k0 : w1.cell? ⟨w.heap.size, 0, none⟩ = some (.float .f64 lv) := by rw [(bcell hb).1 _ _ (by simp)]; simp [go_sem]
      clear hb
      go_wp2_with fail
      refine (HK.out _).mono ?_
      rintro e w2 ⟨rfl, hb⟩
      have HB2 : Hid (Below w.heap.size w w2) := HB1.out.trans (hb.mono HB1.out.size)
      go_wp2
      go_ret
      exact ⟨by simp, HB2.out⟩
set_option maxRecDepth 100000 in
set_option maxHeartbeats 6400000 in
theorem ref5_Fill (lv mo ro last now : Nat) (hl : lv < 18446744073709551616) (h1 : last < 4294967296) (h2 : now < 4294967296) (w : World) :
    Calls Try.prog 26 #[gV lv mo ro last, .int .u32 (now : Int)] w (Says (gV lv mo (fillW lv mo ro last now) now) w) := by
  unfold gV
  have hst := st_float
  have HO := Lib.hid fun W => ref5_Open lv mo ro last hl W
  have HA := Lib.hid fun W => ref4_Age now last h2 h1 W
  unfold fillW
  clear hl h1 h2
  cases ho : openW lv
  · rw [ho] at HO
    rw [if_neg (by simp)]
    generalize ageN now last = a at *
    clear ho
    cases hp : floatBits .mul .f64 lv (floatOfInt .f64 (a : Int)) with
    | none =>
      rw [room_none hp]
      go_enter Try.func26, Try.ntmps26
      go_wp2_with fail
      refine (HO.out _).mono ?_
      rintro e w1 ⟨rfl, hb⟩
      obtain ⟨hc1, hf1⟩ := bcell hb
      have hz1 : w.heap.size + 2 ≤ w1.heap.size := by have := hb.size; simp at this; omega
      have HB1 : Hid (Below w.heap.size w w1) := Below.trans (by (repeat' (first | (with_reducible exact Below.refl _ _) | (with_reducible assumption) | (with_reducible refine Below.setCell ?_ ?_ _) | (with_reducible refine Below.alloc ?_ ?_ _) | (with_reducible refine below_drewN ?_ _) | (with_reducible refine Below.drew ?_) | go_size))) (hb.mono (by go_size))
      have e0 : w1.cell? ⟨w.heap.size, 0, none⟩ = some (.float .f64 lv) := by rw [hc1 _ _ (by simp; omega)]; simp [go_sem]
      have e1 : w1.cell? ⟨w.heap.size, 1, none⟩ = some (.float .f64 mo) := by rw [hc1 _ _ (by simp; omega)]; simp [go_sem]
      have e2 : w1.cell? ⟨w.heap.size, 2, none⟩ = some (.float .f64 ro) := by rw [hc1 _ _ (by simp; omega)]; simp [go_sem]
      have e3 : w1.cell? ⟨w.heap.size, 3, none⟩ = some (.int .u32 (last : Int)) := by rw [hc1 _ _ (by simp; omega)]; simp [go_sem]
      have d0 : w1.cell? ⟨w.heap.size + 1, 0, none⟩ = some (.float .f64 0) := by rw [hc1 _ _ (by simp)]; simp [go_sem]
      have d1 : w1.cell? ⟨w.heap.size + 1, 1, none⟩ = some (.float .f64 0) := by rw [hc1 _ _ (by simp)]; simp [go_sem]
      have d2 : w1.cell? ⟨w.heap.size + 1, 2, none⟩ = some (.float .f64 0) := by rw [hc1 _ _ (by simp)]; simp [go_sem]
      have d3 : w1.cell? ⟨w.heap.size + 1, 3, none⟩ = some (.int .u32 0) := by rw [hc1 _ _ (by simp)]; simp [go_sem]
      have f0 : ∀ o, w1.frozen? ⟨w.heap.size, o, none⟩ = false := fun o => by rw [hf1 _ _ (by simp; omega)]; simp [go_sem]
      have f1 : ∀ o, w1.frozen? ⟨w.heap.size + 1, o, none⟩ = false := fun o => by rw [hf1 _ _ (by simp)]; simp [go_sem]
      clear hc1 hf1 hb
      obtain ⟨b, hb1, hb2, hrun⟩ := run_float_nan (P := Try.prog) w1.drew .mul 22 lv (floatOfInt .f64 (a : Int)) (.inr (.inr (.inl rfl))) hp
      obtain ⟨b2, hc1, hc2, hrun2⟩ := run_float_nan (P := Try.prog) w1.drew.drew .add 22 ro b (.inl rfl) (add_nan ro hb1)
      have q1 : (FloatKind.f64.format.order b2 mo == some .gt) = false := by rw [gt_bits, ltW_nan_r _ hc1]
      have q2 : (FloatKind.f64.format.order b2 0 == some .gt) = false := by rw [gt_bits, ltW_nan_r _ hc1]
      clear hb1 hb2 hc1 hc2 hp
      go_wp2_with fail
      refine wp_region_held_drew (S := fun w' => w'.cell? ⟨w.heap.size, 0, none⟩ = some (.float .f64 lv) ∧ w'.cell? ⟨w.heap.size, 1, none⟩ = some (.float .f64 mo) ∧ w'.cell? ⟨w.heap.size, 2, none⟩ = some (.float .f64 ro) ∧ w'.cell? ⟨w.heap.size, 3, none⟩ = some (.int .u32 (last : Int))) (by kernel_rfl) ?_ (fun hHeld => ?_)
      · exact ⟨e0, e1, e2, e3⟩
      refine wpAnyH_take (i := 0) (oi := { dst := some 9, op := Go.Op.fieldAddr 35 (Go.Operand.tmp 2) 0, type := 0, pos := "ref.go:86", after := #[], guard := none }) (v := ?_) rfl (by kernel_rfl) (by kernel_rfl) (by kernel_rfl) (fun _ _ _ h => h) (Or.inl ⟨by rfl, ?_⟩) (by assumption) ?_
      rotate_left
      · intro w hSw
        (try dsimp only at hSw)
        go_simp
        try with_reducible rfl
      (try simp only [Act.put, List.setIfInBounds_toArray, List.set_cons_zero, List.set_cons_succ])
      refine wpAnyH_take (i := 1) (oi := { dst := some 10, op := Go.Op.load 22 (Go.Operand.tmp 9), type := 22, pos := "ref.go:86", after := #[{ on := 0, ground := Go.Ground.data }], guard := none }) (v := ?_) rfl (by kernel_rfl) (by kernel_rfl) (by kernel_rfl) (fun _ _ _ h => h) (Or.inl ⟨by rfl, ?_⟩) (by assumption) ?_
      rotate_left
      · intro w hSw
        (try dsimp only at hSw)
        go_simp
        try with_reducible rfl
      (try simp only [Act.put, List.setIfInBounds_toArray, List.set_cons_zero, List.set_cons_succ])
      refine wpAnyH_take (i := 2) (oi := { dst := some 11, op := Go.Op.move (Go.Operand.tmp 1), type := 33, pos := "ref.go:86", after := #[], guard := none }) (v := ?_) rfl (by kernel_rfl) (by kernel_rfl) (by kernel_rfl) (fun _ _ _ h => h) (Or.inl ⟨by rfl, ?_⟩) (by assumption) ?_
      rotate_left
      · intro w hSw
        (try dsimp only at hSw)
        go_simp
        try with_reducible rfl
      (try simp only [Act.put, List.setIfInBounds_toArray, List.set_cons_zero, List.set_cons_succ])
      refine wpAnyH_take (i := 3) (oi := { dst := some 12, op := Go.Op.fieldAddr 35 (Go.Operand.tmp 2) 3, type := 0, pos := "ref.go:86", after := #[], guard := none }) (v := ?_) rfl (by kernel_rfl) (by kernel_rfl) (by kernel_rfl) (fun _ _ _ h => h) (Or.inl ⟨by rfl, ?_⟩) (by assumption) ?_
      rotate_left
      · intro w hSw
        (try dsimp only at hSw)
        go_simp
        try with_reducible rfl
      (try simp only [Act.put, List.setIfInBounds_toArray, List.set_cons_zero, List.set_cons_succ])
      refine wpAnyH_take (i := 4) (oi := { dst := some 13, op := Go.Op.load 33 (Go.Operand.tmp 12), type := 33, pos := "ref.go:86", after := #[{ on := 3, ground := Go.Ground.data }], guard := none }) (v := ?_) rfl (by kernel_rfl) (by kernel_rfl) (by kernel_rfl) (fun _ _ _ h => h) (Or.inl ⟨by rfl, ?_⟩) (by assumption) ?_
      rotate_left
      · intro w hSw
        (try dsimp only at hSw)
        go_simp
        try with_reducible rfl
      (try simp only [Act.put, List.setIfInBounds_toArray, List.set_cons_zero, List.set_cons_succ])
      refine wpAnyH_ready (rs := [5]) (by kernel_rfl) (by simp) ?_
      refine AllReadyH.cons (o := { dst := some 14, op := Go.Op.call { callee := Go.Callee.value (Go.Operand.func 37), args := #[Go.Operand.tmp 11, Go.Operand.tmp 13], argTypes := #[33, 33] }, type := 33, pos := "ref.go:86", after := #[{ on := 2, ground := Go.Ground.data }, { on := 4, ground := Go.Ground.data }], guard := none }) rfl (fun K hK => ?_) AllReadyH.nil
      go_simp
      refine (HA.out _).mono ?_
      rintro e w2 ⟨rfl, rfl⟩
      refine hK.out _ _ ?_ (fun hHeld => ?_)
      · (try dsimp only)
        exact hHeld
      clear hK K
      (try simp only [Act.put, List.setIfInBounds_toArray, List.set_cons_zero, List.set_cons_succ])
      refine wpAnyH_take (i := 6) (oi := { dst := some 15, op := Go.Op.convert 33 22 (Go.Operand.tmp 14), type := 22, pos := "ref.go:86", after := #[{ on := 5, ground := Go.Ground.data }], guard := none }) (v := ?_) rfl (by kernel_rfl) (by kernel_rfl) (by kernel_rfl) (fun _ _ _ h => h) (Or.inl ⟨by rfl, ?_⟩) (by assumption) ?_
      rotate_left
      · intro w hSw
        (try dsimp only at hSw)
        go_simp
        try with_reducible rfl
      (try simp only [Act.put, List.setIfInBounds_toArray, List.set_cons_zero, List.set_cons_succ])
      refine wpAnyH_ready (rs := [7]) (by kernel_rfl) (by simp) ?_
      refine AllReadyH.cons (o := { dst := some 16, op := Go.Op.binOp Go.BinOp.mul 22 (Go.Operand.tmp 10) (Go.Operand.tmp 15) 22, type := 22, pos := "ref.go:86", after := #[{ on := 1, ground := Go.Ground.data }, { on := 6, ground := Go.Ground.data }], guard := none }) rfl (fun K hK => ?_) AllReadyH.nil
      go_simp

      refine hK.out _ _ ?_ (fun hHeld => ?_)
      · (try dsimp only)
        exact hHeld
      clear hK K
      (try simp only [Act.put, List.setIfInBounds_toArray, List.set_cons_zero, List.set_cons_succ])
      refine wpAnyH_take (i := 8) (oi := { dst := some 5, op := Go.Op.assign (Go.Operand.tmp 16), type := 22, pos := "ref.go:86", after := #[{ on := 7, ground := Go.Ground.data }, { on := 5, ground := Go.Ground.chain }, { on := 0, ground := Go.Ground.phase }, { on := 1, ground := Go.Ground.phase }, { on := 2, ground := Go.Ground.phase }, { on := 3, ground := Go.Ground.phase }, { on := 4, ground := Go.Ground.phase }, { on := 5, ground := Go.Ground.phase }, { on := 6, ground := Go.Ground.phase }, { on := 7, ground := Go.Ground.phase }], guard := none }) (v := ?_) rfl (by kernel_rfl) (by kernel_rfl) (by kernel_rfl) (fun _ _ _ h => h) (Or.inl ⟨by rfl, ?_⟩) (by assumption) ?_
      rotate_left
      · intro w hSw
        (try dsimp only at hSw)
        go_simp
        try with_reducible rfl
      (try simp only [Act.put, List.setIfInBounds_toArray, List.set_cons_zero, List.set_cons_succ])
      refine wpAnyH_done (by kernel_rfl) ?_ _
      clear hHeld
      go_wp2
      have hBB := HB1.out
      exact bodyPost_ret (v := .agg #[.float .f64 lv, .float .f64 mo, .float .f64 0, .int .u32 (now : Int)]) (by simp [results, Try.results26, go_sem, d0, d1, d2, d3]) rfl ⟨rfl, (by (repeat' (first | (with_reducible exact Below.refl _ _) | (with_reducible assumption) | (with_reducible refine Below.setCell ?_ ?_ _) | (with_reducible refine Below.alloc ?_ ?_ _) | (with_reducible refine below_drewN ?_ _) | (with_reducible refine Below.drew ?_) | go_size)))⟩
    | some p =>
      have hrun := fun W => run_float_arith (P := Try.prog) W .mul 22 .f64 lv (floatOfInt .f64 (a : Int)) p hp
      cases hs : floatBits .add .f64 ro p with
      | none =>
        rw [room_none2 hp hs]
        clear hp
        go_enter Try.func26, Try.ntmps26
        go_wp2_with fail
        refine (HO.out _).mono ?_
        rintro e w1 ⟨rfl, hb⟩
        obtain ⟨hc1, hf1⟩ := bcell hb
        have hz1 : w.heap.size + 2 ≤ w1.heap.size := by have := hb.size; simp at this; omega
        have HB1 : Hid (Below w.heap.size w w1) := Below.trans (by (repeat' (first | (with_reducible exact Below.refl _ _) | (with_reducible assumption) | (with_reducible refine Below.setCell ?_ ?_ _) | (with_reducible refine Below.alloc ?_ ?_ _) | (with_reducible refine below_drewN ?_ _) | (with_reducible refine Below.drew ?_) | go_size))) (hb.mono (by go_size))
        have e0 : w1.cell? ⟨w.heap.size, 0, none⟩ = some (.float .f64 lv) := by rw [hc1 _ _ (by simp; omega)]; simp [go_sem]
        have e1 : w1.cell? ⟨w.heap.size, 1, none⟩ = some (.float .f64 mo) := by rw [hc1 _ _ (by simp; omega)]; simp [go_sem]
        have e2 : w1.cell? ⟨w.heap.size, 2, none⟩ = some (.float .f64 ro) := by rw [hc1 _ _ (by simp; omega)]; simp [go_sem]
        have e3 : w1.cell? ⟨w.heap.size, 3, none⟩ = some (.int .u32 (last : Int)) := by rw [hc1 _ _ (by simp; omega)]; simp [go_sem]
        have d0 : w1.cell? ⟨w.heap.size + 1, 0, none⟩ = some (.float .f64 0) := by rw [hc1 _ _ (by simp)]; simp [go_sem]
        have d1 : w1.cell? ⟨w.heap.size + 1, 1, none⟩ = some (.float .f64 0) := by rw [hc1 _ _ (by simp)]; simp [go_sem]
        have d2 : w1.cell? ⟨w.heap.size + 1, 2, none⟩ = some (.float .f64 0) := by rw [hc1 _ _ (by simp)]; simp [go_sem]
        have d3 : w1.cell? ⟨w.heap.size + 1, 3, none⟩ = some (.int .u32 0) := by rw [hc1 _ _ (by simp)]; simp [go_sem]
        have f0 : ∀ o, w1.frozen? ⟨w.heap.size, o, none⟩ = false := fun o => by rw [hf1 _ _ (by simp; omega)]; simp [go_sem]
        have f1 : ∀ o, w1.frozen? ⟨w.heap.size + 1, o, none⟩ = false := fun o => by rw [hf1 _ _ (by simp)]; simp [go_sem]
        clear hc1 hf1 hb
        obtain ⟨b2, hc1, hc2, hrun2⟩ := run_float_nan (P := Try.prog) w1.drew .add 22 ro p (.inl rfl) hs
        have q1 : (FloatKind.f64.format.order b2 mo == some .gt) = false := by rw [gt_bits, ltW_nan_r _ hc1]
        have q2 : (FloatKind.f64.format.order b2 0 == some .gt) = false := by rw [gt_bits, ltW_nan_r _ hc1]
        clear hc1 hc2 hs
        go_wp2_with fail
        refine wp_region_held_drew (S := fun w' => w'.cell? ⟨w.heap.size, 0, none⟩ = some (.float .f64 lv) ∧ w'.cell? ⟨w.heap.size, 1, none⟩ = some (.float .f64 mo) ∧ w'.cell? ⟨w.heap.size, 2, none⟩ = some (.float .f64 ro) ∧ w'.cell? ⟨w.heap.size, 3, none⟩ = some (.int .u32 (last : Int))) (by kernel_rfl) ?_ (fun hHeld => ?_)
        · exact ⟨e0, e1, e2, e3⟩
        refine wpAnyH_take (i := 0) (oi := { dst := some 9, op := Go.Op.fieldAddr 35 (Go.Operand.tmp 2) 0, type := 0, pos := "ref.go:86", after := #[], guard := none }) (v := ?_) rfl (by kernel_rfl) (by kernel_rfl) (by kernel_rfl) (fun _ _ _ h => h) (Or.inl ⟨by rfl, ?_⟩) (by assumption) ?_
        rotate_left
        · intro w hSw
          (try dsimp only at hSw)
          go_simp
          try with_reducible rfl
        (try simp only [Act.put, List.setIfInBounds_toArray, List.set_cons_zero, List.set_cons_succ])
        refine wpAnyH_take (i := 1) (oi := { dst := some 10, op := Go.Op.load 22 (Go.Operand.tmp 9), type := 22, pos := "ref.go:86", after := #[{ on := 0, ground := Go.Ground.data }], guard := none }) (v := ?_) rfl (by kernel_rfl) (by kernel_rfl) (by kernel_rfl) (fun _ _ _ h => h) (Or.inl ⟨by rfl, ?_⟩) (by assumption) ?_
        rotate_left
        · intro w hSw
          (try dsimp only at hSw)
          go_simp
          try with_reducible rfl
        (try simp only [Act.put, List.setIfInBounds_toArray, List.set_cons_zero, List.set_cons_succ])
        refine wpAnyH_take (i := 2) (oi := { dst := some 11, op := Go.Op.move (Go.Operand.tmp 1), type := 33, pos := "ref.go:86", after := #[], guard := none }) (v := ?_) rfl (by kernel_rfl) (by kernel_rfl) (by kernel_rfl) (fun _ _ _ h => h) (Or.inl ⟨by rfl, ?_⟩) (by assumption) ?_
        rotate_left
        · intro w hSw
          (try dsimp only at hSw)
          go_simp
          try with_reducible rfl
        (try simp only [Act.put, List.setIfInBounds_toArray, List.set_cons_zero, List.set_cons_succ])
        refine wpAnyH_take (i := 3) (oi := { dst := some 12, op := Go.Op.fieldAddr 35 (Go.Operand.tmp 2) 3, type := 0, pos := "ref.go:86", after := #[], guard := none }) (v := ?_) rfl (by kernel_rfl) (by kernel_rfl) (by kernel_rfl) (fun _ _ _ h => h) (Or.inl ⟨by rfl, ?_⟩) (by assumption) ?_
        rotate_left
        · intro w hSw
          (try dsimp only at hSw)
          go_simp
          try with_reducible rfl
        (try simp only [Act.put, List.setIfInBounds_toArray, List.set_cons_zero, List.set_cons_succ])
        refine wpAnyH_take (i := 4) (oi := { dst := some 13, op := Go.Op.load 33 (Go.Operand.tmp 12), type := 33, pos := "ref.go:86", after := #[{ on := 3, ground := Go.Ground.data }], guard := none }) (v := ?_) rfl (by kernel_rfl) (by kernel_rfl) (by kernel_rfl) (fun _ _ _ h => h) (Or.inl ⟨by rfl, ?_⟩) (by assumption) ?_
        rotate_left
        · intro w hSw
          (try dsimp only at hSw)
          go_simp
          try with_reducible rfl
        (try simp only [Act.put, List.setIfInBounds_toArray, List.set_cons_zero, List.set_cons_succ])
        refine wpAnyH_ready (rs := [5]) (by kernel_rfl) (by simp) ?_
        refine AllReadyH.cons (o := { dst := some 14, op := Go.Op.call { callee := Go.Callee.value (Go.Operand.func 37), args := #[Go.Operand.tmp 11, Go.Operand.tmp 13], argTypes := #[33, 33] }, type := 33, pos := "ref.go:86", after := #[{ on := 2, ground := Go.Ground.data }, { on := 4, ground := Go.Ground.data }], guard := none }) rfl (fun K hK => ?_) AllReadyH.nil
        go_simp
        refine (HA.out _).mono ?_
        rintro e w2 ⟨rfl, rfl⟩
        refine hK.out _ _ ?_ (fun hHeld => ?_)
        · (try dsimp only)
          exact hHeld
        clear hK K
        (try simp only [Act.put, List.setIfInBounds_toArray, List.set_cons_zero, List.set_cons_succ])
        refine wpAnyH_take (i := 6) (oi := { dst := some 15, op := Go.Op.convert 33 22 (Go.Operand.tmp 14), type := 22, pos := "ref.go:86", after := #[{ on := 5, ground := Go.Ground.data }], guard := none }) (v := ?_) rfl (by kernel_rfl) (by kernel_rfl) (by kernel_rfl) (fun _ _ _ h => h) (Or.inl ⟨by rfl, ?_⟩) (by assumption) ?_
        rotate_left
        · intro w hSw
          (try dsimp only at hSw)
          go_simp
          try with_reducible rfl
        (try simp only [Act.put, List.setIfInBounds_toArray, List.set_cons_zero, List.set_cons_succ])
        refine wpAnyH_take (i := 7) (oi := { dst := some 16, op := Go.Op.binOp Go.BinOp.mul 22 (Go.Operand.tmp 10) (Go.Operand.tmp 15) 22, type := 22, pos := "ref.go:86", after := #[{ on := 1, ground := Go.Ground.data }, { on := 6, ground := Go.Ground.data }], guard := none }) (v := ?_) rfl (by kernel_rfl) (by kernel_rfl) (by kernel_rfl) (fun _ _ _ h => h) (Or.inl ⟨by rfl, ?_⟩) (by assumption) ?_
        rotate_left
        · intro w hSw
          (try dsimp only at hSw)
          go_simp
          try with_reducible rfl
        (try simp only [Act.put, List.setIfInBounds_toArray, List.set_cons_zero, List.set_cons_succ])
        refine wpAnyH_take (i := 8) (oi := { dst := some 5, op := Go.Op.assign (Go.Operand.tmp 16), type := 22, pos := "ref.go:86", after := #[{ on := 7, ground := Go.Ground.data }, { on := 5, ground := Go.Ground.chain }, { on := 0, ground := Go.Ground.phase }, { on := 1, ground := Go.Ground.phase }, { on := 2, ground := Go.Ground.phase }, { on := 3, ground := Go.Ground.phase }, { on := 4, ground := Go.Ground.phase }, { on := 5, ground := Go.Ground.phase }, { on := 6, ground := Go.Ground.phase }, { on := 7, ground := Go.Ground.phase }], guard := none }) (v := ?_) rfl (by kernel_rfl) (by kernel_rfl) (by kernel_rfl) (fun _ _ _ h => h) (Or.inl ⟨by rfl, ?_⟩) (by assumption) ?_
        rotate_left
        · intro w hSw
          (try dsimp only at hSw)
          go_simp
          try with_reducible rfl
        (try simp only [Act.put, List.setIfInBounds_toArray, List.set_cons_zero, List.set_cons_succ])
        refine wpAnyH_done (by kernel_rfl) ?_ _
        clear hHeld
        go_wp2
        have hBB := HB1.out
        exact bodyPost_ret (v := .agg #[.float .f64 lv, .float .f64 mo, .float .f64 0, .int .u32 (now : Int)]) (by simp [results, Try.results26, go_sem, d0, d1, d2, d3]) rfl ⟨rfl, (by (repeat' (first | (with_reducible exact Below.refl _ _) | (with_reducible assumption) | (with_reducible refine Below.setCell ?_ ?_ _) | (with_reducible refine Below.alloc ?_ ?_ _) | (with_reducible refine below_drewN ?_ _) | (with_reducible refine Below.drew ?_) | go_size)))⟩
      | some s =>
        have hrun2 := fun W => run_float_arith (P := Try.prog) W .add 22 .f64 ro p s hs
        have q1 := gt_bits s mo
        cases g1 : ltW mo s
        · rw [g1] at q1
          have q2 := gt_bits s 0
          cases g2 : ltW 0 s
          · rw [g2] at q2
            rw [room_some (r := s) (z := false) hp hs (if_neg (by rw [g1]; simp)) g2, if_neg (by simp)]
            clear hp hs g1 g2
            go_enter Try.func26, Try.ntmps26
            go_wp2_with fail
            refine (HO.out _).mono ?_
            rintro e w1 ⟨rfl, hb⟩
            obtain ⟨hc1, hf1⟩ := bcell hb
            have hz1 : w.heap.size + 2 ≤ w1.heap.size := by have := hb.size; simp at this; omega
            have HB1 : Hid (Below w.heap.size w w1) := Below.trans (by (repeat' (first | (with_reducible exact Below.refl _ _) | (with_reducible assumption) | (with_reducible refine Below.setCell ?_ ?_ _) | (with_reducible refine Below.alloc ?_ ?_ _) | (with_reducible refine below_drewN ?_ _) | (with_reducible refine Below.drew ?_) | go_size))) (hb.mono (by go_size))
            have e0 : w1.cell? ⟨w.heap.size, 0, none⟩ = some (.float .f64 lv) := by rw [hc1 _ _ (by simp; omega)]; simp [go_sem]
            have e1 : w1.cell? ⟨w.heap.size, 1, none⟩ = some (.float .f64 mo) := by rw [hc1 _ _ (by simp; omega)]; simp [go_sem]
            have e2 : w1.cell? ⟨w.heap.size, 2, none⟩ = some (.float .f64 ro) := by rw [hc1 _ _ (by simp; omega)]; simp [go_sem]
            have e3 : w1.cell? ⟨w.heap.size, 3, none⟩ = some (.int .u32 (last : Int)) := by rw [hc1 _ _ (by simp; omega)]; simp [go_sem]
            have d0 : w1.cell? ⟨w.heap.size + 1, 0, none⟩ = some (.float .f64 0) := by rw [hc1 _ _ (by simp)]; simp [go_sem]
            have d1 : w1.cell? ⟨w.heap.size + 1, 1, none⟩ = some (.float .f64 0) := by rw [hc1 _ _ (by simp)]; simp [go_sem]
            have d2 : w1.cell? ⟨w.heap.size + 1, 2, none⟩ = some (.float .f64 0) := by rw [hc1 _ _ (by simp)]; simp [go_sem]
            have d3 : w1.cell? ⟨w.heap.size + 1, 3, none⟩ = some (.int .u32 0) := by rw [hc1 _ _ (by simp)]; simp [go_sem]
            have f0 : ∀ o, w1.frozen? ⟨w.heap.size, o, none⟩ = false := fun o => by rw [hf1 _ _ (by simp; omega)]; simp [go_sem]
            have f1 : ∀ o, w1.frozen? ⟨w.heap.size + 1, o, none⟩ = false := fun o => by rw [hf1 _ _ (by simp)]; simp [go_sem]
            clear hc1 hf1 hb
            go_wp2_with fail
            refine wp_region_held_drew (S := fun w' => w'.cell? ⟨w.heap.size, 0, none⟩ = some (.float .f64 lv) ∧ w'.cell? ⟨w.heap.size, 1, none⟩ = some (.float .f64 mo) ∧ w'.cell? ⟨w.heap.size, 2, none⟩ = some (.float .f64 ro) ∧ w'.cell? ⟨w.heap.size, 3, none⟩ = some (.int .u32 (last : Int))) (by kernel_rfl) ?_ (fun hHeld => ?_)
            · exact ⟨e0, e1, e2, e3⟩
            refine wpAnyH_take (i := 0) (oi := { dst := some 9, op := Go.Op.fieldAddr 35 (Go.Operand.tmp 2) 0, type := 0, pos := "ref.go:86", after := #[], guard := none }) (v := ?_) rfl (by kernel_rfl) (by kernel_rfl) (by kernel_rfl) (fun _ _ _ h => h) (Or.inl ⟨by rfl, ?_⟩) (by assumption) ?_
            rotate_left
            · intro w hSw
              (try dsimp only at hSw)
              go_simp
              try with_reducible rfl
            (try simp only [Act.put, List.setIfInBounds_toArray, List.set_cons_zero, List.set_cons_succ])
            refine wpAnyH_take (i := 1) (oi := { dst := some 10, op := Go.Op.load 22 (Go.Operand.tmp 9), type := 22, pos := "ref.go:86", after := #[{ on := 0, ground := Go.Ground.data }], guard := none }) (v := ?_) rfl (by kernel_rfl) (by kernel_rfl) (by kernel_rfl) (fun _ _ _ h => h) (Or.inl ⟨by rfl, ?_⟩) (by assumption) ?_
            rotate_left
            · intro w hSw
              (try dsimp only at hSw)
              go_simp
              try with_reducible rfl
            (try simp only [Act.put, List.setIfInBounds_toArray, List.set_cons_zero, List.set_cons_succ])
            refine wpAnyH_take (i := 2) (oi := { dst := some 11, op := Go.Op.move (Go.Operand.tmp 1), type := 33, pos := "ref.go:86", after := #[], guard := none }) (v := ?_) rfl (by kernel_rfl) (by kernel_rfl) (by kernel_rfl) (fun _ _ _ h => h) (Or.inl ⟨by rfl, ?_⟩) (by assumption) ?_
            rotate_left
            · intro w hSw
              (try dsimp only at hSw)
              go_simp
              try with_reducible rfl
            (try simp only [Act.put, List.setIfInBounds_toArray, List.set_cons_zero, List.set_cons_succ])
            refine wpAnyH_take (i := 3) (oi := { dst := some 12, op := Go.Op.fieldAddr 35 (Go.Operand.tmp 2) 3, type := 0, pos := "ref.go:86", after := #[], guard := none }) (v := ?_) rfl (by kernel_rfl) (by kernel_rfl) (by kernel_rfl) (fun _ _ _ h => h) (Or.inl ⟨by rfl, ?_⟩) (by assumption) ?_
            rotate_left
            · intro w hSw
              (try dsimp only at hSw)
              go_simp
              try with_reducible rfl
            (try simp only [Act.put, List.setIfInBounds_toArray, List.set_cons_zero, List.set_cons_succ])
            refine wpAnyH_take (i := 4) (oi := { dst := some 13, op := Go.Op.load 33 (Go.Operand.tmp 12), type := 33, pos := "ref.go:86", after := #[{ on := 3, ground := Go.Ground.data }], guard := none }) (v := ?_) rfl (by kernel_rfl) (by kernel_rfl) (by kernel_rfl) (fun _ _ _ h => h) (Or.inl ⟨by rfl, ?_⟩) (by assumption) ?_
            rotate_left
            · intro w hSw
              (try dsimp only at hSw)
              go_simp
              try with_reducible rfl
            (try simp only [Act.put, List.setIfInBounds_toArray, List.set_cons_zero, List.set_cons_succ])
            refine wpAnyH_ready (rs := [5]) (by kernel_rfl) (by simp) ?_
            refine AllReadyH.cons (o := { dst := some 14, op := Go.Op.call { callee := Go.Callee.value (Go.Operand.func 37), args := #[Go.Operand.tmp 11, Go.Operand.tmp 13], argTypes := #[33, 33] }, type := 33, pos := "ref.go:86", after := #[{ on := 2, ground := Go.Ground.data }, { on := 4, ground := Go.Ground.data }], guard := none }) rfl (fun K hK => ?_) AllReadyH.nil
            go_simp
            refine (HA.out _).mono ?_
            rintro e w2 ⟨rfl, rfl⟩
            refine hK.out _ _ ?_ (fun hHeld => ?_)
            · (try dsimp only)
              exact hHeld
            clear hK K
            (try simp only [Act.put, List.setIfInBounds_toArray, List.set_cons_zero, List.set_cons_succ])
            refine wpAnyH_take (i := 6) (oi := { dst := some 15, op := Go.Op.convert 33 22 (Go.Operand.tmp 14), type := 22, pos := "ref.go:86", after := #[{ on := 5, ground := Go.Ground.data }], guard := none }) (v := ?_) rfl (by kernel_rfl) (by kernel_rfl) (by kernel_rfl) (fun _ _ _ h => h) (Or.inl ⟨by rfl, ?_⟩) (by assumption) ?_
            rotate_left
            · intro w hSw
              (try dsimp only at hSw)
              go_simp
              try with_reducible rfl
            (try simp only [Act.put, List.setIfInBounds_toArray, List.set_cons_zero, List.set_cons_succ])
            refine wpAnyH_take (i := 7) (oi := { dst := some 16, op := Go.Op.binOp Go.BinOp.mul 22 (Go.Operand.tmp 10) (Go.Operand.tmp 15) 22, type := 22, pos := "ref.go:86", after := #[{ on := 1, ground := Go.Ground.data }, { on := 6, ground := Go.Ground.data }], guard := none }) (v := ?_) rfl (by kernel_rfl) (by kernel_rfl) (by kernel_rfl) (fun _ _ _ h => h) (Or.inl ⟨by rfl, ?_⟩) (by assumption) ?_
            rotate_left
            · intro w hSw
              (try dsimp only at hSw)
              go_simp
              try with_reducible rfl
            (try simp only [Act.put, List.setIfInBounds_toArray, List.set_cons_zero, List.set_cons_succ])
            refine wpAnyH_take (i := 8) (oi := { dst := some 5, op := Go.Op.assign (Go.Operand.tmp 16), type := 22, pos := "ref.go:86", after := #[{ on := 7, ground := Go.Ground.data }, { on := 5, ground := Go.Ground.chain }, { on := 0, ground := Go.Ground.phase }, { on := 1, ground := Go.Ground.phase }, { on := 2, ground := Go.Ground.phase }, { on := 3, ground := Go.Ground.phase }, { on := 4, ground := Go.Ground.phase }, { on := 5, ground := Go.Ground.phase }, { on := 6, ground := Go.Ground.phase }, { on := 7, ground := Go.Ground.phase }], guard := none }) (v := ?_) rfl (by kernel_rfl) (by kernel_rfl) (by kernel_rfl) (fun _ _ _ h => h) (Or.inl ⟨by rfl, ?_⟩) (by assumption) ?_
            rotate_left
            · intro w hSw
              (try dsimp only at hSw)
              go_simp
              try with_reducible rfl
            (try simp only [Act.put, List.setIfInBounds_toArray, List.set_cons_zero, List.set_cons_succ])
            refine wpAnyH_done (by kernel_rfl) ?_ _
            clear hHeld
            go_wp2
            have hBB := HB1.out
            exact bodyPost_ret (v := .agg #[.float .f64 lv, .float .f64 mo, .float .f64 0, .int .u32 (now : Int)]) (by simp [results, Try.results26, go_sem, d0, d1, d2, d3]) rfl ⟨rfl, (by (repeat' (first | (with_reducible exact Below.refl _ _) | (with_reducible assumption) | (with_reducible refine Below.setCell ?_ ?_ _) | (with_reducible refine Below.alloc ?_ ?_ _) | (with_reducible refine below_drewN ?_ _) | (with_reducible refine Below.drew ?_) | go_size)))⟩
          · rw [g2] at q2
            rw [room_some (r := s) (z := true) hp hs (if_neg (by rw [g1]; simp)) g2, if_pos rfl]
            clear hp hs g1 g2
            go_enter Try.func26, Try.ntmps26
            go_wp2_with fail
            refine (HO.out _).mono ?_
            rintro e w1 ⟨rfl, hb⟩
            obtain ⟨hc1, hf1⟩ := bcell hb
            have hz1 : w.heap.size + 2 ≤ w1.heap.size := by have := hb.size; simp at this; omega
            have HB1 : Hid (Below w.heap.size w w1) := Below.trans (by (repeat' (first | (with_reducible exact Below.refl _ _) | (with_reducible assumption) | (with_reducible refine Below.setCell ?_ ?_ _) | (with_reducible refine Below.alloc ?_ ?_ _) | (with_reducible refine below_drewN ?_ _) | (with_reducible refine Below.drew ?_) | go_size))) (hb.mono (by go_size))
            have e0 : w1.cell? ⟨w.heap.size, 0, none⟩ = some (.float .f64 lv) := by rw [hc1 _ _ (by simp; omega)]; simp [go_sem]
            have e1 : w1.cell? ⟨w.heap.size, 1, none⟩ = some (.float .f64 mo) := by rw [hc1 _ _ (by simp; omega)]; simp [go_sem]
            have e2 : w1.cell? ⟨w.heap.size, 2, none⟩ = some (.float .f64 ro) := by rw [hc1 _ _ (by simp; omega)]; simp [go_sem]
            have e3 : w1.cell? ⟨w.heap.size, 3, none⟩ = some (.int .u32 (last : Int)) := by rw [hc1 _ _ (by simp; omega)]; simp [go_sem]
            have d0 : w1.cell? ⟨w.heap.size + 1, 0, none⟩ = some (.float .f64 0) := by rw [hc1 _ _ (by simp)]; simp [go_sem]
            have d1 : w1.cell? ⟨w.heap.size + 1, 1, none⟩ = some (.float .f64 0) := by rw [hc1 _ _ (by simp)]; simp [go_sem]
            have d2 : w1.cell? ⟨w.heap.size + 1, 2, none⟩ = some (.float .f64 0) := by rw [hc1 _ _ (by simp)]; simp [go_sem]
            have d3 : w1.cell? ⟨w.heap.size + 1, 3, none⟩ = some (.int .u32 0) := by rw [hc1 _ _ (by simp)]; simp [go_sem]
            have f0 : ∀ o, w1.frozen? ⟨w.heap.size, o, none⟩ = false := fun o => by rw [hf1 _ _ (by simp; omega)]; simp [go_sem]
            have f1 : ∀ o, w1.frozen? ⟨w.heap.size + 1, o, none⟩ = false := fun o => by rw [hf1 _ _ (by simp)]; simp [go_sem]
            clear hc1 hf1 hb
            go_wp2_with fail
            refine wp_region_held_drew (S := fun w' => w'.cell? ⟨w.heap.size, 0, none⟩ = some (.float .f64 lv) ∧ w'.cell? ⟨w.heap.size, 1, none⟩ = some (.float .f64 mo) ∧ w'.cell? ⟨w.heap.size, 2, none⟩ = some (.float .f64 ro) ∧ w'.cell? ⟨w.heap.size, 3, none⟩ = some (.int .u32 (last : Int))) (by kernel_rfl) ?_ (fun hHeld => ?_)
            · exact ⟨e0, e1, e2, e3⟩
            refine wpAnyH_take (i := 0) (oi := { dst := some 9, op := Go.Op.fieldAddr 35 (Go.Operand.tmp 2) 0, type := 0, pos := "ref.go:86", after := #[], guard := none }) (v := ?_) rfl (by kernel_rfl) (by kernel_rfl) (by kernel_rfl) (fun _ _ _ h => h) (Or.inl ⟨by rfl, ?_⟩) (by assumption) ?_
            rotate_left
            · intro w hSw
              (try dsimp only at hSw)
              go_simp
              try with_reducible rfl
            (try simp only [Act.put, List.setIfInBounds_toArray, List.set_cons_zero, List.set_cons_succ])
            refine wpAnyH_take (i := 1) (oi := { dst := some 10, op := Go.Op.load 22 (Go.Operand.tmp 9), type := 22, pos := "ref.go:86", after := #[{ on := 0, ground := Go.Ground.data }], guard := none }) (v := ?_) rfl (by kernel_rfl) (by kernel_rfl) (by kernel_rfl) (fun _ _ _ h => h) (Or.inl ⟨by rfl, ?_⟩) (by assumption) ?_
            rotate_left
            · intro w hSw
              (try dsimp only at hSw)
              go_simp
              try with_reducible rfl
            (try simp only [Act.put, List.setIfInBounds_toArray, List.set_cons_zero, List.set_cons_succ])
            refine wpAnyH_take (i := 2) (oi := { dst := some 11, op := Go.Op.move (Go.Operand.tmp 1), type := 33, pos := "ref.go:86", after := #[], guard := none }) (v := ?_) rfl (by kernel_rfl) (by kernel_rfl) (by kernel_rfl) (fun _ _ _ h => h) (Or.inl ⟨by rfl, ?_⟩) (by assumption) ?_
            rotate_left
            · intro w hSw
              (try dsimp only at hSw)
              go_simp
              try with_reducible rfl
            (try simp only [Act.put, List.setIfInBounds_toArray, List.set_cons_zero, List.set_cons_succ])
            refine wpAnyH_take (i := 3) (oi := { dst := some 12, op := Go.Op.fieldAddr 35 (Go.Operand.tmp 2) 3, type := 0, pos := "ref.go:86", after := #[], guard := none }) (v := ?_) rfl (by kernel_rfl) (by kernel_rfl) (by kernel_rfl) (fun _ _ _ h => h) (Or.inl ⟨by rfl, ?_⟩) (by assumption) ?_
            rotate_left
            · intro w hSw
              (try dsimp only at hSw)
              go_simp
              try with_reducible rfl
            (try simp only [Act.put, List.setIfInBounds_toArray, List.set_cons_zero, List.set_cons_succ])
            refine wpAnyH_take (i := 4) (oi := { dst := some 13, op := Go.Op.load 33 (Go.Operand.tmp 12), type := 33, pos := "ref.go:86", after := #[{ on := 3, ground := Go.Ground.data }], guard := none }) (v := ?_) rfl (by kernel_rfl) (by kernel_rfl) (by kernel_rfl) (fun _ _ _ h => h) (Or.inl ⟨by rfl, ?_⟩) (by assumption) ?_
            rotate_left
            · intro w hSw
              (try dsimp only at hSw)
              go_simp
              try with_reducible rfl
            (try simp only [Act.put, List.setIfInBounds_toArray, List.set_cons_zero, List.set_cons_succ])
            refine wpAnyH_ready (rs := [5]) (by kernel_rfl) (by simp) ?_
            refine AllReadyH.cons (o := { dst := some 14, op := Go.Op.call { callee := Go.Callee.value (Go.Operand.func 37), args := #[Go.Operand.tmp 11, Go.Operand.tmp 13], argTypes := #[33, 33] }, type := 33, pos := "ref.go:86", after := #[{ on := 2, ground := Go.Ground.data }, { on := 4, ground := Go.Ground.data }], guard := none }) rfl (fun K hK => ?_) AllReadyH.nil
            go_simp
            refine (HA.out _).mono ?_
            rintro e w2 ⟨rfl, rfl⟩
            refine hK.out _ _ ?_ (fun hHeld => ?_)
            · (try dsimp only)
              exact hHeld
            clear hK K
            (try simp only [Act.put, List.setIfInBounds_toArray, List.set_cons_zero, List.set_cons_succ])
            refine wpAnyH_take (i := 6) (oi := { dst := some 15, op := Go.Op.convert 33 22 (Go.Operand.tmp 14), type := 22, pos := "ref.go:86", after := #[{ on := 5, ground := Go.Ground.data }], guard := none }) (v := ?_) rfl (by kernel_rfl) (by kernel_rfl) (by kernel_rfl) (fun _ _ _ h => h) (Or.inl ⟨by rfl, ?_⟩) (by assumption) ?_
            rotate_left
            · intro w hSw
              (try dsimp only at hSw)
              go_simp
              try with_reducible rfl
            (try simp only [Act.put, List.setIfInBounds_toArray, List.set_cons_zero, List.set_cons_succ])
            refine wpAnyH_take (i := 7) (oi := { dst := some 16, op := Go.Op.binOp Go.BinOp.mul 22 (Go.Operand.tmp 10) (Go.Operand.tmp 15) 22, type := 22, pos := "ref.go:86", after := #[{ on := 1, ground := Go.Ground.data }, { on := 6, ground := Go.Ground.data }], guard := none }) (v := ?_) rfl (by kernel_rfl) (by kernel_rfl) (by kernel_rfl) (fun _ _ _ h => h) (Or.inl ⟨by rfl, ?_⟩) (by assumption) ?_
            rotate_left
            · intro w hSw
              (try dsimp only at hSw)
              go_simp
              try with_reducible rfl
            (try simp only [Act.put, List.setIfInBounds_toArray, List.set_cons_zero, List.set_cons_succ])
            refine wpAnyH_take (i := 8) (oi := { dst := some 5, op := Go.Op.assign (Go.Operand.tmp 16), type := 22, pos := "ref.go:86", after := #[{ on := 7, ground := Go.Ground.data }, { on := 5, ground := Go.Ground.chain }, { on := 0, ground := Go.Ground.phase }, { on := 1, ground := Go.Ground.phase }, { on := 2, ground := Go.Ground.phase }, { on := 3, ground := Go.Ground.phase }, { on := 4, ground := Go.Ground.phase }, { on := 5, ground := Go.Ground.phase }, { on := 6, ground := Go.Ground.phase }, { on := 7, ground := Go.Ground.phase }], guard := none }) (v := ?_) rfl (by kernel_rfl) (by kernel_rfl) (by kernel_rfl) (fun _ _ _ h => h) (Or.inl ⟨by rfl, ?_⟩) (by assumption) ?_
            rotate_left
            · intro w hSw
              (try dsimp only at hSw)
              go_simp
              try with_reducible rfl
            (try simp only [Act.put, List.setIfInBounds_toArray, List.set_cons_zero, List.set_cons_succ])
            refine wpAnyH_done (by kernel_rfl) ?_ _
            clear hHeld
            go_wp2
            have hBB := HB1.out
            exact bodyPost_ret (v := .agg #[.float .f64 lv, .float .f64 mo, .float .f64 s, .int .u32 (now : Int)]) (by simp [results, Try.results26, go_sem, d0, d1, d2, d3]) rfl ⟨rfl, (by (repeat' (first | (with_reducible exact Below.refl _ _) | (with_reducible assumption) | (with_reducible refine Below.setCell ?_ ?_ _) | (with_reducible refine Below.alloc ?_ ?_ _) | (with_reducible refine below_drewN ?_ _) | (with_reducible refine Below.drew ?_) | go_size)))⟩
        · rw [g1] at q1
          have q2 := gt_bits mo 0
          cases g2 : ltW 0 mo
          · rw [g2] at q2
            rw [room_some (r := mo) (z := false) hp hs (if_pos g1) g2, if_neg (by simp)]
            clear hp hs g1 g2
            go_enter Try.func26, Try.ntmps26
            go_wp2_with fail
            refine (HO.out _).mono ?_
            rintro e w1 ⟨rfl, hb⟩
            obtain ⟨hc1, hf1⟩ := bcell hb
            have hz1 : w.heap.size + 2 ≤ w1.heap.size := by have := hb.size; simp at this; omega
            have HB1 : Hid (Below w.heap.size w w1) := Below.trans (by (repeat' (first | (with_reducible exact Below.refl _ _) | (with_reducible assumption) | (with_reducible refine Below.setCell ?_ ?_ _) | (with_reducible refine Below.alloc ?_ ?_ _) | (with_reducible refine below_drewN ?_ _) | (with_reducible refine Below.drew ?_) | go_size))) (hb.mono (by go_size))
            have e0 : w1.cell? ⟨w.heap.size, 0, none⟩ = some (.float .f64 lv) := by rw [hc1 _ _ (by simp; omega)]; simp [go_sem]
            have e1 : w1.cell? ⟨w.heap.size, 1, none⟩ = some (.float .f64 mo) := by rw [hc1 _ _ (by simp; omega)]; simp [go_sem]
            have e2 : w1.cell? ⟨w.heap.size, 2, none⟩ = some (.float .f64 ro) := by rw [hc1 _ _ (by simp; omega)]; simp [go_sem]
            have e3 : w1.cell? ⟨w.heap.size, 3, none⟩ = some (.int .u32 (last : Int)) := by rw [hc1 _ _ (by simp; omega)]; simp [go_sem]
            have d0 : w1.cell? ⟨w.heap.size + 1, 0, none⟩ = some (.float .f64 0) := by rw [hc1 _ _ (by simp)]; simp [go_sem]
            have d1 : w1.cell? ⟨w.heap.size + 1, 1, none⟩ = some (.float .f64 0) := by rw [hc1 _ _ (by simp)]; simp [go_sem]
            have d2 : w1.cell? ⟨w.heap.size + 1, 2, none⟩ = some (.float .f64 0) := by rw [hc1 _ _ (by simp)]; simp [go_sem]
            have d3 : w1.cell? ⟨w.heap.size + 1, 3, none⟩ = some (.int .u32 0) := by rw [hc1 _ _ (by simp)]; simp [go_sem]
            have f0 : ∀ o, w1.frozen? ⟨w.heap.size, o, none⟩ = false := fun o => by rw [hf1 _ _ (by simp; omega)]; simp [go_sem]
            have f1 : ∀ o, w1.frozen? ⟨w.heap.size + 1, o, none⟩ = false := fun o => by rw [hf1 _ _ (by simp)]; simp [go_sem]
            clear hc1 hf1 hb
            go_wp2_with fail
            refine wp_region_held_drew (S := fun w' => w'.cell? ⟨w.heap.size, 0, none⟩ = some (.float .f64 lv) ∧ w'.cell? ⟨w.heap.size, 1, none⟩ = some (.float .f64 mo) ∧ w'.cell? ⟨w.heap.size, 2, none⟩ = some (.float .f64 ro) ∧ w'.cell? ⟨w.heap.size, 3, none⟩ = some (.int .u32 (last : Int))) (by kernel_rfl) ?_ (fun hHeld => ?_)
            · exact ⟨e0, e1, e2, e3⟩
            refine wpAnyH_take (i := 0) (oi := { dst := some 9, op := Go.Op.fieldAddr 35 (Go.Operand.tmp 2) 0, type := 0, pos := "ref.go:86", after := #[], guard := none }) (v := ?_) rfl (by kernel_rfl) (by kernel_rfl) (by kernel_rfl) (fun _ _ _ h => h) (Or.inl ⟨by rfl, ?_⟩) (by assumption) ?_
            rotate_left
            · intro w hSw
              (try dsimp only at hSw)
              go_simp
              try with_reducible rfl
            (try simp only [Act.put, List.setIfInBounds_toArray, List.set_cons_zero, List.set_cons_succ])
            refine wpAnyH_take (i := 1) (oi := { dst := some 10, op := Go.Op.load 22 (Go.Operand.tmp 9), type := 22, pos := "ref.go:86", after := #[{ on := 0, ground := Go.Ground.data }], guard := none }) (v := ?_) rfl (by kernel_rfl) (by kernel_rfl) (by kernel_rfl) (fun _ _ _ h => h) (Or.inl ⟨by rfl, ?_⟩) (by assumption) ?_
            rotate_left
            · intro w hSw
              (try dsimp only at hSw)
              go_simp
              try with_reducible rfl
            (try simp only [Act.put, List.setIfInBounds_toArray, List.set_cons_zero, List.set_cons_succ])
            refine wpAnyH_take (i := 2) (oi := { dst := some 11, op := Go.Op.move (Go.Operand.tmp 1), type := 33, pos := "ref.go:86", after := #[], guard := none }) (v := ?_) rfl (by kernel_rfl) (by kernel_rfl) (by kernel_rfl) (fun _ _ _ h => h) (Or.inl ⟨by rfl, ?_⟩) (by assumption) ?_
            rotate_left
            · intro w hSw
              (try dsimp only at hSw)
              go_simp
              try with_reducible rfl
            (try simp only [Act.put, List.setIfInBounds_toArray, List.set_cons_zero, List.set_cons_succ])
            refine wpAnyH_take (i := 3) (oi := { dst := some 12, op := Go.Op.fieldAddr 35 (Go.Operand.tmp 2) 3, type := 0, pos := "ref.go:86", after := #[], guard := none }) (v := ?_) rfl (by kernel_rfl) (by kernel_rfl) (by kernel_rfl) (fun _ _ _ h => h) (Or.inl ⟨by rfl, ?_⟩) (by assumption) ?_
            rotate_left
            · intro w hSw
              (try dsimp only at hSw)
              go_simp
              try with_reducible rfl
            (try simp only [Act.put, List.setIfInBounds_toArray, List.set_cons_zero, List.set_cons_succ])
            refine wpAnyH_take (i := 4) (oi := { dst := some 13, op := Go.Op.load 33 (Go.Operand.tmp 12), type := 33, pos := "ref.go:86", after := #[{ on := 3, ground := Go.Ground.data }], guard := none }) (v := ?_) rfl (by kernel_rfl) (by kernel_rfl) (by kernel_rfl) (fun _ _ _ h => h) (Or.inl ⟨by rfl, ?_⟩) (by assumption) ?_
            rotate_left
            · intro w hSw
              (try dsimp only at hSw)
              go_simp
              try with_reducible rfl
            (try simp only [Act.put, List.setIfInBounds_toArray, List.set_cons_zero, List.set_cons_succ])
            refine wpAnyH_ready (rs := [5]) (by kernel_rfl) (by simp) ?_
            refine AllReadyH.cons (o := { dst := some 14, op := Go.Op.call { callee := Go.Callee.value (Go.Operand.func 37), args := #[Go.Operand.tmp 11, Go.Operand.tmp 13], argTypes := #[33, 33] }, type := 33, pos := "ref.go:86", after := #[{ on := 2, ground := Go.Ground.data }, { on := 4, ground := Go.Ground.data }], guard := none }) rfl (fun K hK => ?_) AllReadyH.nil
            go_simp
            refine (HA.out _).mono ?_
            rintro e w2 ⟨rfl, rfl⟩
            refine hK.out _ _ ?_ (fun hHeld => ?_)
            · (try dsimp only)
              exact hHeld
            clear hK K
            (try simp only [Act.put, List.setIfInBounds_toArray, List.set_cons_zero, List.set_cons_succ])
            refine wpAnyH_take (i := 6) (oi := { dst := some 15, op := Go.Op.convert 33 22 (Go.Operand.tmp 14), type := 22, pos := "ref.go:86", after := #[{ on := 5, ground := Go.Ground.data }], guard := none }) (v := ?_) rfl (by kernel_rfl) (by kernel_rfl) (by kernel_rfl) (fun _ _ _ h => h) (Or.inl ⟨by rfl, ?_⟩) (by assumption) ?_
            rotate_left
            · intro w hSw
              (try dsimp only at hSw)
              go_simp
              try with_reducible rfl
            (try simp only [Act.put, List.setIfInBounds_toArray, List.set_cons_zero, List.set_cons_succ])
            refine wpAnyH_take (i := 7) (oi := { dst := some 16, op := Go.Op.binOp Go.BinOp.mul 22 (Go.Operand.tmp 10) (Go.Operand.tmp 15) 22, type := 22, pos := "ref.go:86", after := #[{ on := 1, ground := Go.Ground.data }, { on := 6, ground := Go.Ground.data }], guard := none }) (v := ?_) rfl (by kernel_rfl) (by kernel_rfl) (by kernel_rfl) (fun _ _ _ h => h) (Or.inl ⟨by rfl, ?_⟩) (by assumption) ?_
            rotate_left
            · intro w hSw
              (try dsimp only at hSw)
              go_simp
              try with_reducible rfl
            (try simp only [Act.put, List.setIfInBounds_toArray, List.set_cons_zero, List.set_cons_succ])
            refine wpAnyH_take (i := 8) (oi := { dst := some 5, op := Go.Op.assign (Go.Operand.tmp 16), type := 22, pos := "ref.go:86", after := #[{ on := 7, ground := Go.Ground.data }, { on := 5, ground := Go.Ground.chain }, { on := 0, ground := Go.Ground.phase }, { on := 1, ground := Go.Ground.phase }, { on := 2, ground := Go.Ground.phase }, { on := 3, ground := Go.Ground.phase }, { on := 4, ground := Go.Ground.phase }, { on := 5, ground := Go.Ground.phase }, { on := 6, ground := Go.Ground.phase }, { on := 7, ground := Go.Ground.phase }], guard := none }) (v := ?_) rfl (by kernel_rfl) (by kernel_rfl) (by kernel_rfl) (fun _ _ _ h => h) (Or.inl ⟨by rfl, ?_⟩) (by assumption) ?_
            rotate_left
            · intro w hSw
              (try dsimp only at hSw)
              go_simp
              try with_reducible rfl
            (try simp only [Act.put, List.setIfInBounds_toArray, List.set_cons_zero, List.set_cons_succ])
            refine wpAnyH_done (by kernel_rfl) ?_ _
            clear hHeld
            go_upto_region 6 with fail
            obtain ⟨w5, hw5⟩ : ∃ w5, w5 = ((w1.setCell ⟨w.heap.size, 2, none⟩ (.float .f64 s)).setCell ⟨w.heap.size, 2, none⟩ (.float .f64 mo)).drew := ⟨_, rfl⟩
            have hBB : Below w.heap.size w w5 := by rw [hw5]; exact ((HB1.out.setCell (Nat.le_refl _) _).setCell (Nat.le_refl _) _).drew
            have hz5 : w.heap.size + 2 ≤ w5.heap.size := by rw [hw5]; simpa using hz1
            have x0 : w5.cell? ⟨w.heap.size, 0, none⟩ = some (.float .f64 lv) := by rw [hw5]; simp [go_sem, e0]
            have x1 : w5.cell? ⟨w.heap.size, 1, none⟩ = some (.float .f64 mo) := by rw [hw5]; simp [go_sem, e1]
            have x2 : w5.cell? ⟨w.heap.size, 2, none⟩ = some (.float .f64 mo) := by rw [hw5]; simp [go_sem, e2]
            have x3 : w5.cell? ⟨w.heap.size, 3, none⟩ = some (.int .u32 (last : Int)) := by rw [hw5]; simp [go_sem, e3]
            have y0 : w5.cell? ⟨w.heap.size + 1, 0, none⟩ = some (.float .f64 0) := by rw [hw5]; simp [go_sem, d0]
            have y1 : w5.cell? ⟨w.heap.size + 1, 1, none⟩ = some (.float .f64 0) := by rw [hw5]; simp [go_sem, d1]
            have y2 : w5.cell? ⟨w.heap.size + 1, 2, none⟩ = some (.float .f64 0) := by rw [hw5]; simp [go_sem, d2]
            have y3 : w5.cell? ⟨w.heap.size + 1, 3, none⟩ = some (.int .u32 0) := by rw [hw5]; simp [go_sem, d3]
            have g0 : ∀ o, w5.frozen? ⟨w.heap.size, o, none⟩ = false := fun o => by rw [hw5]; simp [go_sem, f0]
            have g1 : ∀ o, w5.frozen? ⟨w.heap.size + 1, o, none⟩ = false := fun o => by rw [hw5]; simp [go_sem, f1]
            rw [← hw5]
            clear hw5 e0 e1 e2 e3 d0 d1 d2 d3 f0 f1 HB1 hz1
            have d0 := y0
            have d1 := y1
            have d2 := y2
            have d3 := y3
            have e0 := x0
            have e1 := x1
            have e2 := x2
            have e3 := x3
            clear x0 x1 x2 x3 y0 y1 y2 y3
            go_wp2
            exact bodyPost_ret (v := .agg #[.float .f64 lv, .float .f64 mo, .float .f64 0, .int .u32 (now : Int)]) (by simp [results, Try.results26, go_sem, d0, d1, d2, d3]) rfl ⟨rfl, (by (repeat' (first | (with_reducible exact Below.refl _ _) | (with_reducible assumption) | (with_reducible refine Below.setCell ?_ ?_ _) | (with_reducible refine Below.alloc ?_ ?_ _) | (with_reducible refine below_drewN ?_ _) | (with_reducible refine Below.drew ?_) | go_size)))⟩
          · rw [g2] at q2
            rw [room_some (r := mo) (z := true) hp hs (if_pos g1) g2, if_pos rfl]
            clear hp hs g1 g2
            go_enter Try.func26, Try.ntmps26
            go_wp2_with fail
            refine (HO.out _).mono ?_
            rintro e w1 ⟨rfl, hb⟩
            obtain ⟨hc1, hf1⟩ := bcell hb
            have hz1 : w.heap.size + 2 ≤ w1.heap.size := by have := hb.size; simp at this; omega
            have HB1 : Hid (Below w.heap.size w w1) := Below.trans (by (repeat' (first | (with_reducible exact Below.refl _ _) | (with_reducible assumption) | (with_reducible refine Below.setCell ?_ ?_ _) | (with_reducible refine Below.alloc ?_ ?_ _) | (with_reducible refine below_drewN ?_ _) | (with_reducible refine Below.drew ?_) | go_size))) (hb.mono (by go_size))
            have e0 : w1.cell? ⟨w.heap.size, 0, none⟩ = some (.float .f64 lv) := by rw [hc1 _ _ (by simp; omega)]; simp [go_sem]
            have e1 : w1.cell? ⟨w.heap.size, 1, none⟩ = some (.float .f64 mo) := by rw [hc1 _ _ (by simp; omega)]; simp [go_sem]
            have e2 : w1.cell? ⟨w.heap.size, 2, none⟩ = some (.float .f64 ro) := by rw [hc1 _ _ (by simp; omega)]; simp [go_sem]
            have e3 : w1.cell? ⟨w.heap.size, 3, none⟩ = some (.int .u32 (last : Int)) := by rw [hc1 _ _ (by simp; omega)]; simp [go_sem]
            have d0 : w1.cell? ⟨w.heap.size + 1, 0, none⟩ = some (.float .f64 0) := by rw [hc1 _ _ (by simp)]; simp [go_sem]
            have d1 : w1.cell? ⟨w.heap.size + 1, 1, none⟩ = some (.float .f64 0) := by rw [hc1 _ _ (by simp)]; simp [go_sem]
            have d2 : w1.cell? ⟨w.heap.size + 1, 2, none⟩ = some (.float .f64 0) := by rw [hc1 _ _ (by simp)]; simp [go_sem]
            have d3 : w1.cell? ⟨w.heap.size + 1, 3, none⟩ = some (.int .u32 0) := by rw [hc1 _ _ (by simp)]; simp [go_sem]
            have f0 : ∀ o, w1.frozen? ⟨w.heap.size, o, none⟩ = false := fun o => by rw [hf1 _ _ (by simp; omega)]; simp [go_sem]
            have f1 : ∀ o, w1.frozen? ⟨w.heap.size + 1, o, none⟩ = false := fun o => by rw [hf1 _ _ (by simp)]; simp [go_sem]
            clear hc1 hf1 hb
            go_wp2_with fail
            refine wp_region_held_drew (S := fun w' => w'.cell? ⟨w.heap.size, 0, none⟩ = some (.float .f64 lv) ∧ w'.cell? ⟨w.heap.size, 1, none⟩ = some (.float .f64 mo) ∧ w'.cell? ⟨w.heap.size, 2, none⟩ = some (.float .f64 ro) ∧ w'.cell? ⟨w.heap.size, 3, none⟩ = some (.int .u32 (last : Int))) (by kernel_rfl) ?_ (fun hHeld => ?_)
            · exact ⟨e0, e1, e2, e3⟩
            refine wpAnyH_take (i := 0) (oi := { dst := some 9, op := Go.Op.fieldAddr 35 (Go.Operand.tmp 2) 0, type := 0, pos := "ref.go:86", after := #[], guard := none }) (v := ?_) rfl (by kernel_rfl) (by kernel_rfl) (by kernel_rfl) (fun _ _ _ h => h) (Or.inl ⟨by rfl, ?_⟩) (by assumption) ?_
            rotate_left
            · intro w hSw
              (try dsimp only at hSw)
              go_simp
              try with_reducible rfl
            (try simp only [Act.put, List.setIfInBounds_toArray, List.set_cons_zero, List.set_cons_succ])
            refine wpAnyH_take (i := 1) (oi := { dst := some 10, op := Go.Op.load 22 (Go.Operand.tmp 9), type := 22, pos := "ref.go:86", after := #[{ on := 0, ground := Go.Ground.data }], guard := none }) (v := ?_) rfl (by kernel_rfl) (by kernel_rfl) (by kernel_rfl) (fun _ _ _ h => h) (Or.inl ⟨by rfl, ?_⟩) (by assumption) ?_
            rotate_left
            · intro w hSw
              (try dsimp only at hSw)
              go_simp
              try with_reducible rfl
            (try simp only [Act.put, List.setIfInBounds_toArray, List.set_cons_zero, List.set_cons_succ])
            refine wpAnyH_take (i := 2) (oi := { dst := some 11, op := Go.Op.move (Go.Operand.tmp 1), type := 33, pos := "ref.go:86", after := #[], guard := none }) (v := ?_) rfl (by kernel_rfl) (by kernel_rfl) (by kernel_rfl) (fun _ _ _ h => h) (Or.inl ⟨by rfl, ?_⟩) (by assumption) ?_
            rotate_left
            · intro w hSw
              (try dsimp only at hSw)
              go_simp
              try with_reducible rfl
            (try simp only [Act.put, List.setIfInBounds_toArray, List.set_cons_zero, List.set_cons_succ])
            refine wpAnyH_take (i := 3) (oi := { dst := some 12, op := Go.Op.fieldAddr 35 (Go.Operand.tmp 2) 3, type := 0, pos := "ref.go:86", after := #[], guard := none }) (v := ?_) rfl (by kernel_rfl) (by kernel_rfl) (by kernel_rfl) (fun _ _ _ h => h) (Or.inl ⟨by rfl, ?_⟩) (by assumption) ?_
            rotate_left
            · intro w hSw
              (try dsimp only at hSw)
              go_simp
              try with_reducible rfl
            (try simp only [Act.put, List.setIfInBounds_toArray, List.set_cons_zero, List.set_cons_succ])
            refine wpAnyH_take (i := 4) (oi := { dst := some 13, op := Go.Op.load 33 (Go.Operand.tmp 12), type := 33, pos := "ref.go:86", after := #[{ on := 3, ground := Go.Ground.data }], guard := none }) (v := ?_) rfl (by kernel_rfl) (by kernel_rfl) (by kernel_rfl) (fun _ _ _ h => h) (Or.inl ⟨by rfl, ?_⟩) (by assumption) ?_
            rotate_left
            · intro w hSw
              (try dsimp only at hSw)
              go_simp
              try with_reducible rfl
            (try simp only [Act.put, List.setIfInBounds_toArray, List.set_cons_zero, List.set_cons_succ])
            refine wpAnyH_ready (rs := [5]) (by kernel_rfl) (by simp) ?_
            refine AllReadyH.cons (o := { dst := some 14, op := Go.Op.call { callee := Go.Callee.value (Go.Operand.func 37), args := #[Go.Operand.tmp 11, Go.Operand.tmp 13], argTypes := #[33, 33] }, type := 33, pos := "ref.go:86", after := #[{ on := 2, ground := Go.Ground.data }, { on := 4, ground := Go.Ground.data }], guard := none }) rfl (fun K hK => ?_) AllReadyH.nil
            go_simp
            refine (HA.out _).mono ?_
            rintro e w2 ⟨rfl, rfl⟩
            refine hK.out _ _ ?_ (fun hHeld => ?_)
            · (try dsimp only)
              exact hHeld
            clear hK K
            (try simp only [Act.put, List.setIfInBounds_toArray, List.set_cons_zero, List.set_cons_succ])
            refine wpAnyH_take (i := 6) (oi := { dst := some 15, op := Go.Op.convert 33 22 (Go.Operand.tmp 14), type := 22, pos := "ref.go:86", after := #[{ on := 5, ground := Go.Ground.data }], guard := none }) (v := ?_) rfl (by kernel_rfl) (by kernel_rfl) (by kernel_rfl) (fun _ _ _ h => h) (Or.inl ⟨by rfl, ?_⟩) (by assumption) ?_
            rotate_left
            · intro w hSw
              (try dsimp only at hSw)
              go_simp
              try with_reducible rfl
            (try simp only [Act.put, List.setIfInBounds_toArray, List.set_cons_zero, List.set_cons_succ])
            refine wpAnyH_take (i := 7) (oi := { dst := some 16, op := Go.Op.binOp Go.BinOp.mul 22 (Go.Operand.tmp 10) (Go.Operand.tmp 15) 22, type := 22, pos := "ref.go:86", after := #[{ on := 1, ground := Go.Ground.data }, { on := 6, ground := Go.Ground.data }], guard := none }) (v := ?_) rfl (by kernel_rfl) (by kernel_rfl) (by kernel_rfl) (fun _ _ _ h => h) (Or.inl ⟨by rfl, ?_⟩) (by assumption) ?_
            rotate_left
            · intro w hSw
              (try dsimp only at hSw)
              go_simp
              try with_reducible rfl
            (try simp only [Act.put, List.setIfInBounds_toArray, List.set_cons_zero, List.set_cons_succ])
            refine wpAnyH_take (i := 8) (oi := { dst := some 5, op := Go.Op.assign (Go.Operand.tmp 16), type := 22, pos := "ref.go:86", after := #[{ on := 7, ground := Go.Ground.data }, { on := 5, ground := Go.Ground.chain }, { on := 0, ground := Go.Ground.phase }, { on := 1, ground := Go.Ground.phase }, { on := 2, ground := Go.Ground.phase }, { on := 3, ground := Go.Ground.phase }, { on := 4, ground := Go.Ground.phase }, { on := 5, ground := Go.Ground.phase }, { on := 6, ground := Go.Ground.phase }, { on := 7, ground := Go.Ground.phase }], guard := none }) (v := ?_) rfl (by kernel_rfl) (by kernel_rfl) (by kernel_rfl) (fun _ _ _ h => h) (Or.inl ⟨by rfl, ?_⟩) (by assumption) ?_
            rotate_left
            · intro w hSw
              (try dsimp only at hSw)
              go_simp
              try with_reducible rfl
            (try simp only [Act.put, List.setIfInBounds_toArray, List.set_cons_zero, List.set_cons_succ])
            refine wpAnyH_done (by kernel_rfl) ?_ _
            clear hHeld
            go_wp2
            have hBB := HB1.out
            exact bodyPost_ret (v := .agg #[.float .f64 lv, .float .f64 mo, .float .f64 mo, .int .u32 (now : Int)]) (by simp [results, Try.results26, go_sem, d0, d1, d2, d3]) rfl ⟨rfl, (by (repeat' (first | (with_reducible exact Below.refl _ _) | (with_reducible assumption) | (with_reducible refine Below.setCell ?_ ?_ _) | (with_reducible refine Below.alloc ?_ ?_ _) | (with_reducible refine below_drewN ?_ _) | (with_reducible refine Below.drew ?_) | go_size)))⟩
  · rw [ho] at HO
    rw [if_pos rfl]
    clear ho HA
    go_enter Try.func26, Try.ntmps26
    go_wp2_with fail
    refine (HO.out _).mono ?_
    rintro e w1 ⟨rfl, hb⟩
    obtain ⟨hc1, hf1⟩ := bcell hb
    have hz1 : w.heap.size + 2 ≤ w1.heap.size := by have := hb.size; simp at this; omega
    have HB1 : Hid (Below w.heap.size w w1) := Below.trans (by (repeat' (first | (with_reducible exact Below.refl _ _) | (with_reducible assumption) | (with_reducible refine Below.setCell ?_ ?_ _) | (with_reducible refine Below.alloc ?_ ?_ _) | (with_reducible refine below_drewN ?_ _) | (with_reducible refine Below.drew ?_) | go_size))) (hb.mono (by go_size))
    have e0 : w1.cell? ⟨w.heap.size, 0, none⟩ = some (.float .f64 lv) := by rw [hc1 _ _ (by simp; omega)]; simp [go_sem]
    have e1 : w1.cell? ⟨w.heap.size, 1, none⟩ = some (.float .f64 mo) := by rw [hc1 _ _ (by simp; omega)]; simp [go_sem]
    have e2 : w1.cell? ⟨w.heap.size, 2, none⟩ = some (.float .f64 ro) := by rw [hc1 _ _ (by simp; omega)]; simp [go_sem]
    have e3 : w1.cell? ⟨w.heap.size, 3, none⟩ = some (.int .u32 (last : Int)) := by rw [hc1 _ _ (by simp; omega)]; simp [go_sem]
    have d0 : w1.cell? ⟨w.heap.size + 1, 0, none⟩ = some (.float .f64 0) := by rw [hc1 _ _ (by simp)]; simp [go_sem]
    have d1 : w1.cell? ⟨w.heap.size + 1, 1, none⟩ = some (.float .f64 0) := by rw [hc1 _ _ (by simp)]; simp [go_sem]
    have d2 : w1.cell? ⟨w.heap.size + 1, 2, none⟩ = some (.float .f64 0) := by rw [hc1 _ _ (by simp)]; simp [go_sem]
    have d3 : w1.cell? ⟨w.heap.size + 1, 3, none⟩ = some (.int .u32 0) := by rw [hc1 _ _ (by simp)]; simp [go_sem]
    have f0 : ∀ o, w1.frozen? ⟨w.heap.size, o, none⟩ = false := fun o => by rw [hf1 _ _ (by simp; omega)]; simp [go_sem]
    have f1 : ∀ o, w1.frozen? ⟨w.heap.size + 1, o, none⟩ = false := fun o => by rw [hf1 _ _ (by simp)]; simp [go_sem]
    clear hc1 hf1 hb
    go_wp2
    have hBB := HB1.out
    exact bodyPost_ret (v := .agg #[.float .f64 lv, .float .f64 mo, .float .f64 ro, .int .u32 (now : Int)]) (by simp [results, Try.results26, go_sem, d0, d1, d2, d3]) rfl ⟨rfl, (by (repeat' (first | (with_reducible exact Below.refl _ _) | (with_reducible assumption) | (with_reducible refine Below.setCell ?_ ?_ _) | (with_reducible refine Below.alloc ?_ ?_ _) | (with_reducible refine below_drewN ?_ _) | (with_reducible refine Below.drew ?_) | go_size)))⟩
end Go.Proofs.Ytdgjgddobjhekaa
