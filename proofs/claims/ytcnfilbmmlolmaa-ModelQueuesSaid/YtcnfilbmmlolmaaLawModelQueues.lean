/-
  What waits from one port to another one is a queue: for every plan, every row of Ops, every two ports. No condition.
-/
import Derived.Test.YtcnfilbmmlolmaaRows
import Derived.Test.YtcnfilbmmlolmaaOpenOp
import Derived.Test.YtcnfilbmmlolmaaOpenU
import Derived.Test.YtcnfilbmmlolmaaMoY
import Derived.Test.YtcnfilbmmlolmaaMoJ
import Derived.Test.YtcnfilbmmlolmaaMoK
import Derived.Test.YtcnfilbmmlolmaaMoL
import Derived.Test.YtcnfilbmmlolmaaMoP
import Derived.WalkKit
import Derived.ProofKit
import Derived.OpenShut
namespace Go.Proofs.Ytcnfilbmmlolmaa.modelQueues
open Go.ChangeShapes Go.WideShapes Go.ChangeAt Go.RowKit
open Go.ChangeMaps (open_string)
set_option linter.unusedVariables false

theorem own : ownKnob Try.prog.godebug = none := by kernel_rfl
theorem sl_tail {w : World} {L cap b k : Nat} {x : Int} {l : List Int} (h : w.ownsRow L 3 1 (.slice (some ⟨b, 0, none⟩) (k + 1) cap) (k + 1) (kv .i64 (x :: l))) :
    ∃ A : Addr, (if cap = 1 then some (⟨b, 0, none⟩ : Addr) else some ⟨b, 1, none⟩) = some A ∧ Sl w w.heap.size 1 (.slice (some A) k (cap - 1)) k (kv .i64 l) := by
  obtain ⟨hnc, hcm⟩ : k + 1 ≤ cap ∧ cap ≤ maxLen := by
    obtain ⟨A8, c8, h8, h81, h82⟩ := (Sl.of_own h).form
    injection h8 with _ _ h8
    subst h8
    exact ⟨h81, h82⟩
  have hlen : (kv .i64 (x :: l)).length = k + 1 := by have := h.1; omega
  have hl : (kv .i64 l).length = k := by simp [kv] at hlen ⊢; omega
  have hb := (h.lt b rfl).2
  by_cases hc : cap = 1
  · refine ⟨⟨b, 0, none⟩, by simp [hc], by omega, _, _, rfl, by omega, by omega, fun hk => by omega⟩
  · refine ⟨⟨b, 1, none⟩, by simp [hc], by omega, _, _, rfl, by omega, by omega, fun hk => ⟨b, 1, rfl, hb, fun j hj => ?_⟩⟩
    rw [show 1 + j = j + 1 by omega]
    exact (h.cellAt (j + 1) (by omega)).trans rfl

set_option maxRecDepth 20000 in
set_option maxHeartbeats 12800000 in
theorem walk (W : World) (P0 : Int) (vr0 vv0 : Value) (a0 b0 c0 T0 R0 : Int) (nm0 sh0 : Nat) (lr0 : List Rl) (lv0 : List Vl) (hr0 : Sl W W.heap.size 2 vr0 lr0.length (rlc lr0)) (hv0 : Sl W W.heap.size 3 vv0 lv0.length (vlc lv0)) (ho0 : ∀ x ∈ lv0, x.ok) (a1 : Value) (b1 : Ops17 W a1) (a2 e2 : Int) :
    Calls Try.prog 5 #[planV P0 vr0 vv0 a0 b0 c0 T0 R0 nm0 sh0, a1, .agg #[.int .i64 a2, .int .i64 e2]] W (Says (.bool true) W) := by
  obtain ⟨Ao, no, co, rfl, hno, hcom, hops⟩ := b1
  have HOPS := Lib.hid hops
  clear hops
  obtain ⟨Ar, cr, rfl, hcr, hcm⟩ := hr0.form
  obtain ⟨Av, cv, rfl, hcv, hcw⟩ := hv0.form
  obtain ⟨P, hP⟩ : ∃ x, x = 2 + fx 7 P0 := ⟨_, rfl⟩
  obtain ⟨S, hS⟩ : ∃ x, x = 1 + fx 8 a0 := ⟨_, rfl⟩
  obtain ⟨B, hB⟩ : ∃ x, x = 1 + fx 16 b0 := ⟨_, rfl⟩
  obtain ⟨n, hn⟩ : ∃ x, x = 1 + fx 8 c0 := ⟨_, rfl⟩
  obtain ⟨T, hT⟩ : ∃ x, x = 1 + fx 8 T0 := ⟨_, rfl⟩
  obtain ⟨Rg, hG⟩ : ∃ x, x = 1 + fx 64 R0 := ⟨_, rfl⟩
  have hfix := fun w' (hb : Below W.heap.size W w') => ref17_Fix (hr0.below hb) (hv0.below hb) ho0 hb.size P0 a0 b0 c0 T0 R0 nm0 sh0 P S B n T Rg hP hT hG hS hB hn
  unfold planV at hfix ⊢
  have HFX := Lib.hid hfix
  have HN := Lib.hid (And.intro hP (And.intro hS (And.intro hB (And.intro hn (And.intro hT hG)))))
  clear hfix hr0 hv0 ho0 hP hS hB hn hT hG hcr hcm hcv hcw
  go_enter Try.func5, Try.ntmps5
  go_upto_region 2 with (first
    | (go_at_call 22; (with_reducible refine Calls.mono (HFX.out _ (((Below.refl _ _).alloc (Nat.le_refl _) _).alloc (by simp) _)) ?_); rintro e wa ⟨ur, uw, rfl, h1, h2, hba⟩; (obtain ⟨Ax, cx, hx, _, _⟩ := (Sl.of_own h1).form); (obtain ⟨Ay, cy, hy, _, _⟩ := (Sl.of_own h2).form); subst hx; subst hy; (have H1 := Lib.hid h1); (have H2 := Lib.hid h2); (have HBA := Lib.hid hba); (have HTH : Hid (wa.there W.heap.size 0 10) := there_below (there_of (cs := #[.int .i64 P0, .slice Ar lr0.length cr, .slice Av lv0.length cv, .int .i64 a0, .int .i64 b0, .int .i64 c0, .int .i64 T0, .int .i64 R0, .int .u32 (nm0 : Int), .int .u32 (sh0 : Int)]) (heap_self W _ 28)) (((Below.refl _ _).alloc (Nat.le_refl _) _).trans (hba.mono (by simp))) (by simp)); (have HPA : Hid (wa.cell? ⟨W.heap.size + 1, 0, none⟩ = some (.int .i64 a2) ∧ wa.cell? ⟨W.heap.size + 1, 1, none⟩ = some (.int .i64 e2)) := ⟨(hba.cell (p := ⟨W.heap.size + 1, 0, none⟩) (by simp)).trans (by simp [go_sem]), (hba.cell (p := ⟨W.heap.size + 1, 1, none⟩) (by simp)).trans (by simp [go_sem])⟩); clear h1 h2 hba)
    | (refine wpList_store (by rfl) 28 _ _ (by rfl) W.heap.size 0 #[.int .i64 (P : Nat), .slice Ax P cx, .slice Ay (min lv0.length 8) cy, .int .i64 (S : Nat), .int .i64 (B : Nat), .int .i64 (n : Nat), .int .i64 (T : Nat), .int .i64 (Rg : Nat), .int .u32 (nm0 : Int), .int .u32 (sh0 : Int)] (by rfl) (by rfl) HTH.out (by kernel_rfl) (by simp [Value.oneCell']) ?_; intro wz hst; (have hWz : W.heap.size < wa.heap.size := by have := HBA.out.size; simp at this; omega); (have HBX : Hid (∀ w', Below wz.heap.size wz w' → w'.cell? ⟨W.heap.size, 0, none⟩ = some (.int .i64 (P : Nat)) ∧ w'.cell? ⟨W.heap.size, 1, none⟩ = some (.slice Ax P cx) ∧ w'.cell? ⟨W.heap.size, 2, none⟩ = some (.slice Ay (min lv0.length 8) cy) ∧ w'.cell? ⟨W.heap.size, 3, none⟩ = some (.int .i64 (S : Nat)) ∧ w'.cell? ⟨W.heap.size, 4, none⟩ = some (.int .i64 (B : Nat)) ∧ w'.cell? ⟨W.heap.size, 5, none⟩ = some (.int .i64 (n : Nat)) ∧ w'.cell? ⟨W.heap.size, 6, none⟩ = some (.int .i64 (T : Nat)) ∧ w'.cell? ⟨W.heap.size, 7, none⟩ = some (.int .i64 (Rg : Nat)) ∧ w'.cell? ⟨W.heap.size, 8, none⟩ = some (.int .u32 (nm0 : Int)) ∧ w'.cell? ⟨W.heap.size, 9, none⟩ = some (.int .u32 (sh0 : Int))) := fun w' hb => ⟨(hb.cell (p := ⟨W.heap.size, 0, none⟩) (by show W.heap.size < _; rw [hst.size]; omega)).trans (hst.cells 0 _ rfl), (hb.cell (p := ⟨W.heap.size, 1, none⟩) (by show W.heap.size < _; rw [hst.size]; omega)).trans (hst.cells 1 _ rfl), (hb.cell (p := ⟨W.heap.size, 2, none⟩) (by show W.heap.size < _; rw [hst.size]; omega)).trans (hst.cells 2 _ rfl), (hb.cell (p := ⟨W.heap.size, 3, none⟩) (by show W.heap.size < _; rw [hst.size]; omega)).trans (hst.cells 3 _ rfl), (hb.cell (p := ⟨W.heap.size, 4, none⟩) (by show W.heap.size < _; rw [hst.size]; omega)).trans (hst.cells 4 _ rfl), (hb.cell (p := ⟨W.heap.size, 5, none⟩) (by show W.heap.size < _; rw [hst.size]; omega)).trans (hst.cells 5 _ rfl), (hb.cell (p := ⟨W.heap.size, 6, none⟩) (by show W.heap.size < _; rw [hst.size]; omega)).trans (hst.cells 6 _ rfl), (hb.cell (p := ⟨W.heap.size, 7, none⟩) (by show W.heap.size < _; rw [hst.size]; omega)).trans (hst.cells 7 _ rfl), (hb.cell (p := ⟨W.heap.size, 8, none⟩) (by show W.heap.size < _; rw [hst.size]; omega)).trans (hst.cells 8 _ rfl), (hb.cell (p := ⟨W.heap.size, 9, none⟩) (by show W.heap.size < _; rw [hst.size]; omega)).trans (hst.cells 9 _ rfl)⟩); (have HPX : Hid (∀ w', Below wz.heap.size wz w' → w'.cell? ⟨W.heap.size + 1, 0, none⟩ = some (.int .i64 a2) ∧ w'.cell? ⟨W.heap.size + 1, 1, none⟩ = some (.int .i64 e2)) := fun w' hb => ⟨(hb.cell (p := ⟨W.heap.size + 1, 0, none⟩) (by show W.heap.size + 1 < _; rw [hst.size]; have := HBA.out.size; simp at this; omega)).trans ((World.cell?_of_block (hst.far (W.heap.size + 1) (by omega))).trans HPA.out.1), (hb.cell (p := ⟨W.heap.size + 1, 1, none⟩) (by show W.heap.size + 1 < _; rw [hst.size]; have := HBA.out.size; simp at this; omega)).trans ((World.cell?_of_block (hst.far (W.heap.size + 1) (by omega))).trans HPA.out.2)⟩); (have HLZ : Hid (Below W.heap.size W wz) := ((((Below.refl _ _).alloc (Nat.le_refl _) _).alloc (by simp) _).trans (HBA.out.mono (by simp; omega))).trans (hst.below _ (Nat.le_refl _))); (have HR := Lib.hid (Sl.of_own (own_stored H1.out hst (fun e => by have := (H1.out.lt _ e).1; simp at this; omega)))); (have HV := Lib.hid (Sl.of_own (own_stored H2.out hst (fun e => by have := (H2.out.lt _ e).1; simp at this; omega)))); clear hst H1 H2 HBA HTH))
  have HFG := Lib.hid (fix_good lr0 lv0 P0 a0 b0 c0 T0 R0 P S B n T Rg lv0.length HN.out.1 HN.out.2.2.2.2.1 HN.out.2.2.2.2.2 HN.out.2.1 HN.out.2.2.1 HN.out.2.2.2.1)
  have HBD : Hid ((2 ≤ P ∧ P ≤ 8) ∧ (1 ≤ S ∧ S ≤ 8) ∧ (1 ≤ B ∧ B ≤ 16) ∧ (1 ≤ n ∧ n ≤ 8) ∧ (1 ≤ Rg ∧ Rg ≤ 64)) := by
    obtain ⟨e1, e2, e3, e4, e5, e6⟩ := HN.out
    have k1 := fx_lt (k := 7) (by omega) P0
    have k2 := fx_lt (k := 8) (by omega) a0
    have k3 := fx_lt (k := 16) (by omega) b0
    have k4 := fx_lt (k := 8) (by omega) c0
    have k5 := fx_lt (k := 64) (by omega) R0
    exact ⟨by omega, by omega, by omega, by omega, by omega⟩
  have hto := fun w' (hb : Below wz.heap.size wz w') => law17_To (HR.out.below hb) (HV.out.below hb) hb.size (by omega) (by have := HBD.out.1.2; omega) (P : Nat) (S : Nat) (B : Nat) (n : Nat) (T : Nat) (Rg : Nat) nm0 sh0
  have hnw := fun (w' : World) (Bo : Nat) (vr vv : Value) (h1 : Sl w' Bo 2 vr P (rlc (fixRs lr0 P))) (h2 : Sl w' Bo 3 vv (min lv0.length 8) (vlc (fixVs (allN P) lv0 (min lv0.length 8)))) (hB : Bo ≤ w'.heap.size) => model_New h1 h2 (fixVs_ok _ _ (allN_lt _) _ (by omega)) hB (fixRs_first lr0 P) P S B n Rg T nm0 sh0 (by have := HBD.out.1; omega) HBD.out.2.1 HBD.out.2.2.1 HBD.out.2.2.2.1 (by omega) HFG.out
  unfold planV at hto hnw
  have HTO := Lib.hid hto
  have HNW := Lib.hid hnw
  have HTD := Lib.hid fun w => law17_told w
  have hq : Below wz.heap.size wz wz := Below.refl _ _
  obtain ⟨z0, z1, z2, z3, z4, z5, z6, z7, z8, z9⟩ := HBX.out _ hq
  clear hto hnw
  go_upto_region 5 with (first
    | (go_at_call 11; (with_reducible refine Calls.mono (HTO.out _ hq) ?_); rintro e w3 ⟨ur, uw, rfl, h1, h2, hba⟩; (obtain ⟨Az, cz, hx, _, _⟩ := (Sl.of_own h1).form); (obtain ⟨Ay', cy', hy, _, _⟩ := (Sl.of_own h2).form); subst hx; subst hy; (have HT1 := Lib.hid (Sl.of_own h1)); (have HT2 := Lib.hid (Sl.of_own h2)); (have hq := hq.trans (hba.mono hq.size)); (have HZ3 := Lib.hid hq.size); clear h1 h2 hba)
    | (go_at_call 10; (with_reducible refine Calls.mono (HNW.out _ _ _ _ HT1.out HT2.out (Nat.le_refl _)) ?_); rintro e w4 ⟨A, S1, Q, bp, bq, hN, uv, Rf, G, rfl, hm, hk, o1, o2, o3, o4, o5, hu, hqn, hbn⟩; (have HM4 := Lib.hid (MdAll.of_new (E := fun _ => False) hm hk o1 o2 o3 o4 o5 hu hqn (fun _ h => h.elim))); (have hq := hq.trans (hbn.mono hq.size)); clear hm hk o1 o2 o3 o4 o5 hu hqn hbn)
    | (go_at_call 12; (with_reducible refine Calls.mono (HTD.out _) ?_); rintro e w5 ⟨rfl, hbn⟩; (have HM5 := Lib.hid (HM4.out.call hbn)); (have hq := hq.trans (hbn.mono hq.size)); clear hbn))
  obtain ⟨y0, y1, y2, y3, y4, y5, y6, y7, y8, y9⟩ := HBX.out _ hq
  obtain ⟨p0, p1⟩ := HPX.out _ hq
  clear y1 y2 y3 y4 y5 y6 y7 y8 y9 z0 z1 z2 z3 z4 z5 z6 z7 z8 z9
  obtain ⟨f, hfd⟩ : ∃ x, x = fx P a2 := ⟨_, rfl⟩
  obtain ⟨t, htd⟩ : ∃ x, x = fx P e2 := ⟨_, rfl⟩
  have hP8 := HBD.out.1
  have hfP : f < P := by rw [hfd]; exact fx_lt (by omega) a2
  have htP : t < P := by rw [htd]; exact fx_lt (by omega) e2
  have hzf : wrap64 ((IntKind.u64.wrap a2).tmod (P : Int)) = (f : Int) := by rw [hfd]; exact fx_wrap (by omega) (by omega) a2
  have hzt : wrap64 ((IntKind.u64.wrap e2).tmod (P : Int)) = (t : Int) := by rw [htd]; exact fx_wrap (by omega) (by omega) e2
  have hUP : IntKind.u64.wrap (P : Int) = (P : Int) := by rw [IntKind.wrap_u64]; omega
  have hP0 : (P : Int) ≠ 0 := by omega
  have hP1 : ((P : Int) == 0) = false := by simp; omega
  have hPn : ¬ P = 0 := by omega
  clear hfd htd
  refine wp_region_held_drew (S := fun w' => w'.cell? ⟨W.heap.size, 0, none⟩ = some (.int .i64 (P : Nat)) ∧ w'.cell? ⟨W.heap.size + 1, 0, none⟩ = some (.int .i64 a2) ∧ w'.cell? ⟨W.heap.size + 1, 1, none⟩ = some (.int .i64 e2)) (by kernel_rfl) ?_ (fun hHeld => ?_)
  · exact ⟨y0, p0, p1⟩
  refine wpAnyH_take (i := 0) (oi := { dst := some 33, op := Go.Op.indexAddr 81 (Go.Operand.tmp 5) (Go.Operand.const (Go.Value.int Go.IntKind.i64 0)), type := 0, pos := "law.go:207", after := #[], guard := none }) (v := ?_) rfl (by kernel_rfl) (by kernel_rfl) (by kernel_rfl) (fun _ _ _ h => h) (Or.inl ⟨by rfl, ?_⟩) (by assumption) ?_
  rotate_left
  · intro w hSw
    (try dsimp only at hSw)
    go_simp
    try with_reducible rfl
  (try simp only [Act.put, List.setIfInBounds_toArray, List.set_cons_zero, List.set_cons_succ])
  refine wpAnyH_take (i := 1) (oi := { dst := some 34, op := Go.Op.load 3 (Go.Operand.tmp 33), type := 3, pos := "law.go:207", after := #[{ on := 0, ground := Go.Ground.data }], guard := none }) (v := ?_) rfl (by kernel_rfl) (by kernel_rfl) (by kernel_rfl) (fun _ _ _ h => h) (Or.inl ⟨by rfl, ?_⟩) (by assumption) ?_
  rotate_left
  · intro w hSw
    (try dsimp only at hSw)
    go_simp
    try with_reducible rfl
  (try simp only [Act.put, List.setIfInBounds_toArray, List.set_cons_zero, List.set_cons_succ])
  refine wpAnyH_take (i := 2) (oi := { dst := some 35, op := Go.Op.convert 3 44 (Go.Operand.tmp 34), type := 44, pos := "law.go:207", after := #[{ on := 1, ground := Go.Ground.data }], guard := none }) (v := ?_) rfl (by kernel_rfl) (by kernel_rfl) (by kernel_rfl) (fun _ _ _ h => h) (Or.inl ⟨by rfl, ?_⟩) (by assumption) ?_
  rotate_left
  · intro w hSw
    (try dsimp only at hSw)
    go_simp
    try with_reducible rfl
  (try simp only [Act.put, List.setIfInBounds_toArray, List.set_cons_zero, List.set_cons_succ])
  refine wpAnyH_take (i := 3) (oi := { dst := some 36, op := Go.Op.fieldAddr 28 (Go.Operand.tmp 3) 0, type := 0, pos := "law.go:207", after := #[], guard := none }) (v := ?_) rfl (by kernel_rfl) (by kernel_rfl) (by kernel_rfl) (fun _ _ _ h => h) (Or.inl ⟨by rfl, ?_⟩) (by assumption) ?_
  rotate_left
  · intro w hSw
    (try dsimp only at hSw)
    go_simp
    try with_reducible rfl
  (try simp only [Act.put, List.setIfInBounds_toArray, List.set_cons_zero, List.set_cons_succ])
  refine wpAnyH_take (i := 4) (oi := { dst := some 37, op := Go.Op.load 3 (Go.Operand.tmp 36), type := 3, pos := "law.go:207", after := #[{ on := 3, ground := Go.Ground.data }], guard := none }) (v := ?_) rfl (by kernel_rfl) (by kernel_rfl) (by kernel_rfl) (fun _ _ _ h => h) (Or.inl ⟨by rfl, ?_⟩) (by assumption) ?_
  rotate_left
  · intro w hSw
    (try dsimp only at hSw)
    go_simp
    try with_reducible rfl
  (try simp only [Act.put, List.setIfInBounds_toArray, List.set_cons_zero, List.set_cons_succ])
  refine wpAnyH_take (i := 5) (oi := { dst := some 38, op := Go.Op.convert 3 44 (Go.Operand.tmp 37), type := 44, pos := "law.go:207", after := #[{ on := 4, ground := Go.Ground.data }], guard := none }) (v := ?_) rfl (by kernel_rfl) (by kernel_rfl) (by kernel_rfl) (fun _ _ _ h => h) (Or.inl ⟨by rfl, ?_⟩) (by assumption) ?_
  rotate_left
  · intro w hSw
    (try dsimp only at hSw)
    go_simp
    try with_reducible rfl
  (try simp only [Act.put, List.setIfInBounds_toArray, List.set_cons_zero, List.set_cons_succ])
  refine wpAnyH_take (i := 6) (oi := { dst := some 39, op := Go.Op.binOp Go.BinOp.rem 44 (Go.Operand.tmp 35) (Go.Operand.tmp 38) 44, type := 44, pos := "law.go:207", after := #[{ on := 2, ground := Go.Ground.data }, { on := 5, ground := Go.Ground.data }], guard := none }) (v := ?_) rfl (by kernel_rfl) (by kernel_rfl) (by kernel_rfl) (fun _ _ _ h => h) (Or.inl ⟨by rfl, ?_⟩) (by assumption) ?_
  rotate_left
  · intro w hSw
    (try dsimp only at hSw)
    go_simp
    try with_reducible rfl
  (try simp only [Act.put, List.setIfInBounds_toArray, List.set_cons_zero, List.set_cons_succ])
  refine wpAnyH_take (i := 7) (oi := { dst := some 40, op := Go.Op.convert 44 3 (Go.Operand.tmp 39), type := 3, pos := "law.go:207", after := #[{ on := 6, ground := Go.Ground.data }], guard := none }) (v := ?_) rfl (by kernel_rfl) (by kernel_rfl) (by kernel_rfl) (fun _ _ _ h => h) (Or.inl ⟨by rfl, ?_⟩) (by assumption) ?_
  rotate_left
  · intro w hSw
    (try dsimp only at hSw)
    go_simp
    try with_reducible rfl
  (try simp only [Act.put, List.setIfInBounds_toArray, List.set_cons_zero, List.set_cons_succ])
  refine wpAnyH_take (i := 8) (oi := { dst := some 41, op := Go.Op.indexAddr 81 (Go.Operand.tmp 5) (Go.Operand.const (Go.Value.int Go.IntKind.i64 1)), type := 0, pos := "law.go:207", after := #[{ on := 16, ground := Go.Ground.gcOnly Go.Departure.lateStores }], guard := none }) (v := ?_) rfl (by kernel_rfl) (by kernel_rfl) (by kernel_rfl) (fun _ _ _ h => h) (Or.inl ⟨by rfl, ?_⟩) (by assumption) ?_
  rotate_left
  · intro w hSw
    (try dsimp only at hSw)
    go_simp
    try with_reducible rfl
  (try simp only [Act.put, List.setIfInBounds_toArray, List.set_cons_zero, List.set_cons_succ])
  refine wpAnyH_take (i := 9) (oi := { dst := some 42, op := Go.Op.load 3 (Go.Operand.tmp 41), type := 3, pos := "law.go:207", after := #[{ on := 8, ground := Go.Ground.data }, { on := 16, ground := Go.Ground.gcOnly Go.Departure.lateStores }], guard := none }) (v := ?_) rfl (by kernel_rfl) (by kernel_rfl) (by kernel_rfl) (fun _ _ _ h => h) (Or.inl ⟨by rfl, ?_⟩) (by assumption) ?_
  rotate_left
  · intro w hSw
    (try dsimp only at hSw)
    go_simp
    try with_reducible rfl
  (try simp only [Act.put, List.setIfInBounds_toArray, List.set_cons_zero, List.set_cons_succ])
  refine wpAnyH_take (i := 10) (oi := { dst := some 43, op := Go.Op.convert 3 44 (Go.Operand.tmp 42), type := 44, pos := "law.go:207", after := #[{ on := 9, ground := Go.Ground.data }, { on := 16, ground := Go.Ground.gcOnly Go.Departure.lateStores }], guard := none }) (v := ?_) rfl (by kernel_rfl) (by kernel_rfl) (by kernel_rfl) (fun _ _ _ h => h) (Or.inl ⟨by rfl, ?_⟩) (by assumption) ?_
  rotate_left
  · intro w hSw
    (try dsimp only at hSw)
    go_simp
    try with_reducible rfl
  (try simp only [Act.put, List.setIfInBounds_toArray, List.set_cons_zero, List.set_cons_succ])
  refine wpAnyH_take (i := 11) (oi := { dst := some 44, op := Go.Op.fieldAddr 28 (Go.Operand.tmp 3) 0, type := 0, pos := "law.go:207", after := #[{ on := 16, ground := Go.Ground.gcOnly Go.Departure.lateStores }], guard := none }) (v := ?_) rfl (by kernel_rfl) (by kernel_rfl) (by kernel_rfl) (fun _ _ _ h => h) (Or.inl ⟨by rfl, ?_⟩) (by assumption) ?_
  rotate_left
  · intro w hSw
    (try dsimp only at hSw)
    go_simp
    try with_reducible rfl
  (try simp only [Act.put, List.setIfInBounds_toArray, List.set_cons_zero, List.set_cons_succ])
  refine wpAnyH_take (i := 12) (oi := { dst := some 45, op := Go.Op.load 3 (Go.Operand.tmp 44), type := 3, pos := "law.go:207", after := #[{ on := 11, ground := Go.Ground.data }, { on := 16, ground := Go.Ground.gcOnly Go.Departure.lateStores }], guard := none }) (v := ?_) rfl (by kernel_rfl) (by kernel_rfl) (by kernel_rfl) (fun _ _ _ h => h) (Or.inl ⟨by rfl, ?_⟩) (by assumption) ?_
  rotate_left
  · intro w hSw
    (try dsimp only at hSw)
    go_simp
    try with_reducible rfl
  (try simp only [Act.put, List.setIfInBounds_toArray, List.set_cons_zero, List.set_cons_succ])
  refine wpAnyH_take (i := 13) (oi := { dst := some 46, op := Go.Op.convert 3 44 (Go.Operand.tmp 45), type := 44, pos := "law.go:207", after := #[{ on := 12, ground := Go.Ground.data }, { on := 16, ground := Go.Ground.gcOnly Go.Departure.lateStores }], guard := none }) (v := ?_) rfl (by kernel_rfl) (by kernel_rfl) (by kernel_rfl) (fun _ _ _ h => h) (Or.inl ⟨by rfl, ?_⟩) (by assumption) ?_
  rotate_left
  · intro w hSw
    (try dsimp only at hSw)
    go_simp
    try with_reducible rfl
  (try simp only [Act.put, List.setIfInBounds_toArray, List.set_cons_zero, List.set_cons_succ])
  refine wpAnyH_take (i := 14) (oi := { dst := some 47, op := Go.Op.binOp Go.BinOp.rem 44 (Go.Operand.tmp 43) (Go.Operand.tmp 46) 44, type := 44, pos := "law.go:207", after := #[{ on := 10, ground := Go.Ground.data }, { on := 13, ground := Go.Ground.data }, { on := 16, ground := Go.Ground.gcOnly Go.Departure.lateStores }], guard := none }) (v := ?_) rfl (by kernel_rfl) (by kernel_rfl) (by kernel_rfl) (fun _ _ _ h => h) (Or.inl ⟨by rfl, ?_⟩) (by assumption) ?_
  rotate_left
  · intro w hSw
    (try dsimp only at hSw)
    go_simp
    try with_reducible rfl
  (try simp only [Act.put, List.setIfInBounds_toArray, List.set_cons_zero, List.set_cons_succ])
  refine wpAnyH_take (i := 15) (oi := { dst := some 48, op := Go.Op.convert 44 3 (Go.Operand.tmp 47), type := 3, pos := "law.go:207", after := #[{ on := 14, ground := Go.Ground.data }, { on := 16, ground := Go.Ground.gcOnly Go.Departure.lateStores }], guard := none }) (v := ?_) rfl (by kernel_rfl) (by kernel_rfl) (by kernel_rfl) (fun _ _ _ h => h) (Or.inl ⟨by rfl, ?_⟩) (by assumption) ?_
  rotate_left
  · intro w hSw
    (try dsimp only at hSw)
    go_simp
    try with_reducible rfl
  (try simp only [Act.put, List.setIfInBounds_toArray, List.set_cons_zero, List.set_cons_succ])
  refine wpAnyH_take (i := 16) (oi := { dst := some 9, op := Go.Op.assign (Go.Operand.tmp 40), type := 3, pos := "law.go:207", after := #[{ on := 7, ground := Go.Ground.data }, { on := 0, ground := Go.Ground.phase }, { on := 1, ground := Go.Ground.phase }, { on := 2, ground := Go.Ground.phase }, { on := 3, ground := Go.Ground.phase }, { on := 4, ground := Go.Ground.phase }, { on := 5, ground := Go.Ground.phase }, { on := 6, ground := Go.Ground.phase }, { on := 7, ground := Go.Ground.phase }, { on := 8, ground := Go.Ground.textOnly Go.Departure.lateStores }, { on := 9, ground := Go.Ground.textOnly Go.Departure.lateStores }, { on := 10, ground := Go.Ground.textOnly Go.Departure.lateStores }, { on := 11, ground := Go.Ground.textOnly Go.Departure.lateStores }, { on := 12, ground := Go.Ground.textOnly Go.Departure.lateStores }, { on := 13, ground := Go.Ground.textOnly Go.Departure.lateStores }, { on := 14, ground := Go.Ground.textOnly Go.Departure.lateStores }, { on := 15, ground := Go.Ground.textOnly Go.Departure.lateStores }], guard := none }) (v := ?_) rfl (by kernel_rfl) (by kernel_rfl) (by kernel_rfl) (fun _ _ _ h => h) (Or.inl ⟨by rfl, ?_⟩) (by assumption) ?_
  rotate_left
  · intro w hSw
    (try dsimp only at hSw)
    go_simp
    try with_reducible rfl
  (try simp only [Act.put, List.setIfInBounds_toArray, List.set_cons_zero, List.set_cons_succ])
  refine wpAnyH_take (i := 17) (oi := { dst := some 10, op := Go.Op.assign (Go.Operand.tmp 48), type := 3, pos := "law.go:207", after := #[{ on := 15, ground := Go.Ground.data }, { on := 16, ground := Go.Ground.chain }, { on := 0, ground := Go.Ground.phase }, { on := 1, ground := Go.Ground.phase }, { on := 2, ground := Go.Ground.phase }, { on := 3, ground := Go.Ground.phase }, { on := 4, ground := Go.Ground.phase }, { on := 5, ground := Go.Ground.phase }, { on := 6, ground := Go.Ground.phase }, { on := 7, ground := Go.Ground.phase }, { on := 8, ground := Go.Ground.phase }, { on := 9, ground := Go.Ground.phase }, { on := 10, ground := Go.Ground.phase }, { on := 11, ground := Go.Ground.phase }, { on := 12, ground := Go.Ground.phase }, { on := 13, ground := Go.Ground.phase }, { on := 14, ground := Go.Ground.phase }, { on := 15, ground := Go.Ground.phase }, { on := 16, ground := Go.Ground.phase }], guard := none }) (v := ?_) rfl (by kernel_rfl) (by kernel_rfl) (by kernel_rfl) (fun _ _ _ h => h) (Or.inl ⟨by rfl, ?_⟩) (by assumption) ?_
  rotate_left
  · intro w hSw
    (try dsimp only at hSw)
    go_simp
    try with_reducible rfl
  (try simp only [Act.put, List.setIfInBounds_toArray, List.set_cons_zero, List.set_cons_succ])
  refine wpAnyH_done (by kernel_rfl) ?_ _
  obtain ⟨v5, hv5⟩ : ∃ w', w' = w5.drew := ⟨_, rfl⟩
  have hqv : Below wz.heap.size wz v5 := by rw [hv5]; exact hq.trans ((Below.refl _ _).drew)
  have HM5v : Hid (MdAll (fun _ => False) v5 w3.heap.size A S1 Q bp bq P Rg S B n (min lv0.length 8) uv (fixVs (allN P) lv0 (min lv0.length 8)) (fun _ => (0, 0)) (fun _ _ => pl0) G Rf (fun _ _ => .slice none 0 0) (fun _ _ => [])) := by rw [hv5]; exact HM5.out.call (Below.refl _ _).drew
  rw [← hv5]
  clear hHeld y0 p0 p1 hv5
  go_upto_region 6 with fail
  have hzf' : IntKind.i64.wrap ((IntKind.u64.wrap a2).tmod (P : Int)) = (f : Int) := by have h9 := hzf; unfold wrap64 at h9; rw [IntKind.wrap_i64]; exact h9
  have hzt' : IntKind.i64.wrap ((IntKind.u64.wrap e2).tmod (P : Int)) = (t : Int) := by have h9 := hzt; unfold wrap64 at h9; rw [IntKind.wrap_i64]; exact h9
  simp only [hzf', hzt']
  clear hzf' hzt'
  clear hzf hzt hUP hP0 hP1 hPn
  go_wp2
  go_loopw [11, 12] (fun qx iv wr => ∃ (k : Nat) (s : Ms) (qv' : Nat → Nat → Value) (E : Nat → Prop) (Aq : Option Addr) (cq : Nat) (l : List Int) (m : Nat), k ≤ no ∧ k ≤ 150 ∧ iv = .int .i64 k ∧ qx = .slice Aq m cq ∧ m ≤ Rg ∧ Hid (s.qs f t = l ∧ m = l.length) ∧ Hid (MdAll E wr w3.heap.size A S1 Q bp bq P Rg S B n (min lv0.length 8) uv s.lv s.st s.g G Rf qv' s.qs ∧ s.good ∧ Below wz.heap.size wz wr) ∧ Hid (wr.ownsRow w3.heap.size 3 1 (.slice Aq m cq) m (kv .i64 l) ∧ ∀ b, (Value.slice Aq m cq).ownBlock = some b → E b)) (fun _ iv _ => 150 - (intOf iv).toNat)
  case atStart => exact ⟨0, ⟨fixVs (allN P) lv0 (min lv0.length 8), fun _ => (0, 0), fun _ _ => pl0, fun _ _ => []⟩, _, _, none, 0, [], 0, by omega, by omega, rfl, rfl, by omega, Lib.hid ⟨rfl, rfl⟩, Lib.hid ⟨HM5v.out, ⟨fun _ _ => by show (0 : Nat) < _; omega, fixVs_ok _ _ (allN_lt _) _ (by omega)⟩, hqv⟩, Lib.hid ⟨World.ownsRow_nil _ _ _ _, fun b hb => by cases hb⟩⟩
  case round =>
    obtain ⟨k, s, qv', E, Aq, cq, l, m, hk1, hk2, rfl, rfl, hmr, HL, HI, HO⟩ := hrel
    rename_i wr _
    have hRg := HBD.out.2.2.2.2
    by_cases hlt : k < no ∧ k < 150
    · have d1 : decide (k < no) = true := decide_eq_true hlt.1
      have d2 : decide ((k : Int) < 150) = true := decide_eq_true (by omega)
      have d2' : decide (k < 150) = true := decide_eq_true (by omega)
      obtain ⟨b, off, rfl, hb, hcell⟩ := HOPS.out (by omega)
      obtain ⟨kd, po, tt, vi, sx, kq, km, me, un, nw, li, sh, bu, id, ⟨bv, bkm, bme, bun, bnw, bli⟩, e0, e1, e2', e3, e4, e5, e6, e7, e8, e9, e10, e11, e12, e13⟩ := hcell k hlt.1
      have hWz : W.heap.size ≤ wz.heap.size := HLZ.out.size
      have HCL : Hid (∀ w', Below wz.heap.size wz w' → w'.cell? ⟨b, off + k * 14, none⟩ = some (.int .i64 kd) ∧ w'.cell? ⟨b, off + k * 14 + 1, none⟩ = some (.int .i64 po) ∧ w'.cell? ⟨b, off + k * 14 + 2, none⟩ = some (.int .i64 tt) ∧ w'.cell? ⟨b, off + k * 14 + 3, none⟩ = some (.int .i64 vi) ∧ w'.cell? ⟨b, off + k * 14 + 4, none⟩ = some (.int .i64 sx) ∧ w'.cell? ⟨b, off + k * 14 + 5, none⟩ = some (.int .i64 kq) ∧ w'.cell? ⟨b, off + k * 14 + 6, none⟩ = some (.int .u64 (km : Nat)) ∧ w'.cell? ⟨b, off + k * 14 + 7, none⟩ = some (.int .u64 (me : Nat)) ∧ w'.cell? ⟨b, off + k * 14 + 8, none⟩ = some (.int .u64 (un : Nat)) ∧ w'.cell? ⟨b, off + k * 14 + 9, none⟩ = some (.int .u32 (nw : Nat)) ∧ w'.cell? ⟨b, off + k * 14 + 10, none⟩ = some (.int .u32 (li : Nat)) ∧ w'.cell? ⟨b, off + k * 14 + 11, none⟩ = some (.int .i64 sh) ∧ w'.cell? ⟨b, off + k * 14 + 12, none⟩ = some (.int .i64 bu) ∧ w'.cell? ⟨b, off + k * 14 + 13, none⟩ = some (.int .i64 id)) := fun w' hb9 => by
        have hbw := HLZ.out.trans (hb9.mono hWz)
        exact ⟨(hbw.cell (p := ⟨b, off + k * 14 + 0, none⟩) (by show b < _; omega)).trans e0, (hbw.cell (p := ⟨b, off + k * 14 + 1, none⟩) (by show b < _; omega)).trans e1, (hbw.cell (p := ⟨b, off + k * 14 + 2, none⟩) (by show b < _; omega)).trans e2', (hbw.cell (p := ⟨b, off + k * 14 + 3, none⟩) (by show b < _; omega)).trans e3, (hbw.cell (p := ⟨b, off + k * 14 + 4, none⟩) (by show b < _; omega)).trans e4, (hbw.cell (p := ⟨b, off + k * 14 + 5, none⟩) (by show b < _; omega)).trans e5, (hbw.cell (p := ⟨b, off + k * 14 + 6, none⟩) (by show b < _; omega)).trans e6, (hbw.cell (p := ⟨b, off + k * 14 + 7, none⟩) (by show b < _; omega)).trans e7, (hbw.cell (p := ⟨b, off + k * 14 + 8, none⟩) (by show b < _; omega)).trans e8, (hbw.cell (p := ⟨b, off + k * 14 + 9, none⟩) (by show b < _; omega)).trans e9, (hbw.cell (p := ⟨b, off + k * 14 + 10, none⟩) (by show b < _; omega)).trans e10, (hbw.cell (p := ⟨b, off + k * 14 + 11, none⟩) (by show b < _; omega)).trans e11, (hbw.cell (p := ⟨b, off + k * 14 + 12, none⟩) (by show b < _; omega)).trans e12, (hbw.cell (p := ⟨b, off + k * 14 + 13, none⟩) (by show b < _; omega)).trans e13⟩
      have HQ2 := Lib.hid HI.out.2.2
      obtain ⟨c0, c1, c2, c3, c4, c5, c6, c7, c8, c9, c10, c11, c12, c13⟩ := HCL.out _ HQ2.out
      have hop := fun w => law17_Op kd po tt vi sx kq km me un nw li sh bu id w
      have hdo := fun w' (hb : Below wr.heap.size wr w') => model_DoAll (HI.out.1.grow hb.size fun b hlt _ => hb.block b hlt) (by have := HBD.out.1; omega) HBD.out.2.2.2.2.2 HBD.out.2.1 HBD.out.2.2.1 HBD.out.2.2.2.1 HI.out.2.1 ⟨kd, po, tt, vi, sx, kq, km, me, un, nw, li, sh, bu, id⟩ ⟨bv, bkm, bme, bun, bnw⟩
      obtain ⟨s2, hs2⟩ : ∃ x, x = doS P Rg S B n (min lv0.length 8) s ⟨kd, po, tt, vi, sx, kq, km, me, un, nw, li, sh, bu, id⟩ := ⟨_, rfl⟩
      obtain ⟨a9, ha9⟩ : ∃ x, x = doA P Rg S B n (min lv0.length 8) s ⟨kd, po, tt, vi, sx, kq, km, me, un, nw, li, sh, bu, id⟩ := ⟨_, rfl⟩
      have hq9 : s2.qs f t = qN f t Rg ⟨kd, po, tt, vi, sx, kq, km, me, un, nw, li, sh, bu, id⟩ l := by rw [hs2, doS_q hfP htP, HL.out.1]
      rw [← hs2, ← ha9] at hdo
      unfold Od.val at hdo
      simp only [] at hdo
      unfold opV at hop hdo
      have HOP := Lib.hid hop
      clear hop hcell bv bkm bme bun bnw bli e0 e1 e2' e3 e4 e5 e6 e7 e8 e9 e10 e11 e12 e13 hs2
      have hqu := fun w' (E9 : Nat → Prop) qv9 (h : MdAll E9 w' w3.heap.size A S1 Q bp bq P Rg S B n (min lv0.length 8) uv s2.lv s2.st s2.g G Rf qv9 s2.qs) (l9 : List Int) (m9 : Nat) (e : s2.qs f t = l9) (e' : m9 = l9.length) (h9 : m9 ≤ 64) => (by have h8 := model_Queue h.md h.qu f t hfP htP (by rw [e, ← e']; omega); rw [e, ← e'] at h8; exact h8 : Calls Try.prog 18 #[.pointer (some ⟨A, 0, none⟩), .int .i64 (f : Nat), .int .i64 (t : Nat)] w' fun e w2 => ∃ u, e = .returned u ∧ w2.ownsRow w'.heap.size 3 1 u m9 (kv .i64 l9) ∧ Below w'.heap.size w' w2)
      have HQU := Lib.hid hqu
      have HIN := Lib.hid fun (w : World) (B B' : Nat) (u v : Value) (l9 : List Int) (m9 : Nat) (hu : Sl w B 1 u m9 (kv .i64 l9)) (hv : Sl w B' 1 v m9 (kv .i64 l9)) => law3_IntsEq hu hv
      clear hqu
      by_cases t1 : po = (f : Int)
      · by_cases t2 : tt = (t : Int)
        · by_cases t3 : kd = 10
          · by_cases t4 : Rg ≤ m
            · as_aux_lemma =>
                subst t1
                subst t2
                subst t3
                have HQN : Hid (s2.qs f t = l ∧ m = (l).length) := ⟨by rw [hq9]; unfold qN; rw [if_pos ⟨rfl, rfl, rfl⟩, if_pos (by rw [← HL.out.2]; exact t4)], HL.out.2⟩
                have HM64 : Hid (m ≤ 64) := Lib.hid (by have := HBD.out.2.2.2.2; omega)
                have HMR : Hid (m ≤ Rg) := Lib.hid (by omega)
                have hae : a9 = 0 := by rw [ha9]; exact (doA_10 rfl).trans ((if_pos (portB_nat hfP)).trans ((if_pos (portB_nat htP)).trans (by show (if Rg ≤ (s.qs f t).length then (0 : Int) else 1) = 0; rw [HL.out.1, ← HL.out.2, if_pos t4])))
                rw [hae] at hdo
                have d5 : decide (m < Rg) = false := decide_eq_false (by omega)
                have HDO := Lib.hid hdo
                clear hdo hq9 ha9 hae
                go_wp2_with (first
                  | (go_at_call 23; (with_reducible refine Calls.mono (HOP.out _) ?_); rintro e wo ⟨rfl, hbo⟩; (have HOC : Hid (wo.cell? ⟨wr.heap.size, 0, none⟩ = some (.int .i64 10) ∧ wo.cell? ⟨wr.heap.size, 1, none⟩ = some (.int .i64 (f : Int)) ∧ wo.cell? ⟨wr.heap.size, 2, none⟩ = some (.int .i64 (t : Int)) ∧ wo.cell? ⟨wr.heap.size, 12, none⟩ = some (.int .i64 bu) ∧ wo.cell? ⟨wr.heap.size, 13, none⟩ = some (.int .i64 id) ∧ wr.heap.size < wo.heap.size) := ⟨(hbo.cell (p := ⟨wr.heap.size, 0, none⟩) (by simp)).trans (by simp [go_sem]), (hbo.cell (p := ⟨wr.heap.size, 1, none⟩) (by simp)).trans (by simp [go_sem]), (hbo.cell (p := ⟨wr.heap.size, 2, none⟩) (by simp)).trans (by simp [go_sem]), (hbo.cell (p := ⟨wr.heap.size, 12, none⟩) (by simp)).trans (by simp [go_sem]), (hbo.cell (p := ⟨wr.heap.size, 13, none⟩) (by simp)).trans (by simp [go_sem]), (by have h9 := hbo.size; simp at h9; omega)⟩); (have HBO : Hid (Below wr.heap.size wr wo) := ((Below.refl _ _).alloc (Nat.le_refl _) _).trans (hbo.mono (by simp))); clear hbo)
                  | (go_at_call 14; (with_reducible refine Calls.mono (HDO.out _ HBO.out) ?_); rintro e wd ⟨qv2, rfl, hm2, hg2, hf2⟩; (have HQ3 := Lib.hid ((HQ2.out.trans (HBO.out.mono HQ2.out.size)).trans (hf2.low.mono HZ3.out))); (have ok := fun o => World.cell?_of_block (a := ⟨wr.heap.size, o, none⟩) (hf2.kp wr.heap.size (.inr ⟨Nat.le_refl _, HOC.out.2.2.2.2.2⟩))); (have k0 := (ok 0).trans HOC.out.1); (have k1 := (ok 1).trans HOC.out.2.1); (have k2 := (ok 2).trans HOC.out.2.2.1); (have k12 := (ok 12).trans HOC.out.2.2.2.1); (have k13 := (ok 13).trans HOC.out.2.2.2.2.1); (have HWD : Hid (wr.heap.size < wd.heap.size) := Nat.lt_of_lt_of_le HOC.out.2.2.2.2.2 hf2.low.size); (have HOD : Hid (wd.ownsRow w3.heap.size 3 1 (.slice Aq m cq) m (kv .i64 l)) := Lib.hid (own_low (own_below HO.out.1 HBO.out) (fun g hg => hf2.kp g (.inl (HO.out.2 g hg))))); (obtain ⟨_, _, _, _, _, r5', r6', r7', _, _⟩ := HBX.out _ HQ3.out); (have HM2 := Lib.hid hm2); (have HG2 := Lib.hid hg2); clear hm2 hg2 hf2 ok)
                  | (go_at_call 18; (with_reducible refine Calls.mono (HQU.out _ _ _ HM2.out l m HQN.out.1 HQN.out.2 HM64.out) ?_); rintro e wq ⟨uq, rfl, hou, hbq⟩; (obtain ⟨Au9, cu9, hx9, _, _⟩ := (Sl.of_own hou).form); subst hx9; (have HOU := Lib.hid (Sl.of_own hou)); (have HOQ := Lib.hid (own_below HOD.out hbq)); (have HBQ := Lib.hid hbq); clear hou hbq)
                  | (go_at_call 26; (with_reducible refine Calls.mono (HIN.out _ _ _ _ _ l m HOU.out (Sl.of_own HOQ.out)) ?_); rintro e _ ⟨rfl, n9, rfl⟩)
                  | fail)
                go_roundw
                case rel => exact ⟨k + 1, s2, qv2, (fun b => E b ∨ (wr.heap.size ≤ b ∧ b < wo.heap.size)), Aq, cq, l, m, by omega, by omega, by go_num, rfl, HMR.out, HQN, Lib.hid ⟨(HM2.out.call HBQ.out).call (below_drewN (Below.refl _ _) _), HG2.out, (HQ3.out.trans (HBQ.out.mono HQ3.out.size)).trans (below_drewN (Below.refl _ _) _)⟩, Lib.hid ⟨own_below HOQ.out (below_drewN (Below.refl _ _) _), fun b hb => .inl (HO.out.2 b hb)⟩⟩
                case measure => simp [intOf]; omega
            · as_aux_lemma =>
                subst t1
                subst t2
                subst t3
                have HQN : Hid (s2.qs f t = (l ++ [id]) ∧ (m + 1) = ((l ++ [id])).length) := ⟨by rw [hq9]; unfold qN; rw [if_pos ⟨rfl, rfl, rfl⟩, if_neg (by rw [← HL.out.2]; exact t4)], by rw [List.length_append, ← HL.out.2]; rfl⟩
                have HM64 : Hid ((m + 1) ≤ 64) := Lib.hid (by have := HBD.out.2.2.2.2; omega)
                have HMR : Hid ((m + 1) ≤ Rg) := Lib.hid (by omega)
                have hae : a9 = 1 := by rw [ha9]; exact (doA_10 rfl).trans ((if_pos (portB_nat hfP)).trans ((if_pos (portB_nat htP)).trans (by show (if Rg ≤ (s.qs f t).length then (0 : Int) else 1) = 1; rw [HL.out.1, ← HL.out.2, if_neg t4])))
                rw [hae] at hdo
                have t4n : m < Rg := by omega
                have d5 : decide (m < Rg) = true := decide_eq_true t4n
                have HDO := Lib.hid hdo
                clear hdo hq9 ha9 hae
                go_wp2_with (first
                  | (go_at_call 23; (with_reducible refine Calls.mono (HOP.out _) ?_); rintro e wo ⟨rfl, hbo⟩; (have HOC : Hid (wo.cell? ⟨wr.heap.size, 0, none⟩ = some (.int .i64 10) ∧ wo.cell? ⟨wr.heap.size, 1, none⟩ = some (.int .i64 (f : Int)) ∧ wo.cell? ⟨wr.heap.size, 2, none⟩ = some (.int .i64 (t : Int)) ∧ wo.cell? ⟨wr.heap.size, 12, none⟩ = some (.int .i64 bu) ∧ wo.cell? ⟨wr.heap.size, 13, none⟩ = some (.int .i64 id) ∧ wr.heap.size < wo.heap.size) := ⟨(hbo.cell (p := ⟨wr.heap.size, 0, none⟩) (by simp)).trans (by simp [go_sem]), (hbo.cell (p := ⟨wr.heap.size, 1, none⟩) (by simp)).trans (by simp [go_sem]), (hbo.cell (p := ⟨wr.heap.size, 2, none⟩) (by simp)).trans (by simp [go_sem]), (hbo.cell (p := ⟨wr.heap.size, 12, none⟩) (by simp)).trans (by simp [go_sem]), (hbo.cell (p := ⟨wr.heap.size, 13, none⟩) (by simp)).trans (by simp [go_sem]), (by have h9 := hbo.size; simp at h9; omega)⟩); (have HBO : Hid (Below wr.heap.size wr wo) := ((Below.refl _ _).alloc (Nat.le_refl _) _).trans (hbo.mono (by simp))); clear hbo)
                  | (go_at_call 14; (with_reducible refine Calls.mono (HDO.out _ HBO.out) ?_); rintro e wd ⟨qv2, rfl, hm2, hg2, hf2⟩; (have HQ3 := Lib.hid ((HQ2.out.trans (HBO.out.mono HQ2.out.size)).trans (hf2.low.mono HZ3.out))); (have ok := fun o => World.cell?_of_block (a := ⟨wr.heap.size, o, none⟩) (hf2.kp wr.heap.size (.inr ⟨Nat.le_refl _, HOC.out.2.2.2.2.2⟩))); (have k0 := (ok 0).trans HOC.out.1); (have k1 := (ok 1).trans HOC.out.2.1); (have k2 := (ok 2).trans HOC.out.2.2.1); (have k12 := (ok 12).trans HOC.out.2.2.2.1); (have k13 := (ok 13).trans HOC.out.2.2.2.2.1); (have HWD : Hid (wr.heap.size < wd.heap.size) := Nat.lt_of_lt_of_le HOC.out.2.2.2.2.2 hf2.low.size); (have HOD : Hid (wd.ownsRow w3.heap.size 3 1 (.slice Aq m cq) m (kv .i64 l)) := Lib.hid (own_low (own_below HO.out.1 HBO.out) (fun g hg => hf2.kp g (.inl (HO.out.2 g hg))))); (obtain ⟨_, _, _, _, _, r5', r6', r7', _, _⟩ := HBX.out _ HQ3.out); (have HM2 := Lib.hid hm2); (have HG2 := Lib.hid hg2); clear hm2 hg2 hf2 ok)
                  | (at_builtin; refine wpList_apv _ rfl stIntM _ _ rfl w3.heap.size (.slice Aq m cq) m (kv .i64 l) rfl (own_below HOD.out ((Below.refl _ _).alloc (Nat.le_refl _) _)) (wd.heap.size + 1) _ 1 [.int .i64 id] rfl (Sl.litN wd #[.int .i64 id] _ 1 1 rfl (by decide)) (by simp [Value.oneCell']) (by omega) (by rw [World.size_alloc]; exact Nat.le_succ_of_le HM2.out.base) ?_; intro A9 c9 w9 hown9 hgr9 hat9 hbel9; (have hz9 : wd.heap.size + 1 ≤ w9.heap.size := (by have h8 := hgr9.size; rw [World.size_alloc] at h8; exact h8)); (have HM9 := Lib.hid (HM2.out.grow (Nat.le_of_succ_le hz9) (fun b hb hne => (hgr9.block b (by rw [World.size_alloc]; exact Nat.lt_succ_of_lt hb) (fun e9 => hne (.inl (HO.out.2 b e9.symm)))).trans (((Below.refl _ _).alloc (Nat.le_refl _) _).block b hb)))); (have HE9 : Hid (∀ b, (Value.slice A9 (m + 1) c9).ownBlock = some b → (E b ∨ (wr.heap.size ≤ b ∧ b < wo.heap.size)) ∨ (wd.heap.size ≤ b ∧ b < w9.heap.size)) := fun b hb => (by rcases hat9 with h8 | h8; exact .inl (.inl (HO.out.2 b (h8.symm.trans hb))); exact .inr ⟨(by rw [hb] at h8; injection h8 with h8; rw [h8, World.size_alloc]; exact Nat.le_succ _), (hown9.lt b hb).2⟩)); (have HO9 : Hid (w9.ownsRow w3.heap.size 3 1 (.slice A9 (m + 1) c9) (m + 1) (kv .i64 (l ++ [id]))) := (by rw [show kv .i64 (l ++ [id]) = kv .i64 l ++ [.int .i64 id] from by simp [kv]]; exact hown9)); (have hko := fun o => World.cell?_of_block (a := ⟨wr.heap.size, o, none⟩) ((hgr9.block wr.heap.size (by rw [World.size_alloc]; exact Nat.lt_succ_of_lt HWD.out) (fun e9 => absurd (HI.out.1.lt _ (HO.out.2 _ e9.symm)) (Nat.lt_irrefl _))).trans (((Below.refl _ _).alloc (Nat.le_refl _) _).block wr.heap.size HWD.out))); (have j0 := (hko 0).trans k0); (have j1 := (hko 1).trans k1); (have j2 := (hko 2).trans k2); clear hko k0 k1 k2 k12 k13; (have HQ9 := Lib.hid ((HQ3.out.trans ((Below.refl _ _).alloc HQ3.out.size _)).trans (hbel9.mono HZ3.out))); clear hown9 hgr9 hat9 hbel9 hz9)
                  | (go_at_call 18; (with_reducible refine Calls.mono (HQU.out _ _ _ HM9.out (l ++ [id]) (m + 1) HQN.out.1 HQN.out.2 HM64.out) ?_); rintro e wq ⟨uq, rfl, hou, hbq⟩; (obtain ⟨Au9, cu9, hx9, _, _⟩ := (Sl.of_own hou).form); subst hx9; (have HOU := Lib.hid (Sl.of_own hou)); (have HOQ := Lib.hid (own_below HO9.out hbq)); (have HBQ := Lib.hid hbq); clear hou hbq)
                  | (go_at_call 26; (with_reducible refine Calls.mono (HIN.out _ _ _ _ _ (l ++ [id]) (m + 1) HOU.out (Sl.of_own HOQ.out)) ?_); rintro e _ ⟨rfl, n9, rfl⟩)
                  | fail)
                go_roundw
                case rel => exact ⟨k + 1, s2, qv2, (fun b => (E b ∨ (wr.heap.size ≤ b ∧ b < wo.heap.size)) ∨ (wd.heap.size ≤ b ∧ b < w9.heap.size)), A9, c9, (l ++ [id]), (m + 1), by omega, by omega, by go_num, rfl, HMR.out, HQN, Lib.hid ⟨(HM9.out.call HBQ.out).call (below_drewN (Below.refl _ _) _), HG2.out, (HQ9.out.trans (HBQ.out.mono HQ9.out.size)).trans (below_drewN (Below.refl _ _) _)⟩, Lib.hid ⟨own_below HOQ.out (below_drewN (Below.refl _ _) _), HE9.out⟩⟩
                case measure => simp [intOf]; omega
          · by_cases t4 : kd = 11
            · have t3 := t4
              clear t4
              rcases hl0 : l with _ | ⟨x, l'⟩
              · as_aux_lemma =>
                  subst t1
                  subst t2
                  subst t3
                  subst hl0
                  obtain rfl : m = 0 := HL.out.2
                  have HQN : Hid (s2.qs f t = ([] : List Int) ∧ 0 = (([] : List Int)).length) := ⟨by rw [hq9]; unfold qN; rw [if_neg (fun e => absurd (show (11 : Int) = 10 from e.2.2) (by decide)), if_pos ⟨rfl, rfl, rfl⟩]; rfl, rfl⟩
                  have HM64 : Hid (0 ≤ 64) := Lib.hid (by have := HBD.out.2.2.2.2; omega)
                  have HMR : Hid (0 ≤ Rg) := Lib.hid (by omega)
                  have hae : a9 = -1 := by rw [ha9]; exact (doA_11 rfl).trans ((if_pos (portB_nat hfP)).trans ((if_pos (portB_nat htP)).trans (by show (s.qs f t).headD (-1) = -1; rw [HL.out.1]; rfl)))
                  rw [hae] at hdo
                  have HDO := Lib.hid hdo
                  clear hdo hq9 ha9 hae
                  go_wp2_with (first
                    | (go_at_call 23; (with_reducible refine Calls.mono (HOP.out _) ?_); rintro e wo ⟨rfl, hbo⟩; (have HOC : Hid (wo.cell? ⟨wr.heap.size, 0, none⟩ = some (.int .i64 11) ∧ wo.cell? ⟨wr.heap.size, 1, none⟩ = some (.int .i64 (f : Int)) ∧ wo.cell? ⟨wr.heap.size, 2, none⟩ = some (.int .i64 (t : Int)) ∧ wo.cell? ⟨wr.heap.size, 12, none⟩ = some (.int .i64 bu) ∧ wo.cell? ⟨wr.heap.size, 13, none⟩ = some (.int .i64 id) ∧ wr.heap.size < wo.heap.size) := ⟨(hbo.cell (p := ⟨wr.heap.size, 0, none⟩) (by simp)).trans (by simp [go_sem]), (hbo.cell (p := ⟨wr.heap.size, 1, none⟩) (by simp)).trans (by simp [go_sem]), (hbo.cell (p := ⟨wr.heap.size, 2, none⟩) (by simp)).trans (by simp [go_sem]), (hbo.cell (p := ⟨wr.heap.size, 12, none⟩) (by simp)).trans (by simp [go_sem]), (hbo.cell (p := ⟨wr.heap.size, 13, none⟩) (by simp)).trans (by simp [go_sem]), (by have h9 := hbo.size; simp at h9; omega)⟩); (have HBO : Hid (Below wr.heap.size wr wo) := ((Below.refl _ _).alloc (Nat.le_refl _) _).trans (hbo.mono (by simp))); clear hbo)
                    | (go_at_call 14; (with_reducible refine Calls.mono (HDO.out _ HBO.out) ?_); rintro e wd ⟨qv2, rfl, hm2, hg2, hf2⟩; (have HQ3 := Lib.hid ((HQ2.out.trans (HBO.out.mono HQ2.out.size)).trans (hf2.low.mono HZ3.out))); (have ok := fun o => World.cell?_of_block (a := ⟨wr.heap.size, o, none⟩) (hf2.kp wr.heap.size (.inr ⟨Nat.le_refl _, HOC.out.2.2.2.2.2⟩))); (have k0 := (ok 0).trans HOC.out.1); (have k1 := (ok 1).trans HOC.out.2.1); (have k2 := (ok 2).trans HOC.out.2.2.1); (have k12 := (ok 12).trans HOC.out.2.2.2.1); (have k13 := (ok 13).trans HOC.out.2.2.2.2.1); (have HWD : Hid (wr.heap.size < wd.heap.size) := Nat.lt_of_lt_of_le HOC.out.2.2.2.2.2 hf2.low.size); (have HOD : Hid (wd.ownsRow w3.heap.size 3 1 (.slice Aq 0 cq) 0 (kv .i64 [])) := Lib.hid (own_low (own_below HO.out.1 HBO.out) (fun g hg => hf2.kp g (.inl (HO.out.2 g hg))))); (obtain ⟨_, _, _, _, _, r5', r6', r7', _, _⟩ := HBX.out _ HQ3.out); (have HM2 := Lib.hid hm2); (have HG2 := Lib.hid hg2); clear hm2 hg2 hf2 ok)
                    | (go_at_call 18; (with_reducible refine Calls.mono (HQU.out _ _ _ HM2.out [] 0 HQN.out.1 HQN.out.2 HM64.out) ?_); rintro e wq ⟨uq, rfl, hou, hbq⟩; (obtain ⟨Au9, cu9, hx9, _, _⟩ := (Sl.of_own hou).form); subst hx9; (have HOU := Lib.hid (Sl.of_own hou)); (have HOQ := Lib.hid (own_below HOD.out hbq)); (have HBQ := Lib.hid hbq); clear hou hbq)
                    | (go_at_call 26; (with_reducible refine Calls.mono (HIN.out _ _ _ _ _ [] 0 HOU.out (Sl.of_own HOQ.out)) ?_); rintro e _ ⟨rfl, n9, rfl⟩)
                    | fail)
                  go_roundw
                  case rel => exact ⟨k + 1, s2, qv2, (fun b => E b ∨ (wr.heap.size ≤ b ∧ b < wo.heap.size)), Aq, cq, [], 0, by omega, by omega, by go_num, rfl, HMR.out, HQN, Lib.hid ⟨(HM2.out.call HBQ.out).call (below_drewN (Below.refl _ _) _), HG2.out, (HQ3.out.trans (HBQ.out.mono HQ3.out.size)).trans (below_drewN (Below.refl _ _) _)⟩, Lib.hid ⟨own_below HOQ.out (below_drewN (Below.refl _ _) _), fun b hb => .inl (HO.out.2 b hb)⟩⟩
                  case measure => simp [intOf]; omega
              · as_aux_lemma =>
                  subst t1
                  subst t2
                  subst t3
                  subst hl0
                  obtain ⟨m', hm'⟩ : ∃ y, y = l'.length := ⟨_, rfl⟩
                  obtain rfl : m = m' + 1 := by rw [hm']; exact HL.out.2
                  obtain ⟨bb, rfl⟩ : ∃ bb, Aq = some ⟨bb, 0, none⟩ := by
                    rcases HO.out.1.2 with hn | ⟨g, cap, cur, hv9, _⟩
                    · cases hn.1
                    · injection hv9 with h1 h2 h3
                      exact ⟨g, h1⟩
                  have hcm9 : m' + 1 ≤ cq ∧ cq ≤ 2 ^ 63 - 1 := by
                    obtain ⟨A8, c8, h8, h81, h82⟩ := (Sl.of_own HO.out.1).form
                    injection h8 with _ _ h8
                    subst h8
                    unfold maxLen at h82
                    exact ⟨h81, h82⟩
                  have HQN : Hid (s2.qs f t = l' ∧ m' = (l').length) := ⟨by rw [hq9]; unfold qN; rw [if_neg (fun e => absurd (show (11 : Int) = 10 from e.2.2) (by decide)), if_pos ⟨rfl, rfl, rfl⟩]; rfl, hm'⟩
                  have HM64 : Hid (m' ≤ 64) := Lib.hid (by have := HBD.out.2.2.2.2; omega)
                  have HMR : Hid (m' ≤ Rg) := Lib.hid (by omega)
                  have hae : a9 = x := by rw [ha9]; exact (doA_11 rfl).trans ((if_pos (portB_nat hfP)).trans ((if_pos (portB_nat htP)).trans (by show (s.qs f t).headD (-1) = x; rw [HL.out.1]; rfl)))
                  rw [hae] at hdo
                  have d4 : ((m' + 1 : Nat) : Int) ≠ 0 := by omega
                  have d5 : (((m' + 1 : Nat) : Int) == 0) = false := by simp; omega
                  have d6 : ¬ (m' : Int) + 1 = 0 := by omega
                  have d7 : decide (0 < m' + 1) = true := by simp
                  have hp1 : (1 : Int) ≤ (m' : Int) + 1 := by omega
                  have hp2 : (m' : Int) ≤ (m' : Int) + 1 := by omega
                  have HDO := Lib.hid hdo
                  clear hdo hq9 ha9 hae hm'
                  go_wp2_with (first
                    | (go_at_call 23; (with_reducible refine Calls.mono (HOP.out _) ?_); rintro e wo ⟨rfl, hbo⟩; (have HOC : Hid (wo.cell? ⟨wr.heap.size, 0, none⟩ = some (.int .i64 11) ∧ wo.cell? ⟨wr.heap.size, 1, none⟩ = some (.int .i64 (f : Int)) ∧ wo.cell? ⟨wr.heap.size, 2, none⟩ = some (.int .i64 (t : Int)) ∧ wo.cell? ⟨wr.heap.size, 12, none⟩ = some (.int .i64 bu) ∧ wo.cell? ⟨wr.heap.size, 13, none⟩ = some (.int .i64 id) ∧ wr.heap.size < wo.heap.size) := ⟨(hbo.cell (p := ⟨wr.heap.size, 0, none⟩) (by simp)).trans (by simp [go_sem]), (hbo.cell (p := ⟨wr.heap.size, 1, none⟩) (by simp)).trans (by simp [go_sem]), (hbo.cell (p := ⟨wr.heap.size, 2, none⟩) (by simp)).trans (by simp [go_sem]), (hbo.cell (p := ⟨wr.heap.size, 12, none⟩) (by simp)).trans (by simp [go_sem]), (hbo.cell (p := ⟨wr.heap.size, 13, none⟩) (by simp)).trans (by simp [go_sem]), (by have h9 := hbo.size; simp at h9; omega)⟩); (have HBO : Hid (Below wr.heap.size wr wo) := ((Below.refl _ _).alloc (Nat.le_refl _) _).trans (hbo.mono (by simp))); clear hbo)
                    | (go_at_call 14; (with_reducible refine Calls.mono (HDO.out _ HBO.out) ?_); rintro e wd ⟨qv2, rfl, hm2, hg2, hf2⟩; (have HQ3 := Lib.hid ((HQ2.out.trans (HBO.out.mono HQ2.out.size)).trans (hf2.low.mono HZ3.out))); (have ok := fun o => World.cell?_of_block (a := ⟨wr.heap.size, o, none⟩) (hf2.kp wr.heap.size (.inr ⟨Nat.le_refl _, HOC.out.2.2.2.2.2⟩))); (have k0 := (ok 0).trans HOC.out.1); (have k1 := (ok 1).trans HOC.out.2.1); (have k2 := (ok 2).trans HOC.out.2.2.1); (have k12 := (ok 12).trans HOC.out.2.2.2.1); (have k13 := (ok 13).trans HOC.out.2.2.2.2.1); (have HWD : Hid (wr.heap.size < wd.heap.size) := Nat.lt_of_lt_of_le HOC.out.2.2.2.2.2 hf2.low.size); (have HOD : Hid (wd.ownsRow w3.heap.size 3 1 (.slice (some ⟨bb, 0, none⟩) (m' + 1) cq) (m' + 1) (kv .i64 (x :: l'))) := Lib.hid (own_low (own_below HO.out.1 HBO.out) (fun g hg => hf2.kp g (.inl (HO.out.2 g hg))))); (obtain ⟨_, _, _, _, _, r5', r6', r7', _, _⟩ := HBX.out _ HQ3.out); (obtain ⟨Ab, hAb, hTl⟩ := sl_tail HOD.out); (have HTL := Lib.hid hTl); (have x0 : wd.cell? ⟨bb, 0, none⟩ = some (.int .i64 x) := (HOD.out.cellAt 0 (by omega)).trans rfl); clear hTl; (have HM2 := Lib.hid hm2); (have HG2 := Lib.hid hg2); clear hm2 hg2 hf2 ok)
                    | (at_builtin; refine wpList_apv _ rfl stIntM _ _ rfl wd.heap.size (.slice (some ⟨wd.heap.size, 0, none⟩) 0 0) 0 [] rfl ⟨by simp, .inr ⟨wd.heap.size, 0, #[], rfl, Nat.le_refl _, heap_alloc_new wd _, Nat.le_refl _, by simp [maxLen], by simp, by simp⟩⟩ wd.heap.size _ m' (kv .i64 l') rfl (HTL.out.alloc (Nat.le_refl _) _) (kv_onesM l') (by omega) (by go_size) ?_; intro A9 c9 w9 hown9 hgr9 hat9 hbel9; (have hz9 : wd.heap.size + 1 ≤ w9.heap.size := (by have h8 := hgr9.size; rw [World.size_alloc] at h8; exact h8)); (have HM9 := Lib.hid (HM2.out.grow (Nat.le_of_succ_le hz9) (fun b hb hne => (hgr9.block b (by rw [World.size_alloc]; exact Nat.lt_succ_of_lt hb) (fun e9 => (by injection e9 with e9; exact absurd e9 (Nat.ne_of_lt hb)))).trans (((Below.refl _ _).alloc (Nat.le_refl _) _).block b hb)))); (have HE9 : Hid (∀ b, (Value.slice A9 (0 + m') c9).ownBlock = some b → (E b ∨ (wr.heap.size ≤ b ∧ b < wo.heap.size)) ∨ (wd.heap.size ≤ b ∧ b < w9.heap.size)) := fun b hb => .inr ⟨(hown9.lt b hb).1, (hown9.lt b hb).2⟩); (have HO9 : Hid (w9.ownsRow w3.heap.size 3 1 ((.slice A9 m' c9)) m' (kv .i64 l')) := Lib.hid (by simpa using own_base hown9 HM2.out.base)); (have HQ9 := Lib.hid (HQ3.out.trans ((((Below.refl _ _).alloc (Nat.le_refl _) _).trans hbel9).mono HQ3.out.size))); clear hown9 hgr9 hat9 hbel9 hz9)
                    | (go_at_call 18; (with_reducible refine Calls.mono (HQU.out _ _ _ HM9.out l' m' HQN.out.1 HQN.out.2 HM64.out) ?_); rintro e wq ⟨uq, rfl, hou, hbq⟩; (obtain ⟨Au9, cu9, hx9, _, _⟩ := (Sl.of_own hou).form); subst hx9; (have HOU := Lib.hid (Sl.of_own hou)); (have HOQ := Lib.hid (own_below HO9.out hbq)); (have HBQ := Lib.hid hbq); clear hou hbq)
                    | (go_at_call 26; (with_reducible refine Calls.mono (HIN.out _ _ _ _ _ l' m' HOU.out (Sl.of_own HOQ.out)) ?_); rintro e _ ⟨rfl, n9, rfl⟩)
                    | fail)
                  go_roundw
                  case rel => exact ⟨k + 1, s2, qv2, (fun b => (E b ∨ (wr.heap.size ≤ b ∧ b < wo.heap.size)) ∨ (wd.heap.size ≤ b ∧ b < w9.heap.size)), A9, c9, l', m', by omega, by omega, by go_num, rfl, HMR.out, HQN, Lib.hid ⟨(HM9.out.call HBQ.out).call (below_drewN (Below.refl _ _) _), HG2.out, (HQ9.out.trans (HBQ.out.mono HQ9.out.size)).trans (below_drewN (Below.refl _ _) _)⟩, Lib.hid ⟨own_below HOQ.out (below_drewN (Below.refl _ _) _), (by simpa using HE9.out)⟩⟩
                  case measure => simp [intOf]; omega
            · as_aux_lemma =>
                subst t1
                subst t2
                have HQN : Hid (s2.qs f t = l ∧ m = (l).length) := ⟨by rw [hq9]; unfold qN; rw [if_neg (fun e => t3 e.2.2), if_neg (fun e => t4 e.2.2)], HL.out.2⟩
                have HM64 : Hid (m ≤ 64) := Lib.hid (by have := HBD.out.2.2.2.2; omega)
                have HMR : Hid (m ≤ Rg) := Lib.hid (by omega)
                have t3' : (kd == 10) = false := by simpa using t3
                have t4' : (kd == 11) = false := by simpa using t4
                have HDO := Lib.hid hdo
                clear hdo hq9 ha9
                go_wp2_with (first
                  | (go_at_call 23; (with_reducible refine Calls.mono (HOP.out _) ?_); rintro e wo ⟨rfl, hbo⟩; (have HOC : Hid (wo.cell? ⟨wr.heap.size, 0, none⟩ = some (.int .i64 kd) ∧ wo.cell? ⟨wr.heap.size, 1, none⟩ = some (.int .i64 (f : Int)) ∧ wo.cell? ⟨wr.heap.size, 2, none⟩ = some (.int .i64 (t : Int)) ∧ wo.cell? ⟨wr.heap.size, 12, none⟩ = some (.int .i64 bu) ∧ wo.cell? ⟨wr.heap.size, 13, none⟩ = some (.int .i64 id) ∧ wr.heap.size < wo.heap.size) := ⟨(hbo.cell (p := ⟨wr.heap.size, 0, none⟩) (by simp)).trans (by simp [go_sem]), (hbo.cell (p := ⟨wr.heap.size, 1, none⟩) (by simp)).trans (by simp [go_sem]), (hbo.cell (p := ⟨wr.heap.size, 2, none⟩) (by simp)).trans (by simp [go_sem]), (hbo.cell (p := ⟨wr.heap.size, 12, none⟩) (by simp)).trans (by simp [go_sem]), (hbo.cell (p := ⟨wr.heap.size, 13, none⟩) (by simp)).trans (by simp [go_sem]), (by have h9 := hbo.size; simp at h9; omega)⟩); (have HBO : Hid (Below wr.heap.size wr wo) := ((Below.refl _ _).alloc (Nat.le_refl _) _).trans (hbo.mono (by simp))); clear hbo)
                  | (go_at_call 14; (with_reducible refine Calls.mono (HDO.out _ HBO.out) ?_); rintro e wd ⟨qv2, rfl, hm2, hg2, hf2⟩; (have HQ3 := Lib.hid ((HQ2.out.trans (HBO.out.mono HQ2.out.size)).trans (hf2.low.mono HZ3.out))); (have ok := fun o => World.cell?_of_block (a := ⟨wr.heap.size, o, none⟩) (hf2.kp wr.heap.size (.inr ⟨Nat.le_refl _, HOC.out.2.2.2.2.2⟩))); (have k0 := (ok 0).trans HOC.out.1); (have k1 := (ok 1).trans HOC.out.2.1); (have k2 := (ok 2).trans HOC.out.2.2.1); (have k12 := (ok 12).trans HOC.out.2.2.2.1); (have k13 := (ok 13).trans HOC.out.2.2.2.2.1); (have HWD : Hid (wr.heap.size < wd.heap.size) := Nat.lt_of_lt_of_le HOC.out.2.2.2.2.2 hf2.low.size); (have HOD : Hid (wd.ownsRow w3.heap.size 3 1 (.slice Aq m cq) m (kv .i64 l)) := Lib.hid (own_low (own_below HO.out.1 HBO.out) (fun g hg => hf2.kp g (.inl (HO.out.2 g hg))))); (obtain ⟨_, _, _, _, _, r5', r6', r7', _, _⟩ := HBX.out _ HQ3.out); (have HM2 := Lib.hid hm2); (have HG2 := Lib.hid hg2); clear hm2 hg2 hf2 ok)
                  | (go_at_call 18; (with_reducible refine Calls.mono (HQU.out _ _ _ HM2.out l m HQN.out.1 HQN.out.2 HM64.out) ?_); rintro e wq ⟨uq, rfl, hou, hbq⟩; (obtain ⟨Au9, cu9, hx9, _, _⟩ := (Sl.of_own hou).form); subst hx9; (have HOU := Lib.hid (Sl.of_own hou)); (have HOQ := Lib.hid (own_below HOD.out hbq)); (have HBQ := Lib.hid hbq); clear hou hbq)
                  | (go_at_call 26; (with_reducible refine Calls.mono (HIN.out _ _ _ _ _ l m HOU.out (Sl.of_own HOQ.out)) ?_); rintro e _ ⟨rfl, n9, rfl⟩)
                  | fail)
                go_roundw
                case rel => exact ⟨k + 1, s2, qv2, (fun b => E b ∨ (wr.heap.size ≤ b ∧ b < wo.heap.size)), Aq, cq, l, m, by omega, by omega, by go_num, rfl, HMR.out, HQN, Lib.hid ⟨(HM2.out.call HBQ.out).call (below_drewN (Below.refl _ _) _), HG2.out, (HQ3.out.trans (HBQ.out.mono HQ3.out.size)).trans (below_drewN (Below.refl _ _) _)⟩, Lib.hid ⟨own_below HOQ.out (below_drewN (Below.refl _ _) _), fun b hb => .inl (HO.out.2 b hb)⟩⟩
                case measure => simp [intOf]; omega
        · as_aux_lemma =>
            subst t1
            have HQN : Hid (s2.qs f t = l ∧ m = (l).length) := ⟨by rw [hq9]; unfold qN; rw [if_neg (fun e => t2 e.2.1), if_neg (fun e => t2 e.2.1)], HL.out.2⟩
            have HM64 : Hid (m ≤ 64) := Lib.hid (by have := HBD.out.2.2.2.2; omega)
            have HMR : Hid (m ≤ Rg) := Lib.hid (by omega)
            have t2' : (tt == (t : Int)) = false := by simpa using t2
            have HDO := Lib.hid hdo
            clear hdo hq9 ha9
            go_wp2_with (first
              | (go_at_call 23; (with_reducible refine Calls.mono (HOP.out _) ?_); rintro e wo ⟨rfl, hbo⟩; (have HOC : Hid (wo.cell? ⟨wr.heap.size, 0, none⟩ = some (.int .i64 kd) ∧ wo.cell? ⟨wr.heap.size, 1, none⟩ = some (.int .i64 (f : Int)) ∧ wo.cell? ⟨wr.heap.size, 2, none⟩ = some (.int .i64 tt) ∧ wo.cell? ⟨wr.heap.size, 12, none⟩ = some (.int .i64 bu) ∧ wo.cell? ⟨wr.heap.size, 13, none⟩ = some (.int .i64 id) ∧ wr.heap.size < wo.heap.size) := ⟨(hbo.cell (p := ⟨wr.heap.size, 0, none⟩) (by simp)).trans (by simp [go_sem]), (hbo.cell (p := ⟨wr.heap.size, 1, none⟩) (by simp)).trans (by simp [go_sem]), (hbo.cell (p := ⟨wr.heap.size, 2, none⟩) (by simp)).trans (by simp [go_sem]), (hbo.cell (p := ⟨wr.heap.size, 12, none⟩) (by simp)).trans (by simp [go_sem]), (hbo.cell (p := ⟨wr.heap.size, 13, none⟩) (by simp)).trans (by simp [go_sem]), (by have h9 := hbo.size; simp at h9; omega)⟩); (have HBO : Hid (Below wr.heap.size wr wo) := ((Below.refl _ _).alloc (Nat.le_refl _) _).trans (hbo.mono (by simp))); clear hbo)
              | (go_at_call 14; (with_reducible refine Calls.mono (HDO.out _ HBO.out) ?_); rintro e wd ⟨qv2, rfl, hm2, hg2, hf2⟩; (have HQ3 := Lib.hid ((HQ2.out.trans (HBO.out.mono HQ2.out.size)).trans (hf2.low.mono HZ3.out))); (have ok := fun o => World.cell?_of_block (a := ⟨wr.heap.size, o, none⟩) (hf2.kp wr.heap.size (.inr ⟨Nat.le_refl _, HOC.out.2.2.2.2.2⟩))); (have k0 := (ok 0).trans HOC.out.1); (have k1 := (ok 1).trans HOC.out.2.1); (have k2 := (ok 2).trans HOC.out.2.2.1); (have k12 := (ok 12).trans HOC.out.2.2.2.1); (have k13 := (ok 13).trans HOC.out.2.2.2.2.1); (have HWD : Hid (wr.heap.size < wd.heap.size) := Nat.lt_of_lt_of_le HOC.out.2.2.2.2.2 hf2.low.size); (have HOD : Hid (wd.ownsRow w3.heap.size 3 1 (.slice Aq m cq) m (kv .i64 l)) := Lib.hid (own_low (own_below HO.out.1 HBO.out) (fun g hg => hf2.kp g (.inl (HO.out.2 g hg))))); (obtain ⟨_, _, _, _, _, r5', r6', r7', _, _⟩ := HBX.out _ HQ3.out); (have HM2 := Lib.hid hm2); (have HG2 := Lib.hid hg2); clear hm2 hg2 hf2 ok)
              | (go_at_call 18; (with_reducible refine Calls.mono (HQU.out _ _ _ HM2.out l m HQN.out.1 HQN.out.2 HM64.out) ?_); rintro e wq ⟨uq, rfl, hou, hbq⟩; (obtain ⟨Au9, cu9, hx9, _, _⟩ := (Sl.of_own hou).form); subst hx9; (have HOU := Lib.hid (Sl.of_own hou)); (have HOQ := Lib.hid (own_below HOD.out hbq)); (have HBQ := Lib.hid hbq); clear hou hbq)
              | (go_at_call 26; (with_reducible refine Calls.mono (HIN.out _ _ _ _ _ l m HOU.out (Sl.of_own HOQ.out)) ?_); rintro e _ ⟨rfl, n9, rfl⟩)
              | fail)
            go_roundw
            case rel => exact ⟨k + 1, s2, qv2, (fun b => E b ∨ (wr.heap.size ≤ b ∧ b < wo.heap.size)), Aq, cq, l, m, by omega, by omega, by go_num, rfl, HMR.out, HQN, Lib.hid ⟨(HM2.out.call HBQ.out).call (below_drewN (Below.refl _ _) _), HG2.out, (HQ3.out.trans (HBQ.out.mono HQ3.out.size)).trans (below_drewN (Below.refl _ _) _)⟩, Lib.hid ⟨own_below HOQ.out (below_drewN (Below.refl _ _) _), fun b hb => .inl (HO.out.2 b hb)⟩⟩
            case measure => simp [intOf]; omega
      · as_aux_lemma =>
          have HQN : Hid (s2.qs f t = l ∧ m = (l).length) := ⟨by rw [hq9]; unfold qN; rw [if_neg (fun e => t1 e.1), if_neg (fun e => t1 e.1)], HL.out.2⟩
          have HM64 : Hid (m ≤ 64) := Lib.hid (by have := HBD.out.2.2.2.2; omega)
          have HMR : Hid (m ≤ Rg) := Lib.hid (by omega)
          have t1' : (po == (f : Int)) = false := by simpa using t1
          have HDO := Lib.hid hdo
          clear hdo hq9 ha9
          go_wp2_with (first
            | (go_at_call 23; (with_reducible refine Calls.mono (HOP.out _) ?_); rintro e wo ⟨rfl, hbo⟩; (have HOC : Hid (wo.cell? ⟨wr.heap.size, 0, none⟩ = some (.int .i64 kd) ∧ wo.cell? ⟨wr.heap.size, 1, none⟩ = some (.int .i64 po) ∧ wo.cell? ⟨wr.heap.size, 2, none⟩ = some (.int .i64 tt) ∧ wo.cell? ⟨wr.heap.size, 12, none⟩ = some (.int .i64 bu) ∧ wo.cell? ⟨wr.heap.size, 13, none⟩ = some (.int .i64 id) ∧ wr.heap.size < wo.heap.size) := ⟨(hbo.cell (p := ⟨wr.heap.size, 0, none⟩) (by simp)).trans (by simp [go_sem]), (hbo.cell (p := ⟨wr.heap.size, 1, none⟩) (by simp)).trans (by simp [go_sem]), (hbo.cell (p := ⟨wr.heap.size, 2, none⟩) (by simp)).trans (by simp [go_sem]), (hbo.cell (p := ⟨wr.heap.size, 12, none⟩) (by simp)).trans (by simp [go_sem]), (hbo.cell (p := ⟨wr.heap.size, 13, none⟩) (by simp)).trans (by simp [go_sem]), (by have h9 := hbo.size; simp at h9; omega)⟩); (have HBO : Hid (Below wr.heap.size wr wo) := ((Below.refl _ _).alloc (Nat.le_refl _) _).trans (hbo.mono (by simp))); clear hbo)
            | (go_at_call 14; (with_reducible refine Calls.mono (HDO.out _ HBO.out) ?_); rintro e wd ⟨qv2, rfl, hm2, hg2, hf2⟩; (have HQ3 := Lib.hid ((HQ2.out.trans (HBO.out.mono HQ2.out.size)).trans (hf2.low.mono HZ3.out))); (have ok := fun o => World.cell?_of_block (a := ⟨wr.heap.size, o, none⟩) (hf2.kp wr.heap.size (.inr ⟨Nat.le_refl _, HOC.out.2.2.2.2.2⟩))); (have k0 := (ok 0).trans HOC.out.1); (have k1 := (ok 1).trans HOC.out.2.1); (have k2 := (ok 2).trans HOC.out.2.2.1); (have k12 := (ok 12).trans HOC.out.2.2.2.1); (have k13 := (ok 13).trans HOC.out.2.2.2.2.1); (have HWD : Hid (wr.heap.size < wd.heap.size) := Nat.lt_of_lt_of_le HOC.out.2.2.2.2.2 hf2.low.size); (have HOD : Hid (wd.ownsRow w3.heap.size 3 1 (.slice Aq m cq) m (kv .i64 l)) := Lib.hid (own_low (own_below HO.out.1 HBO.out) (fun g hg => hf2.kp g (.inl (HO.out.2 g hg))))); (obtain ⟨_, _, _, _, _, r5', r6', r7', _, _⟩ := HBX.out _ HQ3.out); (have HM2 := Lib.hid hm2); (have HG2 := Lib.hid hg2); clear hm2 hg2 hf2 ok)
            | (go_at_call 18; (with_reducible refine Calls.mono (HQU.out _ _ _ HM2.out l m HQN.out.1 HQN.out.2 HM64.out) ?_); rintro e wq ⟨uq, rfl, hou, hbq⟩; (obtain ⟨Au9, cu9, hx9, _, _⟩ := (Sl.of_own hou).form); subst hx9; (have HOU := Lib.hid (Sl.of_own hou)); (have HOQ := Lib.hid (own_below HOD.out hbq)); (have HBQ := Lib.hid hbq); clear hou hbq)
            | (go_at_call 26; (with_reducible refine Calls.mono (HIN.out _ _ _ _ _ l m HOU.out (Sl.of_own HOQ.out)) ?_); rintro e _ ⟨rfl, n9, rfl⟩)
            | fail)
          go_roundw
          case rel => exact ⟨k + 1, s2, qv2, (fun b => E b ∨ (wr.heap.size ≤ b ∧ b < wo.heap.size)), Aq, cq, l, m, by omega, by omega, by go_num, rfl, HMR.out, HQN, Lib.hid ⟨(HM2.out.call HBQ.out).call (below_drewN (Below.refl _ _) _), HG2.out, (HQ3.out.trans (HBQ.out.mono HQ3.out.size)).trans (below_drewN (Below.refl _ _) _)⟩, Lib.hid ⟨own_below HOQ.out (below_drewN (Below.refl _ _) _), fun b hb => .inl (HO.out.2 b hb)⟩⟩
          case measure => simp [intOf]; omega
    · have HBL := Lib.hid (HLZ.out.trans (HI.out.2.2.mono HLZ.out.size))
      by_cases hkn : k < no
      · have d1 : decide (k < no) = true := decide_eq_true hkn
        have d2 : decide ((k : Int) < 150) = false := decide_eq_false (by omega)
        have d2' : ¬ (k : Int) < 150 := by omega
        go_wp2
        go_ret
        exact ⟨by first | rfl | (simp; done), HBL.out⟩
      · have d1 : decide (k < no) = false := decide_eq_false hkn
        go_wp2
        go_ret
        exact ⟨by first | rfl | (simp; done), HBL.out⟩

set_option maxRecDepth 100000 in
/-- What the walk gives, for every argument: the row's own words. -/
theorem contract (H : Type) (enc : TypeId × Value → H) (W : World) (base : Nat) (args : Array Value) (ds gs : List (DataW H)) (before : List MemPlace)
    (hval : ∀ (j : Nat) t v, Try.f5.params[j]? = some t → args[j]? = some v → Value.okWide Try.prog W .any base t v)
    (hW : DataW.Whole enc Try.prog Try.f5.params.toList Rows.modelQueuesSpec.vars false W args.toList ds gs before) :
    Calls Try.prog 5 args W fun e W' => ∃ v, e = .returned v ∧ Rows.modelQueuesSpec.post enc Try.prog Try.f5 false true false false W args v W' := by
  have hW' := hW
  obtain ⟨p, q, hA0, hV, rfl, hfz, hnd⟩ := hW
  have hA : DataW.TrodAll enc Try.prog W 0 (fun _ => true) true Try.f5.params.toList args.toList ds p := hA0
  rw [Try.params5] at hA hval
  obtain ⟨v0, vs0, d0, ds0, p0, q0, hargs, rfl, rfl, h0, r0⟩ := trodAll_cons hA
  obtain ⟨v1, vs1, d1, ds1, p1, q1, rfl, rfl, rfl, h1, r1⟩ := trodAll_cons r0
  obtain ⟨v2, vs2, d2, ds2, p2, q2, rfl, rfl, rfl, h2, r2⟩ := trodAll_cons r1
  obtain ⟨rfl, rfl, rfl⟩ := trodAll_nil r2
  obtain rfl : args = #[v0, v1, v2] := by cases args; simp_all
  obtain ⟨P0, vr0, vv0, a0, b0, c0, T0, R0, nm0, sh0, lr0, lv0, rfl, hr0, hv0, ho0⟩ := open_plan Try.underlying28 (tr := 22) (tv := 23) (er := 96) (ev := 108) (i := 3) (u := 26) (q := 44) (by kernel_rfl) (by kernel_rfl) Try.underlying3 Try.underlying26 Try.underlying44 Try.underlying22 (by kernel_rfl) (by kernel_rfl) Try.underlying23 (by kernel_rfl) (by kernel_rfl) (hval 0 28 v0 rfl rfl) h0
  have b1 := open_ops17 Try.underlying69 (i := 3) (q := 44) (u := 26) (by kernel_rfl) (by kernel_rfl) Try.underlying3 Try.underlying44 Try.underlying26 (hval 1 69 v1 rfl rfl) h1
  obtain ⟨a2, e2, rfl⟩ := open_arr2 Try.underlying81 Try.underlying3 (by kernel_rfl) (by kernel_rfl) (hval 2 81 v2 rfl rfl) h2
  refine (walk W P0 vr0 vv0 a0 b0 c0 T0 R0 nm0 sh0 lr0 lv0 hr0 hv0 ho0 v1 b1 a2 e2).mono fun e W' ⟨he, hb⟩ => ?_
  subst he
  exact close_true (by kernel_rfl) Try.underlying4 (by kernel_rfl) (by kernel_rfl) rfl rfl hW' hb

set_option maxRecDepth 100000 in
theorem lifted (os : Os) (started : os.Started) (H : Type) (enc : TypeId × Value → H) :
    ReturnsInHanded {} Try.checked os 5 .any (Rows.modelQueuesSpec.pre6 enc Try.prog Try.f5 Rows.modelQueuesRow.domain false) (Rows.modelQueuesSpec.post enc Try.prog Try.f5 false true false false) := by
  refine returnsInHanded_of_change (C := Try.checked) own started (by kernel_rfl) Try.func5
    (ChangeSpec.witness6 (enc := enc) (C := Try.checked) false ⟨#[], #[.agg #[.int .i64 0, .slice none 0 0, .slice none 0 0, .int .i64 0, .int .i64 0, .int .i64 0, .int .i64 0, .int .i64 0, .int .u32 0, .int .u32 0], .slice none 0 0, .agg #[.int .i64 0, .int .i64 0]], []⟩ 8 (by kernel_rfl) (by kernel_rfl) (by kernel_rfl) (by kernel_rfl)) ?_
  intro W base args ds gs before hval hW _ _
  exact contract H enc W base args ds gs before hval hW

theorem proved : Rows.ModelQueuesSaid :=
  OpenClaim.holds_of_wide 5 Try.f5 rfl rfl rfl rfl rfl rfl rfl ⟨rfl, rfl, rfl, rfl, rfl⟩ rfl rfl rfl rfl rfl (by kernel_rfl) Try.func5 (by kernel_rfl)
    (of_decide_eq_true (by kernel_rfl)) (by unfold Func.isWrapper; first | (rw [if_pos (by decide +kernel)]; kernel_rfl) | (rw [if_neg (by decide +kernel)]; exact ⟨rfl, rfl⟩))
    (fun os started H enc _ => lifted os started H enc)
#print axioms proved
end Go.Proofs.Ytcnfilbmmlolmaa.modelQueues
