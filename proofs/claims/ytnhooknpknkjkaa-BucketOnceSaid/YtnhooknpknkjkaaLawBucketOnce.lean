/-
  Of each key there is one entry at most, and the static ones are those that were ordered and not dropped. No condition.
-/
import Derived.Test.YtnhooknpknkjkaaRows
import Derived.Test.YtnhooknpknkjkaaOnB
import Derived.Test.YtnhooknpknkjkaaOpenOn
import Derived.Test.YtnhooknpknkjkaaBuP
import Derived.Deep.DeepCutAuto
import Derived.WalkKit
import Derived.ProofKit
import Derived.OpenShut
namespace Go.Proofs.Ytnhooknpknkjkaa.bucketOnce
open Go.ChangeShapes Go.WideShapes Go.ChangeAt Go.RowKit
open Go.ChangeMaps (open_string)
set_option linter.unusedVariables false

theorem own : ownKnob Try.prog.godebug = none := by kernel_rfl

set_option maxRecDepth 100000 in
set_option maxHeartbeats 6400000 in
theorem walk (W : World) (a0 : Int) (b0 : -9223372036854775808 ≤ a0 ∧ a0 ≤ 9223372036854775807) (a1 : Value) (b1 : Seens W a1) :
    Calls Try.prog 6 #[.int .i64 a0, a1] W (Says (.bool true) W) := by
  obtain ⟨A, jn, jcap, rfl, hjc, hjm, hjobs⟩ := b1
  unfold maxLen at hjm
  have HJ := Lib.hid hjobs
  clear hjobs
  obtain ⟨n0, hn0, hmod0⟩ := mod_u64 a0 8 (by omega) (by omega)
  obtain ⟨n, hn⟩ : ∃ n, n = n0 + 1 := ⟨_, rfl⟩
  have hn8 : 1 ≤ n ∧ n ≤ 8 := by omega
  have HM0 : Hid (wrap64 (1 + wrap64 ((IntKind.u64.wrap a0).tmod 8)) = (n : Int)) := by
    have e : wrap64 ((IntKind.u64.wrap a0).tmod 8) = (n0 : Int) := hmod0
    show _ = _
    rw [e, show (1 : Int) + (n0 : Int) = (n : Int) by omega]
    exact IntWalk.wrap64_in _ (by omega)
  clear hmod0 hn hn0
  have m0 := HM0.out
  have hmk := fun W => run_mkFull (P := Try.prog) W stPlaces n (by omega)
  have hmm := @run_makeMap Try.prog
  have HI0 : Hid (BoI W ((W.alloc (.cells (mkC (.agg #[.bool false, .int .i64 0, .int .u64 0, .int .i64 0, .bool false, .int .u32 0]) 6 n) 67)).alloc (.map #[] 0)) (W.heap.size + 1) 0 (.slice (some ⟨W.heap.size, 0, none⟩) n n) n (fun _ => pl0) (.map []) (fun _ _ => none) 0) := by
    refine ⟨⟨_, n, rfl, Nat.le_refl _, by unfold maxLen; omega, W.heap.size, 0, rfl, by simp; omega, by omega, fun j hj => ?_⟩, ?_, mapR_new, tied_new, fun j _ => goodE_0, ((Below.refl _ _).alloc (Nat.le_refl _) _).alloc (by simp) _, by omega⟩
    · rw [Nat.zero_add]
      exact rowP_holds ((rowIs_mk6 (w := W) (M := n) (e := 67)).alloc _) hj
    · have := World.ownsMap_made (W.alloc (.cells (mkC (.agg #[.bool false, .int .i64 0, .int .u64 0, .int .i64 0, .bool false, .int .u32 0]) 6 n) 67)) Try.prog 25 (plainElem (H := Unit) Try.prog 3)
      simpa using this
  go_enter Try.func6, Try.ntmps6
  go_wp2
  obtain ⟨w2, hw2⟩ : ∃ w2, w2 = (W.alloc (.cells (mkC (.agg #[.bool false, .int .i64 0, .int .u64 0, .int .i64 0, .bool false, .int .u32 0]) 6 n) 67)).alloc (.map #[] 0) := ⟨_, rfl⟩
  obtain ⟨mb, hmb⟩ : ∃ mb, mb = W.heap.size + 1 := ⟨_, rfl⟩
  rw [← hw2, ← hmb] at HI0 ⊢
  clear hw2 hmb hmk hmm m0 HM0
  go_loopw [5, 7] (fun y i' wr => ∃ (i : Nat) (A : Option Addr) (cap : Nat), i ≤ 100 ∧ i' = .int .i64 i ∧ y = .slice A n cap ∧ ∃ f D K c, Hid (BoI W wr mb i (.slice A n cap) n f D K c)) (fun _ i' _ => 101 - (intOf i').toNat)
  case atStart => exact ⟨0, _, _, by omega, rfl, rfl, _, _, _, _, HI0⟩
  case round =>
    obtain ⟨i, Ay, cy, hi, rfl, rfl, f, D, K, c, HI⟩ := hrel
    clear HI0
    by_cases hin : i < jn
    · by_cases hi2 : i < 100
      · have hJ := HJ.out
        obtain ⟨jb, joff, hA, hjb, hcell⟩ := hJ (by omega)
        subst hA
        obtain ⟨kv, km, port, now, hkv, hkm, hport, hnow, j0, j1, j2, j3⟩ := hcell i hin
        obtain ⟨P, hP, hmodr⟩ := mod_u64 port 64 (by omega) (by omega)
        have hmr : wrap64 ((IntKind.u64.wrap port).tmod 64) = (P : Int) := hmodr
        clear hmodr hcell hJ
        have HFX := Lib.hid fun w => ref8_Fix kv km hkm w
        obtain ⟨V, hV⟩ : ∃ V, V = fixV kv := ⟨_, rfl⟩
        obtain ⟨M, hM⟩ : ∃ M, M = fixM km := ⟨_, rfl⟩
        have HRG : Hid (rngK V M) := by rw [hV, hM]; exact fix_rng kv km
        rw [← hV, ← hM] at HFX
        clear hV hM
        have k0 := (HI.out.bel.cell (p := ⟨jb, joff + i * 4, none⟩) hjb).trans j0
        have k1 := (HI.out.bel.cell (p := ⟨jb, joff + i * 4 + 1, none⟩) hjb).trans j1
        have k2 := (HI.out.bel.cell (p := ⟨jb, joff + i * 4 + 2, none⟩) hjb).trans j2
        have hjw : jb < wr.heap.size := Nat.lt_of_lt_of_le hjb HI.out.bel.size
        have mr2 : IntKind.i64.wrap ((IntKind.u64.wrap port).tmod 64) = (P : Int) := (IntWalk.i64_left _).trans hmr
        have KK : ∀ w', Below wr.heap.size wr w' → w'.cell? ⟨jb, joff + i * 4, none⟩ = some (.int .i64 kv) ∧ w'.cell? ⟨jb, joff + i * 4 + 1, none⟩ = some (.int .u64 (km : Int)) ∧ w'.cell? ⟨jb, joff + i * 4 + 2, none⟩ = some (.int .i64 port) := fun w' hb => ⟨(hb.cell (p := ⟨jb, joff + i * 4, none⟩) hjw).trans k0, (hb.cell (p := ⟨jb, joff + i * 4 + 1, none⟩) hjw).trans k1, (hb.cell (p := ⟨jb, joff + i * 4 + 2, none⟩) hjw).trans k2⟩
        have hal2 : ∀ o, (wr.alloc o).cell? ⟨jb, joff + i * 4 + 2, none⟩ = some (.int .i64 port) := fun o => (World.cell?_alloc_lt _ _ _ hjw).trans k2
        go_upto_region 6 with fail
        go_cut [8, 9] (fun kk pp wx => ∃ kb : Nat, kk = .pointer (some ⟨kb, 0, none⟩) ∧ pp = .int .i64 (P : Nat) ∧ Hid (wx.cell? ⟨kb, 0, none⟩ = some (.int .i64 V) ∧ wx.cell? ⟨kb, 1, none⟩ = some (.int .u64 (M : Int)) ∧ kb < wx.heap.size) ∧ Hid (Below wr.heap.size wr wx))
        case first =>
          as_aux_lemma =>
            refine wp_region_held_drew (S := fun w' => w'.cell? ⟨jb, joff + i * 4, none⟩ = some (.int .i64 kv) ∧ w'.cell? ⟨jb, joff + i * 4 + 1, none⟩ = some (.int .u64 (km : Int)) ∧ w'.cell? ⟨jb, joff + i * 4 + 2, none⟩ = some (.int .i64 port)) (by kernel_rfl) ?_ (fun hHeld => ?_)
            · exact ⟨k0, k1, k2⟩
            refine wpAnyH_take (i := 0) (oi := { dst := some 36, op := Go.Op.move (Go.Operand.tmp 1), type := 60, pos := "law.go:89", after := #[], guard := none }) (v := ?_) rfl (by kernel_rfl) (by kernel_rfl) (by kernel_rfl) (fun _ _ _ h => h) (Or.inl ⟨by rfl, ?_⟩) (by assumption) ?_
            rotate_left
            · intro w hSw
              (try dsimp only at hSw)
              go_simp
              try with_reducible rfl
            (try simp only [Act.put, List.setIfInBounds_toArray, List.set_cons_zero, List.set_cons_succ])
            refine wpAnyH_take (i := 1) (oi := { dst := some 37, op := Go.Op.move (Go.Operand.tmp 7), type := 3, pos := "law.go:89", after := #[], guard := none }) (v := ?_) rfl (by kernel_rfl) (by kernel_rfl) (by kernel_rfl) (fun _ _ _ h => h) (Or.inl ⟨by rfl, ?_⟩) (by assumption) ?_
            rotate_left
            · intro w hSw
              (try dsimp only at hSw)
              go_simp
              try with_reducible rfl
            (try simp only [Act.put, List.setIfInBounds_toArray, List.set_cons_zero, List.set_cons_succ])
            refine wpAnyH_take (i := 2) (oi := { dst := some 38, op := Go.Op.indexAddr 60 (Go.Operand.tmp 36) (Go.Operand.tmp 37), type := 0, pos := "law.go:89", after := #[{ on := 0, ground := Go.Ground.data }, { on := 1, ground := Go.Ground.data }], guard := none }) (v := ?_) rfl (by kernel_rfl) (by kernel_rfl) (by kernel_rfl) (fun _ _ _ h => h) (Or.inl ⟨by rfl, ?_⟩) (by assumption) ?_
            rotate_left
            · intro w hSw
              (try dsimp only at hSw)
              go_simp
              try with_reducible rfl
            (try simp only [Act.put, List.setIfInBounds_toArray, List.set_cons_zero, List.set_cons_succ])
            refine wpAnyH_take (i := 3) (oi := { dst := some 39, op := Go.Op.fieldAddr 28 (Go.Operand.tmp 38) 0, type := 0, pos := "law.go:89", after := #[{ on := 2, ground := Go.Ground.data }], guard := none }) (v := ?_) rfl (by kernel_rfl) (by kernel_rfl) (by kernel_rfl) (fun _ _ _ h => h) (Or.inl ⟨by rfl, ?_⟩) (by assumption) ?_
            rotate_left
            · intro w hSw
              (try dsimp only at hSw)
              go_simp
              try with_reducible rfl
            (try simp only [Act.put, List.setIfInBounds_toArray, List.set_cons_zero, List.set_cons_succ])
            refine wpAnyH_take (i := 4) (oi := { dst := some 40, op := Go.Op.load 25 (Go.Operand.tmp 39), type := 25, pos := "law.go:89", after := #[{ on := 3, ground := Go.Ground.data }], guard := none }) (v := ?_) rfl (by kernel_rfl) (by kernel_rfl) (by kernel_rfl) (fun _ _ _ h => h) (Or.inl ⟨by rfl, ?_⟩) (by assumption) ?_
            rotate_left
            · intro w hSw
              (try dsimp only at hSw)
              go_simp
              try with_reducible rfl
            (try simp only [Act.put, List.setIfInBounds_toArray, List.set_cons_zero, List.set_cons_succ])
            refine wpAnyH_take (i := 6) (oi := { dst := some 42, op := Go.Op.move (Go.Operand.tmp 1), type := 60, pos := "law.go:89", after := #[{ on := 15, ground := Go.Ground.gcOnly Go.Departure.lateStores }], guard := none }) (v := ?_) rfl (by kernel_rfl) (by kernel_rfl) (by kernel_rfl) (fun _ _ _ h => h) (Or.inl ⟨by rfl, ?_⟩) (by assumption) ?_
            rotate_left
            · intro w hSw
              (try dsimp only at hSw)
              go_simp
              try with_reducible rfl
            (try simp only [Act.put, List.setIfInBounds_toArray, List.set_cons_zero, List.set_cons_succ])
            refine wpAnyH_take (i := 7) (oi := { dst := some 43, op := Go.Op.move (Go.Operand.tmp 7), type := 3, pos := "law.go:89", after := #[{ on := 15, ground := Go.Ground.gcOnly Go.Departure.lateStores }], guard := none }) (v := ?_) rfl (by kernel_rfl) (by kernel_rfl) (by kernel_rfl) (fun _ _ _ h => h) (Or.inl ⟨by rfl, ?_⟩) (by assumption) ?_
            rotate_left
            · intro w hSw
              (try dsimp only at hSw)
              go_simp
              try with_reducible rfl
            (try simp only [Act.put, List.setIfInBounds_toArray, List.set_cons_zero, List.set_cons_succ])
            refine wpAnyH_take (i := 8) (oi := { dst := some 44, op := Go.Op.indexAddr 60 (Go.Operand.tmp 42) (Go.Operand.tmp 43), type := 0, pos := "law.go:89", after := #[{ on := 6, ground := Go.Ground.data }, { on := 7, ground := Go.Ground.data }, { on := 15, ground := Go.Ground.gcOnly Go.Departure.lateStores }], guard := none }) (v := ?_) rfl (by kernel_rfl) (by kernel_rfl) (by kernel_rfl) (fun _ _ _ h => h) (Or.inl ⟨by rfl, ?_⟩) (by assumption) ?_
            rotate_left
            · intro w hSw
              (try dsimp only at hSw)
              go_simp
              try with_reducible rfl
            (try simp only [Act.put, List.setIfInBounds_toArray, List.set_cons_zero, List.set_cons_succ])
            refine wpAnyH_take (i := 9) (oi := { dst := some 45, op := Go.Op.fieldAddr 28 (Go.Operand.tmp 44) 1, type := 0, pos := "law.go:89", after := #[{ on := 8, ground := Go.Ground.data }, { on := 15, ground := Go.Ground.gcOnly Go.Departure.lateStores }], guard := none }) (v := ?_) rfl (by kernel_rfl) (by kernel_rfl) (by kernel_rfl) (fun _ _ _ h => h) (Or.inl ⟨by rfl, ?_⟩) (by assumption) ?_
            rotate_left
            · intro w hSw
              (try dsimp only at hSw)
              go_simp
              try with_reducible rfl
            (try simp only [Act.put, List.setIfInBounds_toArray, List.set_cons_zero, List.set_cons_succ])
            refine wpAnyH_take (i := 10) (oi := { dst := some 46, op := Go.Op.load 3 (Go.Operand.tmp 45), type := 3, pos := "law.go:89", after := #[{ on := 9, ground := Go.Ground.data }, { on := 15, ground := Go.Ground.gcOnly Go.Departure.lateStores }], guard := none }) (v := ?_) rfl (by kernel_rfl) (by kernel_rfl) (by kernel_rfl) (fun _ _ _ h => h) (Or.inl ⟨by rfl, ?_⟩) (by assumption) ?_
            rotate_left
            · intro w hSw
              (try dsimp only at hSw)
              go_simp
              try with_reducible rfl
            (try simp only [Act.put, List.setIfInBounds_toArray, List.set_cons_zero, List.set_cons_succ])
            refine wpAnyH_take (i := 11) (oi := { dst := some 47, op := Go.Op.convert 3 23 (Go.Operand.tmp 46), type := 23, pos := "law.go:89", after := #[{ on := 10, ground := Go.Ground.data }, { on := 15, ground := Go.Ground.gcOnly Go.Departure.lateStores }], guard := none }) (v := ?_) rfl (by kernel_rfl) (by kernel_rfl) (by kernel_rfl) (fun _ _ _ h => h) (Or.inl ⟨by rfl, ?_⟩) (by assumption) ?_
            rotate_left
            · intro w hSw
              (try dsimp only at hSw)
              go_simp
              try with_reducible rfl
            (try simp only [Act.put, List.setIfInBounds_toArray, List.set_cons_zero, List.set_cons_succ])
            refine wpAnyH_take (i := 12) (oi := { dst := some 48, op := Go.Op.binOp Go.BinOp.rem 23 (Go.Operand.tmp 47) (Go.Operand.const (Go.Value.int Go.IntKind.u64 64)) 23, type := 23, pos := "law.go:89", after := #[{ on := 11, ground := Go.Ground.data }, { on := 15, ground := Go.Ground.gcOnly Go.Departure.lateStores }], guard := none }) (v := ?_) rfl (by kernel_rfl) (by kernel_rfl) (by kernel_rfl) (fun _ _ _ h => h) (Or.inl ⟨by rfl, ?_⟩) (by assumption) ?_
            rotate_left
            · intro w hSw
              (try dsimp only at hSw)
              go_simp
              try with_reducible rfl
            (try simp only [Act.put, List.setIfInBounds_toArray, List.set_cons_zero, List.set_cons_succ])
            refine wpAnyH_take (i := 13) (oi := { dst := some 49, op := Go.Op.convert 23 3 (Go.Operand.tmp 48), type := 3, pos := "law.go:89", after := #[{ on := 12, ground := Go.Ground.data }, { on := 15, ground := Go.Ground.gcOnly Go.Departure.lateStores }], guard := none }) (v := ?_) rfl (by kernel_rfl) (by kernel_rfl) (by kernel_rfl) (fun _ _ _ h => h) (Or.inl ⟨by rfl, ?_⟩) (by assumption) ?_
            rotate_left
            · intro w hSw
              (try dsimp only at hSw)
              go_simp
              try with_reducible rfl
            (try simp only [Act.put, List.setIfInBounds_toArray, List.set_cons_zero, List.set_cons_succ])
            refine wpAnyH_ready (rs := [5, 14]) (by kernel_rfl) (by simp) ?_
            refine (AllReadyH.cons (o := { dst := some 41, op := Go.Op.call { callee := Go.Callee.value (Go.Operand.func 27), args := #[Go.Operand.tmp 40], argTypes := #[25] }, type := 25, pos := "law.go:89", after := #[{ on := 4, ground := Go.Ground.data }], guard := none }) rfl (fun K hK => ?_) (AllReadyH.cons (o := { dst := some 8, op := Go.Op.alloc 25, type := 0, pos := "law.go:89", after := #[], guard := none }) rfl (fun K hK => ?_) AllReadyH.nil))
            · go_simp
              refine Calls.mono (HFX.out _) ?_
              rintro e w5 ⟨rfl, hb5⟩
              have hbA : Below wr.heap.size wr w5 := Below.trans (by (repeat' (first | (with_reducible exact Below.refl _ _) | (with_reducible assumption) | (with_reducible refine Below.setCell ?_ ?_ _) | (with_reducible refine Below.alloc ?_ ?_ _) | (with_reducible refine below_drewN ?_ _) | (with_reducible refine Below.drew ?_) | go_size))) (hb5.mono (by go_size))
              have hz5 := hbA.size
              clear hb5
              refine hK.out _ _ ?_ (fun hHeld => ?_)
              · (try dsimp only)
                exact KK _ (by (repeat' (first | (with_reducible exact Below.refl _ _) | (with_reducible assumption) | (with_reducible refine Below.setCell ?_ ?_ _) | (with_reducible refine Below.alloc ?_ ?_ _) | (with_reducible refine below_drewN ?_ _) | (with_reducible refine Below.drew ?_) | go_size)))
              clear hK K
              (try simp only [Act.put, List.setIfInBounds_toArray, List.set_cons_zero, List.set_cons_succ])
              refine wpAnyH_ready (rs := [14]) (by kernel_rfl) (by simp) ?_
              refine (AllReadyH.cons (o := { dst := some 8, op := Go.Op.alloc 25, type := 0, pos := "law.go:89", after := #[], guard := none }) rfl (fun K hK => ?_) AllReadyH.nil)
              go_simp

              refine hK.out _ _ ?_ (fun hHeld => ?_)
              · (try dsimp only)
                exact KK _ (by (repeat' (first | (with_reducible exact Below.refl _ _) | (with_reducible assumption) | (with_reducible refine Below.setCell ?_ ?_ _) | (with_reducible refine Below.alloc ?_ ?_ _) | (with_reducible refine below_drewN ?_ _) | (with_reducible refine Below.drew ?_) | go_size)))
              clear hK K
              (try simp only [Act.put, List.setIfInBounds_toArray, List.set_cons_zero, List.set_cons_succ])
              refine wpAnyH_ready (rs := [15]) (by kernel_rfl) (by simp) ?_
              refine (AllReadyH.cons (o := { dst := none, op := Go.Op.store 25 (Go.Operand.tmp 8) (Go.Operand.tmp 41), type := 0, pos := "law.go:89", after := #[{ on := 14, ground := Go.Ground.data }, { on := 5, ground := Go.Ground.data }, { on := 5, ground := Go.Ground.chain }, { on := 0, ground := Go.Ground.phase }, { on := 1, ground := Go.Ground.phase }, { on := 2, ground := Go.Ground.phase }, { on := 3, ground := Go.Ground.phase }, { on := 4, ground := Go.Ground.phase }, { on := 5, ground := Go.Ground.phase }, { on := 6, ground := Go.Ground.textOnly Go.Departure.lateStores }, { on := 7, ground := Go.Ground.textOnly Go.Departure.lateStores }, { on := 8, ground := Go.Ground.textOnly Go.Departure.lateStores }, { on := 9, ground := Go.Ground.textOnly Go.Departure.lateStores }, { on := 10, ground := Go.Ground.textOnly Go.Departure.lateStores }, { on := 11, ground := Go.Ground.textOnly Go.Departure.lateStores }, { on := 12, ground := Go.Ground.textOnly Go.Departure.lateStores }, { on := 13, ground := Go.Ground.textOnly Go.Departure.lateStores }, { on := 14, ground := Go.Ground.phase }], guard := none }) rfl (fun K hK => ?_) AllReadyH.nil)
              go_simp

              refine hK.out _ _ ?_ (fun hHeld => ?_)
              · (try dsimp only)
                exact KK _ (by (repeat' (first | (with_reducible exact Below.refl _ _) | (with_reducible assumption) | (with_reducible refine Below.setCell ?_ ?_ _) | (with_reducible refine Below.alloc ?_ ?_ _) | (with_reducible refine below_drewN ?_ _) | (with_reducible refine Below.drew ?_) | go_size)))
              clear hK K
              (try simp only [Act.put, List.setIfInBounds_toArray, List.set_cons_zero, List.set_cons_succ])
              refine wpAnyH_take (i := 16) (oi := { dst := some 9, op := Go.Op.assign (Go.Operand.tmp 49), type := 3, pos := "law.go:89", after := #[{ on := 13, ground := Go.Ground.data }, { on := 15, ground := Go.Ground.chain }, { on := 0, ground := Go.Ground.phase }, { on := 1, ground := Go.Ground.phase }, { on := 2, ground := Go.Ground.phase }, { on := 3, ground := Go.Ground.phase }, { on := 4, ground := Go.Ground.phase }, { on := 5, ground := Go.Ground.phase }, { on := 6, ground := Go.Ground.phase }, { on := 7, ground := Go.Ground.phase }, { on := 8, ground := Go.Ground.phase }, { on := 9, ground := Go.Ground.phase }, { on := 10, ground := Go.Ground.phase }, { on := 11, ground := Go.Ground.phase }, { on := 12, ground := Go.Ground.phase }, { on := 13, ground := Go.Ground.phase }, { on := 14, ground := Go.Ground.phase }, { on := 15, ground := Go.Ground.phase }], guard := none }) (v := ?_) rfl (by kernel_rfl) (by kernel_rfl) (by kernel_rfl) (fun _ _ _ h => h) (Or.inl ⟨by rfl, ?_⟩) (by assumption) ?_
              rotate_left
              · intro w hSw
                (try dsimp only at hSw)
                go_simp
                try with_reducible rfl
              (try simp only [Act.put, List.setIfInBounds_toArray, List.set_cons_zero, List.set_cons_succ])
              refine wpAnyH_done (by kernel_rfl) ?_ _
              go_wp2_with fail
              go_meet
              case rel => exact ⟨_, rfl, by first | rfl | rw [mr2], Lib.hid ⟨by first | (simp [go_sem]; done) | (simp [z0, z1, go_sem]; done), by first | (simp [go_sem]; done) | (simp [z0, z1, go_sem]; done), by first | (simp; done) | (simp; omega) | (simp [World.setCell]; omega)⟩, Lib.hid (by (repeat' (first | (with_reducible exact Below.refl _ _) | (with_reducible assumption) | (with_reducible refine Below.setCell ?_ ?_ _) | (with_reducible refine Below.alloc ?_ ?_ _) | (with_reducible refine below_drewN ?_ _) | (with_reducible refine Below.drew ?_) | go_size)))⟩
            · go_simp

              refine hK.out _ _ ?_ (fun hHeld => ?_)
              · (try dsimp only)
                exact KK _ (by (repeat' (first | (with_reducible exact Below.refl _ _) | (with_reducible assumption) | (with_reducible refine Below.setCell ?_ ?_ _) | (with_reducible refine Below.alloc ?_ ?_ _) | (with_reducible refine below_drewN ?_ _) | (with_reducible refine Below.drew ?_) | go_size)))
              clear hK K
              (try simp only [Act.put, List.setIfInBounds_toArray, List.set_cons_zero, List.set_cons_succ])
              refine wpAnyH_ready (rs := [5]) (by kernel_rfl) (by simp) ?_
              refine (AllReadyH.cons (o := { dst := some 41, op := Go.Op.call { callee := Go.Callee.value (Go.Operand.func 27), args := #[Go.Operand.tmp 40], argTypes := #[25] }, type := 25, pos := "law.go:89", after := #[{ on := 4, ground := Go.Ground.data }], guard := none }) rfl (fun K hK => ?_) AllReadyH.nil)
              go_simp
              refine Calls.mono (HFX.out _) ?_
              rintro e w5 ⟨rfl, hb5⟩
              have z0 : w5.cell? ⟨wr.heap.size, 0, none⟩ = some (.int .i64 0) := (hb5.cell (p := ⟨wr.heap.size, 0, none⟩) (by go_size)).trans (by simp [go_sem])
              have z1 : w5.cell? ⟨wr.heap.size, 1, none⟩ = some (.int .u64 0) := (hb5.cell (p := ⟨wr.heap.size, 1, none⟩) (by go_size)).trans (by simp [go_sem])
              have z2 : ∀ k, w5.frozen? ⟨wr.heap.size, k, none⟩ = false := fun k => (hb5.frozen (p := ⟨wr.heap.size, k, none⟩) (by go_size)).trans (by simp [go_sem])
              have z3 : wr.heap.size < w5.heap.size := by have := hb5.size; simp at this; omega
              have hbA : Below wr.heap.size wr w5 := Below.trans (by (repeat' (first | (with_reducible exact Below.refl _ _) | (with_reducible assumption) | (with_reducible refine Below.setCell ?_ ?_ _) | (with_reducible refine Below.alloc ?_ ?_ _) | (with_reducible refine below_drewN ?_ _) | (with_reducible refine Below.drew ?_) | go_size))) (hb5.mono (by go_size))
              have hz5 := hbA.size
              clear hb5
              refine hK.out _ _ ?_ (fun hHeld => ?_)
              · (try dsimp only)
                exact KK _ (by (repeat' (first | (with_reducible exact Below.refl _ _) | (with_reducible assumption) | (with_reducible refine Below.setCell ?_ ?_ _) | (with_reducible refine Below.alloc ?_ ?_ _) | (with_reducible refine below_drewN ?_ _) | (with_reducible refine Below.drew ?_) | go_size)))
              clear hK K
              (try simp only [Act.put, List.setIfInBounds_toArray, List.set_cons_zero, List.set_cons_succ])
              refine wpAnyH_ready (rs := [15]) (by kernel_rfl) (by simp) ?_
              refine (AllReadyH.cons (o := { dst := none, op := Go.Op.store 25 (Go.Operand.tmp 8) (Go.Operand.tmp 41), type := 0, pos := "law.go:89", after := #[{ on := 14, ground := Go.Ground.data }, { on := 5, ground := Go.Ground.data }, { on := 5, ground := Go.Ground.chain }, { on := 0, ground := Go.Ground.phase }, { on := 1, ground := Go.Ground.phase }, { on := 2, ground := Go.Ground.phase }, { on := 3, ground := Go.Ground.phase }, { on := 4, ground := Go.Ground.phase }, { on := 5, ground := Go.Ground.phase }, { on := 6, ground := Go.Ground.textOnly Go.Departure.lateStores }, { on := 7, ground := Go.Ground.textOnly Go.Departure.lateStores }, { on := 8, ground := Go.Ground.textOnly Go.Departure.lateStores }, { on := 9, ground := Go.Ground.textOnly Go.Departure.lateStores }, { on := 10, ground := Go.Ground.textOnly Go.Departure.lateStores }, { on := 11, ground := Go.Ground.textOnly Go.Departure.lateStores }, { on := 12, ground := Go.Ground.textOnly Go.Departure.lateStores }, { on := 13, ground := Go.Ground.textOnly Go.Departure.lateStores }, { on := 14, ground := Go.Ground.phase }], guard := none }) rfl (fun K hK => ?_) AllReadyH.nil)
              go_simp

              refine hK.out _ _ ?_ (fun hHeld => ?_)
              · (try dsimp only)
                exact KK _ (by (repeat' (first | (with_reducible exact Below.refl _ _) | (with_reducible assumption) | (with_reducible refine Below.setCell ?_ ?_ _) | (with_reducible refine Below.alloc ?_ ?_ _) | (with_reducible refine below_drewN ?_ _) | (with_reducible refine Below.drew ?_) | go_size)))
              clear hK K
              (try simp only [Act.put, List.setIfInBounds_toArray, List.set_cons_zero, List.set_cons_succ])
              refine wpAnyH_take (i := 16) (oi := { dst := some 9, op := Go.Op.assign (Go.Operand.tmp 49), type := 3, pos := "law.go:89", after := #[{ on := 13, ground := Go.Ground.data }, { on := 15, ground := Go.Ground.chain }, { on := 0, ground := Go.Ground.phase }, { on := 1, ground := Go.Ground.phase }, { on := 2, ground := Go.Ground.phase }, { on := 3, ground := Go.Ground.phase }, { on := 4, ground := Go.Ground.phase }, { on := 5, ground := Go.Ground.phase }, { on := 6, ground := Go.Ground.phase }, { on := 7, ground := Go.Ground.phase }, { on := 8, ground := Go.Ground.phase }, { on := 9, ground := Go.Ground.phase }, { on := 10, ground := Go.Ground.phase }, { on := 11, ground := Go.Ground.phase }, { on := 12, ground := Go.Ground.phase }, { on := 13, ground := Go.Ground.phase }, { on := 14, ground := Go.Ground.phase }, { on := 15, ground := Go.Ground.phase }], guard := none }) (v := ?_) rfl (by kernel_rfl) (by kernel_rfl) (by kernel_rfl) (fun _ _ _ h => h) (Or.inl ⟨by rfl, ?_⟩) (by assumption) ?_
              rotate_left
              · intro w hSw
                (try dsimp only at hSw)
                go_simp
                try with_reducible rfl
              (try simp only [Act.put, List.setIfInBounds_toArray, List.set_cons_zero, List.set_cons_succ])
              refine wpAnyH_done (by kernel_rfl) ?_ _
              go_wp2_with fail
              go_meet
              case rel => exact ⟨_, rfl, by first | rfl | rw [mr2], Lib.hid ⟨by first | (simp [go_sem]; done) | (simp [z0, z1, go_sem]; done), by first | (simp [go_sem]; done) | (simp [z0, z1, go_sem]; done), by first | (simp; done) | (simp; omega) | (simp [World.setCell]; omega)⟩, Lib.hid (by (repeat' (first | (with_reducible exact Below.refl _ _) | (with_reducible assumption) | (with_reducible refine Below.setCell ?_ ?_ _) | (with_reducible refine Below.alloc ?_ ?_ _) | (with_reducible refine below_drewN ?_ _) | (with_reducible refine Below.drew ?_) | go_size)))⟩
        case rest =>
          obtain ⟨kb, rfl, rfl, HK, HB⟩ := hcut
          have HI2 := Lib.hid (HI.out.below HB.out)
          have HW2 := Lib.hid ((HI.out.bel.trans (HB.out.mono HI.out.bel.size)))
          have hkb : kb < wc.heap.size := HK.out.2.2
          have kc0 := HK.out.1
          have kc1 := HK.out.2.1
          clear k0 k1 k2 hal2 KK mr2 hmr HFX hjw
          have k2 := (HW2.out.cell (p := ⟨jb, joff + i * 4 + 2, none⟩) hjb).trans j2
          have k3 := (HW2.out.cell (p := ⟨jb, joff + i * 4 + 3, none⟩) hjb).trans j3
          have hjw : jb < wc.heap.size := Nat.lt_of_lt_of_le hjb HW2.out.size
          have HTO := Lib.hid fun w => law8_To V (M : Int) w
          clear HI HB HW2 j0 j1 j2 j3
          obtain ⟨t3, ht3⟩ : ∃ t, port.tmod 3 = t := ⟨_, rfl⟩
          obtain ⟨t7, ht7⟩ : ∃ t, port.tmod 7 = t := ⟨_, rfl⟩
          have hb3 := tmod_bd port (k := 3) (by omega)
          have hb7 := tmod_bd port (k := 7) (by omega)
          rw [ht3] at hb3
          rw [ht7] at hb7
          have KK : ∀ w', Below wc.heap.size wc w' → w'.cell? ⟨kb, 0, none⟩ = some (.int .i64 V) ∧ w'.cell? ⟨kb, 1, none⟩ = some (.int .u64 (M : Int)) ∧ w'.cell? ⟨jb, joff + i * 4 + 3, none⟩ = some (.int .u32 (now : Int)) := fun w' hb => ⟨(hb.cell (p := ⟨kb, 0, none⟩) hkb).trans kc0, (hb.cell (p := ⟨kb, 1, none⟩) hkb).trans kc1, (hb.cell (p := ⟨jb, joff + i * 4 + 3, none⟩) hjw).trans k3⟩
          have HM8 : Hid (M < 18446744073709551616) := HRG.out.2
          have hNW := hnow
          have HPR : Hid (-9223372036854775808 ≤ (P : Int) ∧ (P : Int) ≤ 9223372036854775807) := ⟨by omega, by omega⟩
          have HGD := Lib.hid (own_good HI2.out.good)
          go_upto_if 56 with fail
          go_cut [5, 10] (fun y nn wx => ∃ (Ay' : Option Addr) (cy' code : Nat), y = .slice Ay' n cy' ∧ nn = .int .i64 (code : Nat) ∧ code ≤ 5 ∧ ∃ f' D' K' c', Hid (BoI W wx mb (i + 1) (.slice Ay' n cy') n f' D' K' c'))
          case first =>
            by_cases e3 : t3 = 0
            · have e3' : (t3 == 0) = true := by simpa using e3
              as_aux_lemma =>
                obtain ⟨cd, hcd⟩ : ∃ cd, cd = (putF (fun i => ownP (f i)) ⟨V, M, (P : Int), true, 0⟩ now n).2 := ⟨_, rfl⟩
                obtain ⟨F, hF⟩ : ∃ F, F = (putF (fun i => ownP (f i)) ⟨V, M, (P : Int), true, 0⟩ now n).1 := ⟨_, rfl⟩
                have HPU : Hid (∀ w', Below wc.heap.size wc w' → Calls Try.prog 19 #[.slice Ay n cy, .agg #[.int .i64 V, .int .u64 (M : Int)], .int .i64 (P : Int), .int .u32 (now : Int)] w' (Gives 67 n F (fun u => .tuple #[u, .int .i64 (cd : Nat)]) w')) := fun w' hb => by
                  have := bucket_Order (show n ≤ 1000000 by omega) (HI2.out.row.below hb).row (Nat.le_refl _) (fun j hj => (HI2.out.good j hj).2) V M HM8.out (P : Int) now hNW
                  rw [← hcd, ← hF] at this
                  exact this
                have HCD : Hid (cd ≤ 5) := by rw [hcd]; exact putF_le _ _
                have HGF : Hid (∀ j, j < n → goodE (F j).e) := by rw [hF]; exact putF_good HGD.out (e := ⟨V, M, (P : Int), true, 0⟩) ⟨HRG.out, by show 0 < 4294967296; omega⟩ now
                have HTD : Hid ((cd = 5 ∧ F = fun i => ownP (f i)) ∨ (cd ≠ 5 ∧ Tied F n (putK K V M (P : Int)) (c + if (K V M).isSome then 0 else 1))) := by rw [hcd, hF]; exact HI2.out.tied.own.order (e := ⟨V, M, (P : Int), true, 0⟩) rfl
                clear hcd hF
                go_wp2_with fail
                refine wp_region_held_drew (S := fun w' => w'.cell? ⟨kb, 0, none⟩ = some (.int .i64 V) ∧ w'.cell? ⟨kb, 1, none⟩ = some (.int .u64 (M : Int)) ∧ w'.cell? ⟨jb, joff + i * 4 + 3, none⟩ = some (.int .u32 (now : Int))) (by kernel_rfl) ?_ (fun hHeld => ?_)
                · exact ⟨kc0, kc1, k3⟩
                refine wpAnyH_take (i := 0) (oi := { dst := some 58, op := Go.Op.move (Go.Operand.tmp 5), type := 30, pos := "law.go:92", after := #[], guard := none }) (v := ?_) rfl (by kernel_rfl) (by kernel_rfl) (by kernel_rfl) (fun _ _ _ h => h) (Or.inl ⟨by rfl, ?_⟩) (by assumption) ?_
                rotate_left
                · intro w hSw
                  (try dsimp only at hSw)
                  go_simp
                  try with_reducible rfl
                (try simp only [Act.put, List.setIfInBounds_toArray, List.set_cons_zero, List.set_cons_succ])
                refine wpAnyH_take (i := 1) (oi := { dst := some 59, op := Go.Op.load 25 (Go.Operand.tmp 8), type := 25, pos := "law.go:92", after := #[], guard := none }) (v := ?_) rfl (by kernel_rfl) (by kernel_rfl) (by kernel_rfl) (fun _ _ _ h => h) (Or.inl ⟨by rfl, ?_⟩) (by assumption) ?_
                rotate_left
                · intro w hSw
                  (try dsimp only at hSw)
                  go_simp
                  try with_reducible rfl
                (try simp only [Act.put, List.setIfInBounds_toArray, List.set_cons_zero, List.set_cons_succ])
                refine wpAnyH_take (i := 3) (oi := { dst := some 61, op := Go.Op.move (Go.Operand.tmp 9), type := 3, pos := "law.go:92", after := #[], guard := none }) (v := ?_) rfl (by kernel_rfl) (by kernel_rfl) (by kernel_rfl) (fun _ _ _ h => h) (Or.inl ⟨by rfl, ?_⟩) (by assumption) ?_
                rotate_left
                · intro w hSw
                  (try dsimp only at hSw)
                  go_simp
                  try with_reducible rfl
                (try simp only [Act.put, List.setIfInBounds_toArray, List.set_cons_zero, List.set_cons_succ])
                refine wpAnyH_take (i := 4) (oi := { dst := some 62, op := Go.Op.move (Go.Operand.tmp 1), type := 60, pos := "law.go:92", after := #[], guard := none }) (v := ?_) rfl (by kernel_rfl) (by kernel_rfl) (by kernel_rfl) (fun _ _ _ h => h) (Or.inl ⟨by rfl, ?_⟩) (by assumption) ?_
                rotate_left
                · intro w hSw
                  (try dsimp only at hSw)
                  go_simp
                  try with_reducible rfl
                (try simp only [Act.put, List.setIfInBounds_toArray, List.set_cons_zero, List.set_cons_succ])
                refine wpAnyH_take (i := 5) (oi := { dst := some 63, op := Go.Op.move (Go.Operand.tmp 7), type := 3, pos := "law.go:92", after := #[], guard := none }) (v := ?_) rfl (by kernel_rfl) (by kernel_rfl) (by kernel_rfl) (fun _ _ _ h => h) (Or.inl ⟨by rfl, ?_⟩) (by assumption) ?_
                rotate_left
                · intro w hSw
                  (try dsimp only at hSw)
                  go_simp
                  try with_reducible rfl
                (try simp only [Act.put, List.setIfInBounds_toArray, List.set_cons_zero, List.set_cons_succ])
                refine wpAnyH_take (i := 6) (oi := { dst := some 64, op := Go.Op.indexAddr 60 (Go.Operand.tmp 62) (Go.Operand.tmp 63), type := 0, pos := "law.go:92", after := #[{ on := 4, ground := Go.Ground.data }, { on := 5, ground := Go.Ground.data }], guard := none }) (v := ?_) rfl (by kernel_rfl) (by kernel_rfl) (by kernel_rfl) (fun _ _ _ h => h) (Or.inl ⟨by rfl, ?_⟩) (by assumption) ?_
                rotate_left
                · intro w hSw
                  (try dsimp only at hSw)
                  go_simp
                  try with_reducible rfl
                (try simp only [Act.put, List.setIfInBounds_toArray, List.set_cons_zero, List.set_cons_succ])
                refine wpAnyH_take (i := 7) (oi := { dst := some 65, op := Go.Op.fieldAddr 28 (Go.Operand.tmp 64) 2, type := 0, pos := "law.go:92", after := #[{ on := 6, ground := Go.Ground.data }], guard := none }) (v := ?_) rfl (by kernel_rfl) (by kernel_rfl) (by kernel_rfl) (fun _ _ _ h => h) (Or.inl ⟨by rfl, ?_⟩) (by assumption) ?_
                rotate_left
                · intro w hSw
                  (try dsimp only at hSw)
                  go_simp
                  try with_reducible rfl
                (try simp only [Act.put, List.setIfInBounds_toArray, List.set_cons_zero, List.set_cons_succ])
                refine wpAnyH_take (i := 8) (oi := { dst := some 66, op := Go.Op.load 26 (Go.Operand.tmp 65), type := 26, pos := "law.go:92", after := #[{ on := 7, ground := Go.Ground.data }], guard := none }) (v := ?_) rfl (by kernel_rfl) (by kernel_rfl) (by kernel_rfl) (fun _ _ _ h => h) (Or.inl ⟨by rfl, ?_⟩) (by assumption) ?_
                rotate_left
                · intro w hSw
                  (try dsimp only at hSw)
                  go_simp
                  try with_reducible rfl
                (try simp only [Act.put, List.setIfInBounds_toArray, List.set_cons_zero, List.set_cons_succ])
                refine wpAnyH_ready (rs := [2]) (by kernel_rfl) (by simp) ?_
                refine AllReadyH.cons (o := { dst := some 60, op := Go.Op.call { callee := Go.Callee.value (Go.Operand.func 12), args := #[Go.Operand.tmp 59], argTypes := #[25] }, type := 36, pos := "law.go:92", after := #[{ on := 1, ground := Go.Ground.data }], guard := none }) rfl (fun K hK => ?_) AllReadyH.nil
                go_simp
                refine Calls.mono (HTO.out _) ?_
                rintro e w5 ⟨rfl, hb5⟩
                have hbA : Below wc.heap.size wc w5 := Below.trans (by (repeat' (first | (with_reducible exact Below.refl _ _) | (with_reducible assumption) | (with_reducible refine Below.setCell ?_ ?_ _) | (with_reducible refine Below.alloc ?_ ?_ _) | (with_reducible refine below_drewN ?_ _) | (with_reducible refine Below.drew ?_) | go_size))) (hb5.mono (by go_size))
                have hz5 := hbA.size
                clear hb5
                refine hK.out _ _ ?_ (fun hHeld => ?_)
                · (try dsimp only)
                  exact KK _ (by (repeat' (first | (with_reducible exact Below.refl _ _) | (with_reducible assumption) | (with_reducible refine Below.setCell ?_ ?_ _) | (with_reducible refine Below.alloc ?_ ?_ _) | (with_reducible refine below_drewN ?_ _) | (with_reducible refine Below.drew ?_) | go_size)))
                clear hK K
                (try simp only [Act.put, List.setIfInBounds_toArray, List.set_cons_zero, List.set_cons_succ])
                refine wpAnyH_ready (rs := [9]) (by kernel_rfl) (by simp) ?_
                refine AllReadyH.cons (o := { dst := some 67, op := Go.Op.call { callee := Go.Callee.value (Go.Operand.func 19), args := #[Go.Operand.tmp 58, Go.Operand.tmp 60, Go.Operand.tmp 61, Go.Operand.tmp 66], argTypes := #[30, 36, 3, 26] }, type := 32, pos := "law.go:92", after := #[{ on := 0, ground := Go.Ground.data }, { on := 2, ground := Go.Ground.data }, { on := 3, ground := Go.Ground.data }, { on := 8, ground := Go.Ground.data }, { on := 2, ground := Go.Ground.chain }], guard := none }) rfl (fun K hK => ?_) AllReadyH.nil
                go_simp
                refine Calls.mono (HPU.out _ (by (repeat' (first | (with_reducible exact Below.refl _ _) | (with_reducible assumption) | (with_reducible refine Below.setCell ?_ ?_ _) | (with_reducible refine Below.alloc ?_ ?_ _) | (with_reducible refine below_drewN ?_ _) | (with_reducible refine Below.drew ?_) | go_size)))) ?_
                rintro e w6 ⟨v6, rfl, hro, hb6⟩
                have HRO := Lib.hid hro
                obtain ⟨A6, cap6, hv6, _, _, _⟩ := hro
                subst hv6
                have hbB : Below wc.heap.size wc w6 := Below.trans (by (repeat' (first | (with_reducible exact Below.refl _ _) | (with_reducible assumption) | (with_reducible refine Below.setCell ?_ ?_ _) | (with_reducible refine Below.alloc ?_ ?_ _) | (with_reducible refine below_drewN ?_ _) | (with_reducible refine Below.drew ?_) | go_size))) (hb6.mono (by first | exact Nat.le_refl _ | go_size))
                have hz6 := hbB.size
                refine hK.out _ _ ?_ (fun hHeld => ?_)
                · (try dsimp only)
                  exact KK _ (by (repeat' (first | (with_reducible exact Below.refl _ _) | (with_reducible assumption) | (with_reducible refine Below.setCell ?_ ?_ _) | (with_reducible refine Below.alloc ?_ ?_ _) | (with_reducible refine below_drewN ?_ _) | (with_reducible refine Below.drew ?_) | go_size)))
                clear hK K
                (try simp only [Act.put, List.setIfInBounds_toArray, List.set_cons_zero, List.set_cons_succ])
                refine wpAnyH_take (i := 10) (oi := { dst := some 57, op := Go.Op.move (Go.Operand.tmp 67), type := 32, pos := "law.go:92", after := #[{ on := 9, ground := Go.Ground.data }], guard := none }) (v := ?_) rfl (by kernel_rfl) (by kernel_rfl) (by kernel_rfl) (fun _ _ _ h => h) (Or.inl ⟨by rfl, ?_⟩) (by assumption) ?_
                rotate_left
                · intro w hSw
                  (try dsimp only at hSw)
                  go_simp
                  try with_reducible rfl
                (try simp only [Act.put, List.setIfInBounds_toArray, List.set_cons_zero, List.set_cons_succ])
                refine wpAnyH_take (i := 11) (oi := { dst := some 68, op := Go.Op.extract (Go.Operand.tmp 57) 0, type := 30, pos := "law.go:92", after := #[{ on := 10, ground := Go.Ground.data }], guard := none }) (v := ?_) rfl (by kernel_rfl) (by kernel_rfl) (by kernel_rfl) (fun _ _ _ h => h) (Or.inl ⟨by rfl, ?_⟩) (by assumption) ?_
                rotate_left
                · intro w hSw
                  (try dsimp only at hSw)
                  go_simp
                  try with_reducible rfl
                (try simp only [Act.put, List.setIfInBounds_toArray, List.set_cons_zero, List.set_cons_succ])
                refine wpAnyH_take (i := 12) (oi := { dst := some 69, op := Go.Op.extract (Go.Operand.tmp 57) 1, type := 3, pos := "law.go:92", after := #[{ on := 10, ground := Go.Ground.data }, { on := 13, ground := Go.Ground.gcOnly Go.Departure.lateStores }], guard := none }) (v := ?_) rfl (by kernel_rfl) (by kernel_rfl) (by kernel_rfl) (fun _ _ _ h => h) (Or.inl ⟨by rfl, ?_⟩) (by assumption) ?_
                rotate_left
                · intro w hSw
                  (try dsimp only at hSw)
                  go_simp
                  try with_reducible rfl
                (try simp only [Act.put, List.setIfInBounds_toArray, List.set_cons_zero, List.set_cons_succ])
                refine wpAnyH_take (i := 13) (oi := { dst := some 5, op := Go.Op.assign (Go.Operand.tmp 68), type := 30, pos := "law.go:92", after := #[{ on := 11, ground := Go.Ground.data }, { on := 9, ground := Go.Ground.chain }, { on := 0, ground := Go.Ground.phase }, { on := 1, ground := Go.Ground.phase }, { on := 2, ground := Go.Ground.phase }, { on := 3, ground := Go.Ground.phase }, { on := 4, ground := Go.Ground.phase }, { on := 5, ground := Go.Ground.phase }, { on := 6, ground := Go.Ground.phase }, { on := 7, ground := Go.Ground.phase }, { on := 8, ground := Go.Ground.phase }, { on := 9, ground := Go.Ground.phase }, { on := 10, ground := Go.Ground.phase }, { on := 11, ground := Go.Ground.phase }, { on := 12, ground := Go.Ground.textOnly Go.Departure.lateStores }], guard := none }) (v := ?_) rfl (by kernel_rfl) (by kernel_rfl) (by kernel_rfl) (fun _ _ _ h => h) (Or.inl ⟨by rfl, ?_⟩) (by assumption) ?_
                rotate_left
                · intro w hSw
                  (try dsimp only at hSw)
                  go_simp
                  try with_reducible rfl
                (try simp only [Act.put, List.setIfInBounds_toArray, List.set_cons_zero, List.set_cons_succ])
                refine wpAnyH_take (i := 14) (oi := { dst := some 10, op := Go.Op.assign (Go.Operand.tmp 69), type := 3, pos := "law.go:92", after := #[{ on := 12, ground := Go.Ground.data }, { on := 13, ground := Go.Ground.chain }, { on := 0, ground := Go.Ground.phase }, { on := 1, ground := Go.Ground.phase }, { on := 2, ground := Go.Ground.phase }, { on := 3, ground := Go.Ground.phase }, { on := 4, ground := Go.Ground.phase }, { on := 5, ground := Go.Ground.phase }, { on := 6, ground := Go.Ground.phase }, { on := 7, ground := Go.Ground.phase }, { on := 8, ground := Go.Ground.phase }, { on := 9, ground := Go.Ground.phase }, { on := 10, ground := Go.Ground.phase }, { on := 11, ground := Go.Ground.phase }, { on := 12, ground := Go.Ground.phase }, { on := 13, ground := Go.Ground.phase }], guard := none }) (v := ?_) rfl (by kernel_rfl) (by kernel_rfl) (by kernel_rfl) (fun _ _ _ h => h) (Or.inl ⟨by rfl, ?_⟩) (by assumption) ?_
                rotate_left
                · intro w hSw
                  (try dsimp only at hSw)
                  go_simp
                  try with_reducible rfl
                (try simp only [Act.put, List.setIfInBounds_toArray, List.set_cons_zero, List.set_cons_succ])
                refine wpAnyH_done (by kernel_rfl) ?_ _
                have q := KK w6 hbB
                have q0 := q.1
                have q1 := q.2.1
                clear q hHeld
                rcases HTD.out with ⟨h5, hF5⟩ | ⟨h5, htd⟩
                · have d5 : ((cd : Int) != 5) = false := by simp; omega
                  have d5' : ((cd : Int) == 5) = true := by simp; omega
                  go_wp2_with fail
                  go_meet
                  case rel => exact ⟨A6, cap6, cd, rfl, rfl, HCD.out, F, D, K, c, Lib.hid ((HI2.out.learnt (by omega) HRO.out hz5 hbB (by rw [hF5]; exact HI2.out.tied.own) HGF.out).more)⟩
                · have d5 : ((cd : Int) != 5) = true := by simp; omega
                  have d5' : ((cd : Int) == 5) = false := by simp; omega
                  have HTE := Lib.hid htd
                  have HMP := Lib.hid (ownsMap_below HI2.out.map hbB)
                  clear htd h5
                  go_wp2_with (first
                    | (at_mapUpdate; refine wpList_mapUpdate_own _ rfl _ _ _ 61 rfl 25 3 k8_keyed Try.underlying61 _ mb i D rfl HMP.out (by unfold maxLen; omega) _ _ _ rfl rfl (klOf_rd HRG.out) _ [] (plainElem_int Try.underlying3 (Go.WalkArith.wf_i64 HPR.out)) ?_; intro w8 hown8 hgr8)
                    | fail)
                  go_meet
                  case rel => exact ⟨A6, cap6, cd, rfl, rfl, HCD.out, F, _, _, _, Lib.hid (HI2.out.noted (by omega) HRO.out hz5 hbB hgr8 hown8 (HI2.out.mr.put (HI2.out.map.tidy k8_keyed) HRG.out (P : Int)) HTE.out HGF.out)⟩
            · have e3' : (t3 == 0) = false := by simpa using e3
              by_cases e7 : t7 = 1
              · have e7' : (t7 == 1) = true := by simpa using e7
                as_aux_lemma =>
                  have htd := HI2.out.tied.own.drop (v := V) (m := M)
                  obtain ⟨F, hF⟩ : ∃ F, F = (dropF (fun i => ownP (f i)) V M n).1 := ⟨_, rfl⟩
                  obtain ⟨z, hz⟩ : ∃ z, z = (K V M).isSome := ⟨_, rfl⟩
                  have HDR : Hid (∀ w', Below wc.heap.size wc w' → Calls Try.prog 21 #[.slice Ay n cy, .agg #[.int .i64 V, .int .u64 (M : Int)]] w' (Gives 67 n F (fun u => .tuple #[u, .bool z]) w')) := fun w' hb => by
                    have := bucket_Drop (show n ≤ 1000000 by omega) (HI2.out.row.below hb).row (Nat.le_refl _) V M
                    rw [htd.1, ← hz, ← hF] at this
                    exact this
                  have HTE : Hid (Tied F n (delK K V M) (c - if z = true then 1 else 0)) := by rw [hF, hz]; exact htd.2
                  have HGF : Hid (∀ j, j < n → goodE (F j).e) := by rw [hF]; exact dropF_good HGD.out V M
                  have HHS : Hid (Maps.has D (klOf V M) = z) := by rw [hz]; exact HI2.out.mr.has V M HRG.out
                  have HMD : Hid (MapR (D.del (klOf V M)) (delK K V M) (c - if z = true then 1 else 0)) := by rw [hz]; exact HI2.out.mr.del (HI2.out.map.tidy k8_keyed) HRG.out
                  have hzz : (z != z) = false := by simp
                  clear htd hF hz
                  go_wp2_with fail
                  refine (HTO.out _).mono ?_
                  rintro e w5 ⟨rfl, hb5⟩
                  go_wp2_with fail
                  refine (HDR.out _ hb5).mono ?_
                  rintro e w6 ⟨v6, rfl, hro, hb6⟩
                  have HRO := Lib.hid hro
                  obtain ⟨A6, cap6, hv6, _, _, _⟩ := hro
                  subst hv6
                  have hz5 := hb5.size
                  have hbB : Below wc.heap.size wc w6 := hb5.trans (hb6.mono hb5.size)
                  have q := KK w6 hbB
                  have q0 := q.1
                  have q1 := q.2.1
                  have HMP := Lib.hid (ownsMap_below HI2.out.map hbB)
                  have hhs := HHS.out
                  clear q
                  go_wp2_with (first
                    | (at_lookup; refine wpList_lookup_own_ok_int _ rfl _ _ 61 rfl 25 3 .i64 k8_keyed Try.underlying61 Try.underlying3 (zeroI _) mb i D rfl HMP.out _ _ rfl (klOf_rd HRG.out) ?_; intro cv hat hwc; clear hat hwc)
                    | (at_delete; refine wpList_delete_own _ rfl _ _ 61 25 rfl 3 k8_keyed Try.underlying61 _ mb i D rfl HMP.out _ _ rfl (klOf_rd HRG.out) ?_; intro w8 hown8 hturn8)
                    | fail)
                  go_meet
                  case rel => exact ⟨A6, cap6, 0, rfl, rfl, by omega, F, _, _, _, Lib.hid (HI2.out.noted (by omega) HRO.out hz5 hbB hturn8.grown (hown8.mono (by omega)) HMD.out HTE.out HGF.out)⟩
              · have e7' : (t7 == 1) = false := by simpa using e7
                as_aux_lemma =>
                  obtain ⟨cd, hcd⟩ : ∃ cd, cd = (putF (fun i => ownP (f i)) ⟨V, M, (P : Int), false, now⟩ now n).2 := ⟨_, rfl⟩
                  obtain ⟨F, hF⟩ : ∃ F, F = (putF (fun i => ownP (f i)) ⟨V, M, (P : Int), false, now⟩ now n).1 := ⟨_, rfl⟩
                  have HPU : Hid (∀ w', Below wc.heap.size wc w' → Calls Try.prog 11 #[.slice Ay n cy, .agg #[.int .i64 V, .int .u64 (M : Int)], .int .i64 (P : Int), .int .u32 (now : Int)] w' (Gives 67 n F (fun u => .tuple #[u, .int .i64 (cd : Nat)]) w')) := fun w' hb => by
                    have := bucket_Learn (show n ≤ 1000000 by omega) (HI2.out.row.below hb).row (Nat.le_refl _) (fun j hj => (HI2.out.good j hj).2) V M HM8.out (P : Int) now hNW
                    rw [← hcd, ← hF] at this
                    exact this
                  have HCD : Hid (cd ≤ 5) := by rw [hcd]; exact putF_le _ _
                  have HGF : Hid (∀ j, j < n → goodE (F j).e) := by rw [hF]; exact putF_good HGD.out (e := ⟨V, M, (P : Int), false, now⟩) ⟨HRG.out, by show now < 4294967296; omega⟩ now
                  have HTD : Hid (Tied F n K c) := by rw [hF]; exact HI2.out.tied.own.learn (e := ⟨V, M, (P : Int), false, now⟩) rfl
                  clear hcd hF
                  go_wp2_with fail
                  refine wp_region_held_drew (S := fun w' => w'.cell? ⟨kb, 0, none⟩ = some (.int .i64 V) ∧ w'.cell? ⟨kb, 1, none⟩ = some (.int .u64 (M : Int)) ∧ w'.cell? ⟨jb, joff + i * 4 + 3, none⟩ = some (.int .u32 (now : Int))) (by kernel_rfl) ?_ (fun hHeld => ?_)
                  · exact ⟨kc0, kc1, k3⟩
                  refine wpAnyH_take (i := 0) (oi := { dst := some 101, op := Go.Op.move (Go.Operand.tmp 5), type := 30, pos := "law.go:105", after := #[], guard := none }) (v := ?_) rfl (by kernel_rfl) (by kernel_rfl) (by kernel_rfl) (fun _ _ _ h => h) (Or.inl ⟨by rfl, ?_⟩) (by assumption) ?_
                  rotate_left
                  · intro w hSw
                    (try dsimp only at hSw)
                    go_simp
                    try with_reducible rfl
                  (try simp only [Act.put, List.setIfInBounds_toArray, List.set_cons_zero, List.set_cons_succ])
                  refine wpAnyH_take (i := 1) (oi := { dst := some 102, op := Go.Op.load 25 (Go.Operand.tmp 8), type := 25, pos := "law.go:105", after := #[], guard := none }) (v := ?_) rfl (by kernel_rfl) (by kernel_rfl) (by kernel_rfl) (fun _ _ _ h => h) (Or.inl ⟨by rfl, ?_⟩) (by assumption) ?_
                  rotate_left
                  · intro w hSw
                    (try dsimp only at hSw)
                    go_simp
                    try with_reducible rfl
                  (try simp only [Act.put, List.setIfInBounds_toArray, List.set_cons_zero, List.set_cons_succ])
                  refine wpAnyH_take (i := 3) (oi := { dst := some 104, op := Go.Op.move (Go.Operand.tmp 9), type := 3, pos := "law.go:105", after := #[], guard := none }) (v := ?_) rfl (by kernel_rfl) (by kernel_rfl) (by kernel_rfl) (fun _ _ _ h => h) (Or.inl ⟨by rfl, ?_⟩) (by assumption) ?_
                  rotate_left
                  · intro w hSw
                    (try dsimp only at hSw)
                    go_simp
                    try with_reducible rfl
                  (try simp only [Act.put, List.setIfInBounds_toArray, List.set_cons_zero, List.set_cons_succ])
                  refine wpAnyH_take (i := 4) (oi := { dst := some 105, op := Go.Op.move (Go.Operand.tmp 1), type := 60, pos := "law.go:105", after := #[], guard := none }) (v := ?_) rfl (by kernel_rfl) (by kernel_rfl) (by kernel_rfl) (fun _ _ _ h => h) (Or.inl ⟨by rfl, ?_⟩) (by assumption) ?_
                  rotate_left
                  · intro w hSw
                    (try dsimp only at hSw)
                    go_simp
                    try with_reducible rfl
                  (try simp only [Act.put, List.setIfInBounds_toArray, List.set_cons_zero, List.set_cons_succ])
                  refine wpAnyH_take (i := 5) (oi := { dst := some 106, op := Go.Op.move (Go.Operand.tmp 7), type := 3, pos := "law.go:105", after := #[], guard := none }) (v := ?_) rfl (by kernel_rfl) (by kernel_rfl) (by kernel_rfl) (fun _ _ _ h => h) (Or.inl ⟨by rfl, ?_⟩) (by assumption) ?_
                  rotate_left
                  · intro w hSw
                    (try dsimp only at hSw)
                    go_simp
                    try with_reducible rfl
                  (try simp only [Act.put, List.setIfInBounds_toArray, List.set_cons_zero, List.set_cons_succ])
                  refine wpAnyH_take (i := 6) (oi := { dst := some 107, op := Go.Op.indexAddr 60 (Go.Operand.tmp 105) (Go.Operand.tmp 106), type := 0, pos := "law.go:105", after := #[{ on := 4, ground := Go.Ground.data }, { on := 5, ground := Go.Ground.data }], guard := none }) (v := ?_) rfl (by kernel_rfl) (by kernel_rfl) (by kernel_rfl) (fun _ _ _ h => h) (Or.inl ⟨by rfl, ?_⟩) (by assumption) ?_
                  rotate_left
                  · intro w hSw
                    (try dsimp only at hSw)
                    go_simp
                    try with_reducible rfl
                  (try simp only [Act.put, List.setIfInBounds_toArray, List.set_cons_zero, List.set_cons_succ])
                  refine wpAnyH_take (i := 7) (oi := { dst := some 108, op := Go.Op.fieldAddr 28 (Go.Operand.tmp 107) 2, type := 0, pos := "law.go:105", after := #[{ on := 6, ground := Go.Ground.data }], guard := none }) (v := ?_) rfl (by kernel_rfl) (by kernel_rfl) (by kernel_rfl) (fun _ _ _ h => h) (Or.inl ⟨by rfl, ?_⟩) (by assumption) ?_
                  rotate_left
                  · intro w hSw
                    (try dsimp only at hSw)
                    go_simp
                    try with_reducible rfl
                  (try simp only [Act.put, List.setIfInBounds_toArray, List.set_cons_zero, List.set_cons_succ])
                  refine wpAnyH_take (i := 8) (oi := { dst := some 109, op := Go.Op.load 26 (Go.Operand.tmp 108), type := 26, pos := "law.go:105", after := #[{ on := 7, ground := Go.Ground.data }], guard := none }) (v := ?_) rfl (by kernel_rfl) (by kernel_rfl) (by kernel_rfl) (fun _ _ _ h => h) (Or.inl ⟨by rfl, ?_⟩) (by assumption) ?_
                  rotate_left
                  · intro w hSw
                    (try dsimp only at hSw)
                    go_simp
                    try with_reducible rfl
                  (try simp only [Act.put, List.setIfInBounds_toArray, List.set_cons_zero, List.set_cons_succ])
                  refine wpAnyH_ready (rs := [2]) (by kernel_rfl) (by simp) ?_
                  refine AllReadyH.cons (o := { dst := some 103, op := Go.Op.call { callee := Go.Callee.value (Go.Operand.func 12), args := #[Go.Operand.tmp 102], argTypes := #[25] }, type := 36, pos := "law.go:105", after := #[{ on := 1, ground := Go.Ground.data }], guard := none }) rfl (fun K hK => ?_) AllReadyH.nil
                  go_simp
                  refine Calls.mono (HTO.out _) ?_
                  rintro e w5 ⟨rfl, hb5⟩
                  have hbA : Below wc.heap.size wc w5 := Below.trans (by (repeat' (first | (with_reducible exact Below.refl _ _) | (with_reducible assumption) | (with_reducible refine Below.setCell ?_ ?_ _) | (with_reducible refine Below.alloc ?_ ?_ _) | (with_reducible refine below_drewN ?_ _) | (with_reducible refine Below.drew ?_) | go_size))) (hb5.mono (by go_size))
                  have hz5 := hbA.size
                  clear hb5
                  refine hK.out _ _ ?_ (fun hHeld => ?_)
                  · (try dsimp only)
                    exact KK _ (by (repeat' (first | (with_reducible exact Below.refl _ _) | (with_reducible assumption) | (with_reducible refine Below.setCell ?_ ?_ _) | (with_reducible refine Below.alloc ?_ ?_ _) | (with_reducible refine below_drewN ?_ _) | (with_reducible refine Below.drew ?_) | go_size)))
                  clear hK K
                  (try simp only [Act.put, List.setIfInBounds_toArray, List.set_cons_zero, List.set_cons_succ])
                  refine wpAnyH_ready (rs := [9]) (by kernel_rfl) (by simp) ?_
                  refine AllReadyH.cons (o := { dst := some 110, op := Go.Op.call { callee := Go.Callee.value (Go.Operand.func 11), args := #[Go.Operand.tmp 101, Go.Operand.tmp 103, Go.Operand.tmp 104, Go.Operand.tmp 109], argTypes := #[30, 36, 3, 26] }, type := 32, pos := "law.go:105", after := #[{ on := 0, ground := Go.Ground.data }, { on := 2, ground := Go.Ground.data }, { on := 3, ground := Go.Ground.data }, { on := 8, ground := Go.Ground.data }, { on := 2, ground := Go.Ground.chain }], guard := none }) rfl (fun K hK => ?_) AllReadyH.nil
                  go_simp
                  refine Calls.mono (HPU.out _ (by (repeat' (first | (with_reducible exact Below.refl _ _) | (with_reducible assumption) | (with_reducible refine Below.setCell ?_ ?_ _) | (with_reducible refine Below.alloc ?_ ?_ _) | (with_reducible refine below_drewN ?_ _) | (with_reducible refine Below.drew ?_) | go_size)))) ?_
                  rintro e w6 ⟨v6, rfl, hro, hb6⟩
                  have HRO := Lib.hid hro
                  obtain ⟨A6, cap6, hv6, _, _, _⟩ := hro
                  subst hv6
                  have hbB : Below wc.heap.size wc w6 := Below.trans (by (repeat' (first | (with_reducible exact Below.refl _ _) | (with_reducible assumption) | (with_reducible refine Below.setCell ?_ ?_ _) | (with_reducible refine Below.alloc ?_ ?_ _) | (with_reducible refine below_drewN ?_ _) | (with_reducible refine Below.drew ?_) | go_size))) (hb6.mono (by first | exact Nat.le_refl _ | go_size))
                  have hz6 := hbB.size
                  refine hK.out _ _ ?_ (fun hHeld => ?_)
                  · (try dsimp only)
                    exact KK _ (by (repeat' (first | (with_reducible exact Below.refl _ _) | (with_reducible assumption) | (with_reducible refine Below.setCell ?_ ?_ _) | (with_reducible refine Below.alloc ?_ ?_ _) | (with_reducible refine below_drewN ?_ _) | (with_reducible refine Below.drew ?_) | go_size)))
                  clear hK K
                  (try simp only [Act.put, List.setIfInBounds_toArray, List.set_cons_zero, List.set_cons_succ])
                  refine wpAnyH_take (i := 10) (oi := { dst := some 100, op := Go.Op.move (Go.Operand.tmp 110), type := 32, pos := "law.go:105", after := #[{ on := 9, ground := Go.Ground.data }], guard := none }) (v := ?_) rfl (by kernel_rfl) (by kernel_rfl) (by kernel_rfl) (fun _ _ _ h => h) (Or.inl ⟨by rfl, ?_⟩) (by assumption) ?_
                  rotate_left
                  · intro w hSw
                    (try dsimp only at hSw)
                    go_simp
                    try with_reducible rfl
                  (try simp only [Act.put, List.setIfInBounds_toArray, List.set_cons_zero, List.set_cons_succ])
                  refine wpAnyH_take (i := 11) (oi := { dst := some 111, op := Go.Op.extract (Go.Operand.tmp 100) 0, type := 30, pos := "law.go:105", after := #[{ on := 10, ground := Go.Ground.data }], guard := none }) (v := ?_) rfl (by kernel_rfl) (by kernel_rfl) (by kernel_rfl) (fun _ _ _ h => h) (Or.inl ⟨by rfl, ?_⟩) (by assumption) ?_
                  rotate_left
                  · intro w hSw
                    (try dsimp only at hSw)
                    go_simp
                    try with_reducible rfl
                  (try simp only [Act.put, List.setIfInBounds_toArray, List.set_cons_zero, List.set_cons_succ])
                  refine wpAnyH_take (i := 12) (oi := { dst := some 112, op := Go.Op.extract (Go.Operand.tmp 100) 1, type := 3, pos := "law.go:105", after := #[{ on := 10, ground := Go.Ground.data }, { on := 13, ground := Go.Ground.gcOnly Go.Departure.lateStores }], guard := none }) (v := ?_) rfl (by kernel_rfl) (by kernel_rfl) (by kernel_rfl) (fun _ _ _ h => h) (Or.inl ⟨by rfl, ?_⟩) (by assumption) ?_
                  rotate_left
                  · intro w hSw
                    (try dsimp only at hSw)
                    go_simp
                    try with_reducible rfl
                  (try simp only [Act.put, List.setIfInBounds_toArray, List.set_cons_zero, List.set_cons_succ])
                  refine wpAnyH_take (i := 13) (oi := { dst := some 5, op := Go.Op.assign (Go.Operand.tmp 111), type := 30, pos := "law.go:105", after := #[{ on := 11, ground := Go.Ground.data }, { on := 9, ground := Go.Ground.chain }, { on := 0, ground := Go.Ground.phase }, { on := 1, ground := Go.Ground.phase }, { on := 2, ground := Go.Ground.phase }, { on := 3, ground := Go.Ground.phase }, { on := 4, ground := Go.Ground.phase }, { on := 5, ground := Go.Ground.phase }, { on := 6, ground := Go.Ground.phase }, { on := 7, ground := Go.Ground.phase }, { on := 8, ground := Go.Ground.phase }, { on := 9, ground := Go.Ground.phase }, { on := 10, ground := Go.Ground.phase }, { on := 11, ground := Go.Ground.phase }, { on := 12, ground := Go.Ground.textOnly Go.Departure.lateStores }], guard := none }) (v := ?_) rfl (by kernel_rfl) (by kernel_rfl) (by kernel_rfl) (fun _ _ _ h => h) (Or.inl ⟨by rfl, ?_⟩) (by assumption) ?_
                  rotate_left
                  · intro w hSw
                    (try dsimp only at hSw)
                    go_simp
                    try with_reducible rfl
                  (try simp only [Act.put, List.setIfInBounds_toArray, List.set_cons_zero, List.set_cons_succ])
                  refine wpAnyH_take (i := 14) (oi := { dst := some 10, op := Go.Op.assign (Go.Operand.tmp 112), type := 3, pos := "law.go:105", after := #[{ on := 12, ground := Go.Ground.data }, { on := 13, ground := Go.Ground.chain }, { on := 0, ground := Go.Ground.phase }, { on := 1, ground := Go.Ground.phase }, { on := 2, ground := Go.Ground.phase }, { on := 3, ground := Go.Ground.phase }, { on := 4, ground := Go.Ground.phase }, { on := 5, ground := Go.Ground.phase }, { on := 6, ground := Go.Ground.phase }, { on := 7, ground := Go.Ground.phase }, { on := 8, ground := Go.Ground.phase }, { on := 9, ground := Go.Ground.phase }, { on := 10, ground := Go.Ground.phase }, { on := 11, ground := Go.Ground.phase }, { on := 12, ground := Go.Ground.phase }, { on := 13, ground := Go.Ground.phase }], guard := none }) (v := ?_) rfl (by kernel_rfl) (by kernel_rfl) (by kernel_rfl) (fun _ _ _ h => h) (Or.inl ⟨by rfl, ?_⟩) (by assumption) ?_
                  rotate_left
                  · intro w hSw
                    (try dsimp only at hSw)
                    go_simp
                    try with_reducible rfl
                  (try simp only [Act.put, List.setIfInBounds_toArray, List.set_cons_zero, List.set_cons_succ])
                  refine wpAnyH_done (by kernel_rfl) ?_ _
                  go_wp2_with fail
                  go_meet
                  case rel => exact ⟨A6, cap6, cd, rfl, rfl, HCD.out, F, D, K, c, Lib.hid ((HI2.out.learnt (by omega) HRO.out hz5 hbB HTD.out HGF.out).more)⟩
          case rest =>
            obtain ⟨Az, cz, code, rfl, rfl, hcode, f2, D2, K2, c2, HI3⟩ := hcut
            as_aux_lemma =>
              have HI4 := Lib.hid HI3.out
              go_wp2
              go_loopw [14, 15] (fun s a wr => ∃ a' : Nat, a' ≤ n ∧ a = .int .i64 a' ∧ s = .int .i64 (cntS f2 a' : Nat) ∧ Hid (Below wc.heap.size wc wr)) (fun _ a _ => n - (intOf a).toNat)
              case atStart => exact ⟨0, by omega, rfl, rfl, Below.refl _ _⟩
              case round =>
                obtain ⟨a', ha, rfl, rfl, HB3⟩ := hrel
                by_cases han : a' < n
                · have d1 : decide (a' < n) = true := by simp; omega
                  obtain ⟨Ax, capx, hvx, hc1, hc2, b, off, hA, hbl, _, hcells⟩ := HI4.out.row
                  cases hvx
                  subst hA
                  unfold maxLen at hc2
                  have hblw : b < wr.heap.size := Nat.lt_of_lt_of_le hbl HB3.out.size
                  have HC := Lib.hid fun j hj => plHolds_block (hcells j hj) (HB3.out.block b hbl)
                  have HON := Lib.hid (HI4.out.tied.once)
                  have HTI := Lib.hid (HI4.out.tied.tie a' han)
                  have HGA := Lib.hid (HI4.out.good a' han)
                  clear hcells
                  rcases hfa : f2 a' with ⟨ua, va, ma, pa, sa, ta⟩
                  have HFA := Lib.hid hfa
                  go_wp2
                  go_loopw [16] (fun bb wr2 => ∃ b' : Nat, b' ≤ a' ∧ bb = .int .i64 b' ∧ Hid (Below wr.heap.size wr wr2)) (fun bb _ => a' - (intOf bb).toNat)
                  case atStart => exact ⟨0, by omega, rfl, Below.refl _ _⟩
                  case round =>
                    obtain ⟨b', hb, rfl, HB4⟩ := hrel
                    by_cases hbn' : b' < a'
                    · have d2 : decide (b' < a') = true := by simp; omega
                      have hbn : b' < n := by omega
                      rcases hfb : f2 b' with ⟨ub, vb, m_b, pb, sb, tb⟩
                      have HCC := Lib.hid fun j hj => plHolds_block (HC.out j hj) (HB4.out.block b hblw)
                      have HCC : Hid (∀ w', Below wr.heap.size wr w' → plHolds w' b (off + a' * 6) ⟨ua, va, ma, pa, sa, ta⟩ ∧ plHolds w' b (off + b' * 6) ⟨ub, vb, m_b, pb, sb, tb⟩) := fun w' h => by
                        have x1 := plHolds_block (HCC.out a' han) (h.block b (Nat.lt_of_lt_of_le hblw HB4.out.size))
                        have x2 := plHolds_block (HCC.out b' hbn) (h.block b (Nat.lt_of_lt_of_le hblw HB4.out.size))
                        rw [HFA.out] at x1
                        rw [hfb] at x2
                        exact ⟨x1, x2⟩
                      have HNO : Hid (ua = true → ub = true → ¬ (va = vb ∧ ma = m_b)) := fun h1 h2 h3 => by
                        have := HON.out a' b' han hbn (by rw [HFA.out]; exact h1) (by rw [hfb]; exact h2) (by rw [HFA.out, hfb]; exact h3.1) (by rw [HFA.out, hfb]; exact h3.2)
                        omega
                      have XX := HCC.out _ (Below.refl _ _)
                      clear hfb
                      obtain ⟨⟨x0, x1, x2, x3, x4, x5⟩, ⟨y0, y1, y2, y3, y4, y5⟩⟩ := XX
                      cases ua
                      · go_wp2_with fail
                        as_aux_lemma =>
                          refine wp_region_held_drew (S := fun w' => w'.cell? ⟨b, off + a' * 6, none⟩ = some (.bool false) ∧ w'.cell? ⟨b, off + a' * 6 + 1, none⟩ = some (.int .i64 va) ∧ w'.cell? ⟨b, off + a' * 6 + 2, none⟩ = some (.int .u64 (ma : Int)) ∧ w'.cell? ⟨b, off + b' * 6, none⟩ = some (.bool ub) ∧ w'.cell? ⟨b, off + b' * 6 + 1, none⟩ = some (.int .i64 vb) ∧ w'.cell? ⟨b, off + b' * 6 + 2, none⟩ = some (.int .u64 (m_b : Int))) (by kernel_rfl) ?_ (fun hHeld => ?_)
                          · exact ⟨x0, x1, x2, y0, y1, y2⟩
                          refine wpAnyH_take (i := 0) (oi := { dst := some 124, op := Go.Op.move (Go.Operand.tmp 5), type := 30, pos := "law.go:110", after := #[], guard := none }) (v := ?_) rfl (by kernel_rfl) (by kernel_rfl) (by kernel_rfl) (fun _ _ _ h => h) (Or.inl ⟨by rfl, ?_⟩) (by assumption) ?_
                          rotate_left
                          · intro w hSw
                            (try dsimp only at hSw)
                            go_simp
                            try with_reducible rfl
                          (try simp only [Act.put, List.setIfInBounds_toArray, List.set_cons_zero, List.set_cons_succ])
                          refine wpAnyH_take (i := 1) (oi := { dst := some 125, op := Go.Op.move (Go.Operand.tmp 15), type := 3, pos := "law.go:110", after := #[], guard := none }) (v := ?_) rfl (by kernel_rfl) (by kernel_rfl) (by kernel_rfl) (fun _ _ _ h => h) (Or.inl ⟨by rfl, ?_⟩) (by assumption) ?_
                          rotate_left
                          · intro w hSw
                            (try dsimp only at hSw)
                            go_simp
                            try with_reducible rfl
                          (try simp only [Act.put, List.setIfInBounds_toArray, List.set_cons_zero, List.set_cons_succ])
                          refine wpAnyH_take (i := 2) (oi := { dst := some 126, op := Go.Op.indexAddr 30 (Go.Operand.tmp 124) (Go.Operand.tmp 125), type := 0, pos := "law.go:110", after := #[{ on := 0, ground := Go.Ground.data }, { on := 1, ground := Go.Ground.data }], guard := none }) (v := ?_) rfl (by kernel_rfl) (by kernel_rfl) (by kernel_rfl) (fun _ _ _ h => h) (Or.inl ⟨by rfl, ?_⟩) (by assumption) ?_
                          rotate_left
                          · intro w hSw
                            (try dsimp only at hSw)
                            go_simp
                            try with_reducible rfl
                          (try simp only [Act.put, List.setIfInBounds_toArray, List.set_cons_zero, List.set_cons_succ])
                          refine wpAnyH_take (i := 3) (oi := { dst := some 127, op := Go.Op.fieldAddr 67 (Go.Operand.tmp 126) 0, type := 0, pos := "law.go:110", after := #[{ on := 2, ground := Go.Ground.data }], guard := none }) (v := ?_) rfl (by kernel_rfl) (by kernel_rfl) (by kernel_rfl) (fun _ _ _ h => h) (Or.inl ⟨by rfl, ?_⟩) (by assumption) ?_
                          rotate_left
                          · intro w hSw
                            (try dsimp only at hSw)
                            go_simp
                            try with_reducible rfl
                          (try simp only [Act.put, List.setIfInBounds_toArray, List.set_cons_zero, List.set_cons_succ])
                          refine wpAnyH_take (i := 4) (oi := { dst := some 128, op := Go.Op.load 4 (Go.Operand.tmp 127), type := 4, pos := "law.go:110", after := #[{ on := 3, ground := Go.Ground.data }], guard := none }) (v := ?_) rfl (by kernel_rfl) (by kernel_rfl) (by kernel_rfl) (fun _ _ _ h => h) (Or.inl ⟨by rfl, ?_⟩) (by assumption) ?_
                          rotate_left
                          · intro w hSw
                            (try dsimp only at hSw)
                            go_simp
                            try with_reducible rfl
                          (try simp only [Act.put, List.setIfInBounds_toArray, List.set_cons_zero, List.set_cons_succ])
                          refine wpAnyH_take (i := 5) (oi := { dst := some 129, op := Go.Op.move (Go.Operand.tmp 128), type := 4, pos := "law.go:110", after := #[{ on := 4, ground := Go.Ground.data }], guard := none }) (v := ?_) rfl (by kernel_rfl) (by kernel_rfl) (by kernel_rfl) (fun _ _ _ h => h) (Or.inl ⟨by rfl, ?_⟩) (by assumption) ?_
                          rotate_left
                          · intro w hSw
                            (try dsimp only at hSw)
                            go_simp
                            try with_reducible rfl
                          (try simp only [Act.put, List.setIfInBounds_toArray, List.set_cons_zero, List.set_cons_succ])
                          refine wpAnyH_take (i := 6) (oi := { dst := some 130, op := Go.Op.move (Go.Operand.tmp 5), type := 30, pos := "law.go:110", after := #[{ on := 5, ground := Go.Ground.guard }], guard := some (5, true) }) (v := undef) rfl (by kernel_rfl) (by kernel_rfl) (by kernel_rfl) (fun _ _ _ h => h) (Or.inr ⟨by rfl, rfl⟩) (by assumption) ?_
                          (try simp only [Act.put, List.setIfInBounds_toArray, List.set_cons_zero, List.set_cons_succ])
                          refine wpAnyH_take (i := 7) (oi := { dst := some 131, op := Go.Op.move (Go.Operand.tmp 16), type := 3, pos := "law.go:110", after := #[{ on := 5, ground := Go.Ground.guard }], guard := some (5, true) }) (v := undef) rfl (by kernel_rfl) (by kernel_rfl) (by kernel_rfl) (fun _ _ _ h => h) (Or.inr ⟨by rfl, rfl⟩) (by assumption) ?_
                          (try simp only [Act.put, List.setIfInBounds_toArray, List.set_cons_zero, List.set_cons_succ])
                          refine wpAnyH_take (i := 8) (oi := { dst := some 132, op := Go.Op.indexAddr 30 (Go.Operand.tmp 130) (Go.Operand.tmp 131), type := 0, pos := "law.go:110", after := #[{ on := 6, ground := Go.Ground.data }, { on := 7, ground := Go.Ground.data }, { on := 5, ground := Go.Ground.guard }], guard := some (5, true) }) (v := undef) rfl (by kernel_rfl) (by kernel_rfl) (by kernel_rfl) (fun _ _ _ h => h) (Or.inr ⟨by rfl, rfl⟩) (by assumption) ?_
                          (try simp only [Act.put, List.setIfInBounds_toArray, List.set_cons_zero, List.set_cons_succ])
                          refine wpAnyH_take (i := 9) (oi := { dst := some 133, op := Go.Op.fieldAddr 67 (Go.Operand.tmp 132) 0, type := 0, pos := "law.go:110", after := #[{ on := 8, ground := Go.Ground.data }, { on := 5, ground := Go.Ground.guard }], guard := some (5, true) }) (v := undef) rfl (by kernel_rfl) (by kernel_rfl) (by kernel_rfl) (fun _ _ _ h => h) (Or.inr ⟨by rfl, rfl⟩) (by assumption) ?_
                          (try simp only [Act.put, List.setIfInBounds_toArray, List.set_cons_zero, List.set_cons_succ])
                          refine wpAnyH_take (i := 10) (oi := { dst := some 134, op := Go.Op.load 4 (Go.Operand.tmp 133), type := 4, pos := "law.go:110", after := #[{ on := 9, ground := Go.Ground.data }, { on := 5, ground := Go.Ground.guard }], guard := some (5, true) }) (v := undef) rfl (by kernel_rfl) (by kernel_rfl) (by kernel_rfl) (fun _ _ _ h => h) (Or.inr ⟨by rfl, rfl⟩) (by assumption) ?_
                          (try simp only [Act.put, List.setIfInBounds_toArray, List.set_cons_zero, List.set_cons_succ])
                          refine wpAnyH_take (i := 11) (oi := { dst := some 135, op := Go.Op.pick (Go.Operand.tmp 129) (Go.Operand.tmp 134) (Go.Operand.const (Go.Value.bool false)), type := 4, pos := "law.go:110", after := #[{ on := 5, ground := Go.Ground.data }, { on := 10, ground := Go.Ground.data }], guard := none }) (v := ?_) rfl (by kernel_rfl) (by kernel_rfl) (by kernel_rfl) (fun _ _ _ h => h) (Or.inl ⟨by rfl, ?_⟩) (by assumption) ?_
                          rotate_left
                          · intro w hSw
                            (try dsimp only at hSw)
                            go_simp
                            try with_reducible rfl
                          (try simp only [Act.put, List.setIfInBounds_toArray, List.set_cons_zero, List.set_cons_succ])
                          refine wpAnyH_take (i := 12) (oi := { dst := some 136, op := Go.Op.move (Go.Operand.tmp 135), type := 4, pos := "law.go:110", after := #[{ on := 11, ground := Go.Ground.data }, { on := 5, ground := Go.Ground.chain }], guard := none }) (v := ?_) rfl (by kernel_rfl) (by kernel_rfl) (by kernel_rfl) (fun _ _ _ h => h) (Or.inl ⟨by rfl, ?_⟩) (by assumption) ?_
                          rotate_left
                          · intro w hSw
                            (try dsimp only at hSw)
                            go_simp
                            try with_reducible rfl
                          (try simp only [Act.put, List.setIfInBounds_toArray, List.set_cons_zero, List.set_cons_succ])
                          refine wpAnyH_take (i := 13) (oi := { dst := some 137, op := Go.Op.move (Go.Operand.tmp 5), type := 30, pos := "law.go:110", after := #[{ on := 12, ground := Go.Ground.guard }], guard := some (12, true) }) (v := undef) rfl (by kernel_rfl) (by kernel_rfl) (by kernel_rfl) (fun _ _ _ h => h) (Or.inr ⟨by rfl, rfl⟩) (by assumption) ?_
                          (try simp only [Act.put, List.setIfInBounds_toArray, List.set_cons_zero, List.set_cons_succ])
                          refine wpAnyH_take (i := 14) (oi := { dst := some 138, op := Go.Op.move (Go.Operand.tmp 15), type := 3, pos := "law.go:110", after := #[{ on := 12, ground := Go.Ground.guard }], guard := some (12, true) }) (v := undef) rfl (by kernel_rfl) (by kernel_rfl) (by kernel_rfl) (fun _ _ _ h => h) (Or.inr ⟨by rfl, rfl⟩) (by assumption) ?_
                          (try simp only [Act.put, List.setIfInBounds_toArray, List.set_cons_zero, List.set_cons_succ])
                          refine wpAnyH_take (i := 15) (oi := { dst := some 139, op := Go.Op.indexAddr 30 (Go.Operand.tmp 137) (Go.Operand.tmp 138), type := 0, pos := "law.go:110", after := #[{ on := 13, ground := Go.Ground.data }, { on := 14, ground := Go.Ground.data }, { on := 12, ground := Go.Ground.guard }], guard := some (12, true) }) (v := undef) rfl (by kernel_rfl) (by kernel_rfl) (by kernel_rfl) (fun _ _ _ h => h) (Or.inr ⟨by rfl, rfl⟩) (by assumption) ?_
                          (try simp only [Act.put, List.setIfInBounds_toArray, List.set_cons_zero, List.set_cons_succ])
                          refine wpAnyH_take (i := 16) (oi := { dst := some 140, op := Go.Op.fieldAddr 67 (Go.Operand.tmp 139) 1, type := 0, pos := "law.go:110", after := #[{ on := 15, ground := Go.Ground.data }, { on := 12, ground := Go.Ground.guard }], guard := some (12, true) }) (v := undef) rfl (by kernel_rfl) (by kernel_rfl) (by kernel_rfl) (fun _ _ _ h => h) (Or.inr ⟨by rfl, rfl⟩) (by assumption) ?_
                          (try simp only [Act.put, List.setIfInBounds_toArray, List.set_cons_zero, List.set_cons_succ])
                          refine wpAnyH_take (i := 17) (oi := { dst := some 141, op := Go.Op.fieldAddr 65 (Go.Operand.tmp 140) 0, type := 0, pos := "law.go:110", after := #[{ on := 16, ground := Go.Ground.data }, { on := 12, ground := Go.Ground.guard }], guard := some (12, true) }) (v := undef) rfl (by kernel_rfl) (by kernel_rfl) (by kernel_rfl) (fun _ _ _ h => h) (Or.inr ⟨by rfl, rfl⟩) (by assumption) ?_
                          (try simp only [Act.put, List.setIfInBounds_toArray, List.set_cons_zero, List.set_cons_succ])
                          refine wpAnyH_take (i := 18) (oi := { dst := some 142, op := Go.Op.load 36 (Go.Operand.tmp 141), type := 36, pos := "law.go:110", after := #[{ on := 17, ground := Go.Ground.data }, { on := 12, ground := Go.Ground.guard }], guard := some (12, true) }) (v := undef) rfl (by kernel_rfl) (by kernel_rfl) (by kernel_rfl) (fun _ _ _ h => h) (Or.inr ⟨by rfl, rfl⟩) (by assumption) ?_
                          (try simp only [Act.put, List.setIfInBounds_toArray, List.set_cons_zero, List.set_cons_succ])
                          refine wpAnyH_take (i := 19) (oi := { dst := some 143, op := Go.Op.move (Go.Operand.tmp 5), type := 30, pos := "law.go:110", after := #[{ on := 12, ground := Go.Ground.guard }], guard := some (12, true) }) (v := undef) rfl (by kernel_rfl) (by kernel_rfl) (by kernel_rfl) (fun _ _ _ h => h) (Or.inr ⟨by rfl, rfl⟩) (by assumption) ?_
                          (try simp only [Act.put, List.setIfInBounds_toArray, List.set_cons_zero, List.set_cons_succ])
                          refine wpAnyH_take (i := 20) (oi := { dst := some 144, op := Go.Op.move (Go.Operand.tmp 16), type := 3, pos := "law.go:110", after := #[{ on := 12, ground := Go.Ground.guard }], guard := some (12, true) }) (v := undef) rfl (by kernel_rfl) (by kernel_rfl) (by kernel_rfl) (fun _ _ _ h => h) (Or.inr ⟨by rfl, rfl⟩) (by assumption) ?_
                          (try simp only [Act.put, List.setIfInBounds_toArray, List.set_cons_zero, List.set_cons_succ])
                          refine wpAnyH_take (i := 21) (oi := { dst := some 145, op := Go.Op.indexAddr 30 (Go.Operand.tmp 143) (Go.Operand.tmp 144), type := 0, pos := "law.go:110", after := #[{ on := 19, ground := Go.Ground.data }, { on := 20, ground := Go.Ground.data }, { on := 12, ground := Go.Ground.guard }], guard := some (12, true) }) (v := undef) rfl (by kernel_rfl) (by kernel_rfl) (by kernel_rfl) (fun _ _ _ h => h) (Or.inr ⟨by rfl, rfl⟩) (by assumption) ?_
                          (try simp only [Act.put, List.setIfInBounds_toArray, List.set_cons_zero, List.set_cons_succ])
                          refine wpAnyH_take (i := 22) (oi := { dst := some 146, op := Go.Op.fieldAddr 67 (Go.Operand.tmp 145) 1, type := 0, pos := "law.go:110", after := #[{ on := 21, ground := Go.Ground.data }, { on := 12, ground := Go.Ground.guard }], guard := some (12, true) }) (v := undef) rfl (by kernel_rfl) (by kernel_rfl) (by kernel_rfl) (fun _ _ _ h => h) (Or.inr ⟨by rfl, rfl⟩) (by assumption) ?_
                          (try simp only [Act.put, List.setIfInBounds_toArray, List.set_cons_zero, List.set_cons_succ])
                          refine wpAnyH_take (i := 23) (oi := { dst := some 147, op := Go.Op.fieldAddr 65 (Go.Operand.tmp 146) 0, type := 0, pos := "law.go:110", after := #[{ on := 22, ground := Go.Ground.data }, { on := 12, ground := Go.Ground.guard }], guard := some (12, true) }) (v := undef) rfl (by kernel_rfl) (by kernel_rfl) (by kernel_rfl) (fun _ _ _ h => h) (Or.inr ⟨by rfl, rfl⟩) (by assumption) ?_
                          (try simp only [Act.put, List.setIfInBounds_toArray, List.set_cons_zero, List.set_cons_succ])
                          refine wpAnyH_take (i := 24) (oi := { dst := some 148, op := Go.Op.load 36 (Go.Operand.tmp 147), type := 36, pos := "law.go:110", after := #[{ on := 23, ground := Go.Ground.data }, { on := 12, ground := Go.Ground.guard }], guard := some (12, true) }) (v := undef) rfl (by kernel_rfl) (by kernel_rfl) (by kernel_rfl) (fun _ _ _ h => h) (Or.inr ⟨by rfl, rfl⟩) (by assumption) ?_
                          (try simp only [Act.put, List.setIfInBounds_toArray, List.set_cons_zero, List.set_cons_succ])
                          refine wpAnyH_take (i := 25) (oi := { dst := some 149, op := Go.Op.binOp Go.BinOp.eql 36 (Go.Operand.tmp 142) (Go.Operand.tmp 148) 36, type := 4, pos := "law.go:110", after := #[{ on := 18, ground := Go.Ground.data }, { on := 24, ground := Go.Ground.data }, { on := 12, ground := Go.Ground.guard }], guard := some (12, true) }) (v := undef) rfl (by kernel_rfl) (by kernel_rfl) (by kernel_rfl) (fun _ _ _ h => h) (Or.inr ⟨by rfl, rfl⟩) (by assumption) ?_
                          (try simp only [Act.put, List.setIfInBounds_toArray, List.set_cons_zero, List.set_cons_succ])
                          refine wpAnyH_take (i := 26) (oi := { dst := some 150, op := Go.Op.pick (Go.Operand.tmp 136) (Go.Operand.tmp 149) (Go.Operand.const (Go.Value.bool false)), type := 4, pos := "law.go:110", after := #[{ on := 12, ground := Go.Ground.data }, { on := 25, ground := Go.Ground.data }], guard := none }) (v := ?_) rfl (by kernel_rfl) (by kernel_rfl) (by kernel_rfl) (fun _ _ _ h => h) (Or.inl ⟨by rfl, ?_⟩) (by assumption) ?_
                          rotate_left
                          · intro w hSw
                            (try dsimp only at hSw)
                            go_simp
                            try with_reducible rfl
                          (try simp only [Act.put, List.setIfInBounds_toArray, List.set_cons_zero, List.set_cons_succ])
                          refine wpAnyH_done (by kernel_rfl) ?_ _
                          go_wp2
                          go_roundw
                          case rel => exact ⟨b' + 1, by omega, by go_num, below_drewN HB4.out _⟩
                          case measure => simp [intOf]; omega
                      · cases ub
                        · go_wp2_with fail
                          as_aux_lemma =>
                            refine wp_region_held_drew (S := fun w' => w'.cell? ⟨b, off + a' * 6, none⟩ = some (.bool true) ∧ w'.cell? ⟨b, off + a' * 6 + 1, none⟩ = some (.int .i64 va) ∧ w'.cell? ⟨b, off + a' * 6 + 2, none⟩ = some (.int .u64 (ma : Int)) ∧ w'.cell? ⟨b, off + b' * 6, none⟩ = some (.bool false) ∧ w'.cell? ⟨b, off + b' * 6 + 1, none⟩ = some (.int .i64 vb) ∧ w'.cell? ⟨b, off + b' * 6 + 2, none⟩ = some (.int .u64 (m_b : Int))) (by kernel_rfl) ?_ (fun hHeld => ?_)
                            · exact ⟨x0, x1, x2, y0, y1, y2⟩
                            refine wpAnyH_take (i := 0) (oi := { dst := some 124, op := Go.Op.move (Go.Operand.tmp 5), type := 30, pos := "law.go:110", after := #[], guard := none }) (v := ?_) rfl (by kernel_rfl) (by kernel_rfl) (by kernel_rfl) (fun _ _ _ h => h) (Or.inl ⟨by rfl, ?_⟩) (by assumption) ?_
                            rotate_left
                            · intro w hSw
                              (try dsimp only at hSw)
                              go_simp
                              try with_reducible rfl
                            (try simp only [Act.put, List.setIfInBounds_toArray, List.set_cons_zero, List.set_cons_succ])
                            refine wpAnyH_take (i := 1) (oi := { dst := some 125, op := Go.Op.move (Go.Operand.tmp 15), type := 3, pos := "law.go:110", after := #[], guard := none }) (v := ?_) rfl (by kernel_rfl) (by kernel_rfl) (by kernel_rfl) (fun _ _ _ h => h) (Or.inl ⟨by rfl, ?_⟩) (by assumption) ?_
                            rotate_left
                            · intro w hSw
                              (try dsimp only at hSw)
                              go_simp
                              try with_reducible rfl
                            (try simp only [Act.put, List.setIfInBounds_toArray, List.set_cons_zero, List.set_cons_succ])
                            refine wpAnyH_take (i := 2) (oi := { dst := some 126, op := Go.Op.indexAddr 30 (Go.Operand.tmp 124) (Go.Operand.tmp 125), type := 0, pos := "law.go:110", after := #[{ on := 0, ground := Go.Ground.data }, { on := 1, ground := Go.Ground.data }], guard := none }) (v := ?_) rfl (by kernel_rfl) (by kernel_rfl) (by kernel_rfl) (fun _ _ _ h => h) (Or.inl ⟨by rfl, ?_⟩) (by assumption) ?_
                            rotate_left
                            · intro w hSw
                              (try dsimp only at hSw)
                              go_simp
                              try with_reducible rfl
                            (try simp only [Act.put, List.setIfInBounds_toArray, List.set_cons_zero, List.set_cons_succ])
                            refine wpAnyH_take (i := 3) (oi := { dst := some 127, op := Go.Op.fieldAddr 67 (Go.Operand.tmp 126) 0, type := 0, pos := "law.go:110", after := #[{ on := 2, ground := Go.Ground.data }], guard := none }) (v := ?_) rfl (by kernel_rfl) (by kernel_rfl) (by kernel_rfl) (fun _ _ _ h => h) (Or.inl ⟨by rfl, ?_⟩) (by assumption) ?_
                            rotate_left
                            · intro w hSw
                              (try dsimp only at hSw)
                              go_simp
                              try with_reducible rfl
                            (try simp only [Act.put, List.setIfInBounds_toArray, List.set_cons_zero, List.set_cons_succ])
                            refine wpAnyH_take (i := 4) (oi := { dst := some 128, op := Go.Op.load 4 (Go.Operand.tmp 127), type := 4, pos := "law.go:110", after := #[{ on := 3, ground := Go.Ground.data }], guard := none }) (v := ?_) rfl (by kernel_rfl) (by kernel_rfl) (by kernel_rfl) (fun _ _ _ h => h) (Or.inl ⟨by rfl, ?_⟩) (by assumption) ?_
                            rotate_left
                            · intro w hSw
                              (try dsimp only at hSw)
                              go_simp
                              try with_reducible rfl
                            (try simp only [Act.put, List.setIfInBounds_toArray, List.set_cons_zero, List.set_cons_succ])
                            refine wpAnyH_take (i := 5) (oi := { dst := some 129, op := Go.Op.move (Go.Operand.tmp 128), type := 4, pos := "law.go:110", after := #[{ on := 4, ground := Go.Ground.data }], guard := none }) (v := ?_) rfl (by kernel_rfl) (by kernel_rfl) (by kernel_rfl) (fun _ _ _ h => h) (Or.inl ⟨by rfl, ?_⟩) (by assumption) ?_
                            rotate_left
                            · intro w hSw
                              (try dsimp only at hSw)
                              go_simp
                              try with_reducible rfl
                            (try simp only [Act.put, List.setIfInBounds_toArray, List.set_cons_zero, List.set_cons_succ])
                            refine wpAnyH_take (i := 6) (oi := { dst := some 130, op := Go.Op.move (Go.Operand.tmp 5), type := 30, pos := "law.go:110", after := #[{ on := 5, ground := Go.Ground.guard }], guard := some (5, true) }) (v := ?_) rfl (by kernel_rfl) (by kernel_rfl) (by kernel_rfl) (fun _ _ _ h => h) (Or.inl ⟨by rfl, ?_⟩) (by assumption) ?_
                            rotate_left
                            · intro w hSw
                              (try dsimp only at hSw)
                              go_simp
                              try with_reducible rfl
                            (try simp only [Act.put, List.setIfInBounds_toArray, List.set_cons_zero, List.set_cons_succ])
                            refine wpAnyH_take (i := 7) (oi := { dst := some 131, op := Go.Op.move (Go.Operand.tmp 16), type := 3, pos := "law.go:110", after := #[{ on := 5, ground := Go.Ground.guard }], guard := some (5, true) }) (v := ?_) rfl (by kernel_rfl) (by kernel_rfl) (by kernel_rfl) (fun _ _ _ h => h) (Or.inl ⟨by rfl, ?_⟩) (by assumption) ?_
                            rotate_left
                            · intro w hSw
                              (try dsimp only at hSw)
                              go_simp
                              try with_reducible rfl
                            (try simp only [Act.put, List.setIfInBounds_toArray, List.set_cons_zero, List.set_cons_succ])
                            refine wpAnyH_take (i := 8) (oi := { dst := some 132, op := Go.Op.indexAddr 30 (Go.Operand.tmp 130) (Go.Operand.tmp 131), type := 0, pos := "law.go:110", after := #[{ on := 6, ground := Go.Ground.data }, { on := 7, ground := Go.Ground.data }, { on := 5, ground := Go.Ground.guard }], guard := some (5, true) }) (v := ?_) rfl (by kernel_rfl) (by kernel_rfl) (by kernel_rfl) (fun _ _ _ h => h) (Or.inl ⟨by rfl, ?_⟩) (by assumption) ?_
                            rotate_left
                            · intro w hSw
                              (try dsimp only at hSw)
                              go_simp
                              try with_reducible rfl
                            (try simp only [Act.put, List.setIfInBounds_toArray, List.set_cons_zero, List.set_cons_succ])
                            refine wpAnyH_take (i := 9) (oi := { dst := some 133, op := Go.Op.fieldAddr 67 (Go.Operand.tmp 132) 0, type := 0, pos := "law.go:110", after := #[{ on := 8, ground := Go.Ground.data }, { on := 5, ground := Go.Ground.guard }], guard := some (5, true) }) (v := ?_) rfl (by kernel_rfl) (by kernel_rfl) (by kernel_rfl) (fun _ _ _ h => h) (Or.inl ⟨by rfl, ?_⟩) (by assumption) ?_
                            rotate_left
                            · intro w hSw
                              (try dsimp only at hSw)
                              go_simp
                              try with_reducible rfl
                            (try simp only [Act.put, List.setIfInBounds_toArray, List.set_cons_zero, List.set_cons_succ])
                            refine wpAnyH_take (i := 10) (oi := { dst := some 134, op := Go.Op.load 4 (Go.Operand.tmp 133), type := 4, pos := "law.go:110", after := #[{ on := 9, ground := Go.Ground.data }, { on := 5, ground := Go.Ground.guard }], guard := some (5, true) }) (v := ?_) rfl (by kernel_rfl) (by kernel_rfl) (by kernel_rfl) (fun _ _ _ h => h) (Or.inl ⟨by rfl, ?_⟩) (by assumption) ?_
                            rotate_left
                            · intro w hSw
                              (try dsimp only at hSw)
                              go_simp
                              try with_reducible rfl
                            (try simp only [Act.put, List.setIfInBounds_toArray, List.set_cons_zero, List.set_cons_succ])
                            refine wpAnyH_take (i := 11) (oi := { dst := some 135, op := Go.Op.pick (Go.Operand.tmp 129) (Go.Operand.tmp 134) (Go.Operand.const (Go.Value.bool false)), type := 4, pos := "law.go:110", after := #[{ on := 5, ground := Go.Ground.data }, { on := 10, ground := Go.Ground.data }], guard := none }) (v := ?_) rfl (by kernel_rfl) (by kernel_rfl) (by kernel_rfl) (fun _ _ _ h => h) (Or.inl ⟨by rfl, ?_⟩) (by assumption) ?_
                            rotate_left
                            · intro w hSw
                              (try dsimp only at hSw)
                              go_simp
                              try with_reducible rfl
                            (try simp only [Act.put, List.setIfInBounds_toArray, List.set_cons_zero, List.set_cons_succ])
                            refine wpAnyH_take (i := 12) (oi := { dst := some 136, op := Go.Op.move (Go.Operand.tmp 135), type := 4, pos := "law.go:110", after := #[{ on := 11, ground := Go.Ground.data }, { on := 5, ground := Go.Ground.chain }], guard := none }) (v := ?_) rfl (by kernel_rfl) (by kernel_rfl) (by kernel_rfl) (fun _ _ _ h => h) (Or.inl ⟨by rfl, ?_⟩) (by assumption) ?_
                            rotate_left
                            · intro w hSw
                              (try dsimp only at hSw)
                              go_simp
                              try with_reducible rfl
                            (try simp only [Act.put, List.setIfInBounds_toArray, List.set_cons_zero, List.set_cons_succ])
                            refine wpAnyH_take (i := 13) (oi := { dst := some 137, op := Go.Op.move (Go.Operand.tmp 5), type := 30, pos := "law.go:110", after := #[{ on := 12, ground := Go.Ground.guard }], guard := some (12, true) }) (v := undef) rfl (by kernel_rfl) (by kernel_rfl) (by kernel_rfl) (fun _ _ _ h => h) (Or.inr ⟨by rfl, rfl⟩) (by assumption) ?_
                            (try simp only [Act.put, List.setIfInBounds_toArray, List.set_cons_zero, List.set_cons_succ])
                            refine wpAnyH_take (i := 14) (oi := { dst := some 138, op := Go.Op.move (Go.Operand.tmp 15), type := 3, pos := "law.go:110", after := #[{ on := 12, ground := Go.Ground.guard }], guard := some (12, true) }) (v := undef) rfl (by kernel_rfl) (by kernel_rfl) (by kernel_rfl) (fun _ _ _ h => h) (Or.inr ⟨by rfl, rfl⟩) (by assumption) ?_
                            (try simp only [Act.put, List.setIfInBounds_toArray, List.set_cons_zero, List.set_cons_succ])
                            refine wpAnyH_take (i := 15) (oi := { dst := some 139, op := Go.Op.indexAddr 30 (Go.Operand.tmp 137) (Go.Operand.tmp 138), type := 0, pos := "law.go:110", after := #[{ on := 13, ground := Go.Ground.data }, { on := 14, ground := Go.Ground.data }, { on := 12, ground := Go.Ground.guard }], guard := some (12, true) }) (v := undef) rfl (by kernel_rfl) (by kernel_rfl) (by kernel_rfl) (fun _ _ _ h => h) (Or.inr ⟨by rfl, rfl⟩) (by assumption) ?_
                            (try simp only [Act.put, List.setIfInBounds_toArray, List.set_cons_zero, List.set_cons_succ])
                            refine wpAnyH_take (i := 16) (oi := { dst := some 140, op := Go.Op.fieldAddr 67 (Go.Operand.tmp 139) 1, type := 0, pos := "law.go:110", after := #[{ on := 15, ground := Go.Ground.data }, { on := 12, ground := Go.Ground.guard }], guard := some (12, true) }) (v := undef) rfl (by kernel_rfl) (by kernel_rfl) (by kernel_rfl) (fun _ _ _ h => h) (Or.inr ⟨by rfl, rfl⟩) (by assumption) ?_
                            (try simp only [Act.put, List.setIfInBounds_toArray, List.set_cons_zero, List.set_cons_succ])
                            refine wpAnyH_take (i := 17) (oi := { dst := some 141, op := Go.Op.fieldAddr 65 (Go.Operand.tmp 140) 0, type := 0, pos := "law.go:110", after := #[{ on := 16, ground := Go.Ground.data }, { on := 12, ground := Go.Ground.guard }], guard := some (12, true) }) (v := undef) rfl (by kernel_rfl) (by kernel_rfl) (by kernel_rfl) (fun _ _ _ h => h) (Or.inr ⟨by rfl, rfl⟩) (by assumption) ?_
                            (try simp only [Act.put, List.setIfInBounds_toArray, List.set_cons_zero, List.set_cons_succ])
                            refine wpAnyH_take (i := 18) (oi := { dst := some 142, op := Go.Op.load 36 (Go.Operand.tmp 141), type := 36, pos := "law.go:110", after := #[{ on := 17, ground := Go.Ground.data }, { on := 12, ground := Go.Ground.guard }], guard := some (12, true) }) (v := undef) rfl (by kernel_rfl) (by kernel_rfl) (by kernel_rfl) (fun _ _ _ h => h) (Or.inr ⟨by rfl, rfl⟩) (by assumption) ?_
                            (try simp only [Act.put, List.setIfInBounds_toArray, List.set_cons_zero, List.set_cons_succ])
                            refine wpAnyH_take (i := 19) (oi := { dst := some 143, op := Go.Op.move (Go.Operand.tmp 5), type := 30, pos := "law.go:110", after := #[{ on := 12, ground := Go.Ground.guard }], guard := some (12, true) }) (v := undef) rfl (by kernel_rfl) (by kernel_rfl) (by kernel_rfl) (fun _ _ _ h => h) (Or.inr ⟨by rfl, rfl⟩) (by assumption) ?_
                            (try simp only [Act.put, List.setIfInBounds_toArray, List.set_cons_zero, List.set_cons_succ])
                            refine wpAnyH_take (i := 20) (oi := { dst := some 144, op := Go.Op.move (Go.Operand.tmp 16), type := 3, pos := "law.go:110", after := #[{ on := 12, ground := Go.Ground.guard }], guard := some (12, true) }) (v := undef) rfl (by kernel_rfl) (by kernel_rfl) (by kernel_rfl) (fun _ _ _ h => h) (Or.inr ⟨by rfl, rfl⟩) (by assumption) ?_
                            (try simp only [Act.put, List.setIfInBounds_toArray, List.set_cons_zero, List.set_cons_succ])
                            refine wpAnyH_take (i := 21) (oi := { dst := some 145, op := Go.Op.indexAddr 30 (Go.Operand.tmp 143) (Go.Operand.tmp 144), type := 0, pos := "law.go:110", after := #[{ on := 19, ground := Go.Ground.data }, { on := 20, ground := Go.Ground.data }, { on := 12, ground := Go.Ground.guard }], guard := some (12, true) }) (v := undef) rfl (by kernel_rfl) (by kernel_rfl) (by kernel_rfl) (fun _ _ _ h => h) (Or.inr ⟨by rfl, rfl⟩) (by assumption) ?_
                            (try simp only [Act.put, List.setIfInBounds_toArray, List.set_cons_zero, List.set_cons_succ])
                            refine wpAnyH_take (i := 22) (oi := { dst := some 146, op := Go.Op.fieldAddr 67 (Go.Operand.tmp 145) 1, type := 0, pos := "law.go:110", after := #[{ on := 21, ground := Go.Ground.data }, { on := 12, ground := Go.Ground.guard }], guard := some (12, true) }) (v := undef) rfl (by kernel_rfl) (by kernel_rfl) (by kernel_rfl) (fun _ _ _ h => h) (Or.inr ⟨by rfl, rfl⟩) (by assumption) ?_
                            (try simp only [Act.put, List.setIfInBounds_toArray, List.set_cons_zero, List.set_cons_succ])
                            refine wpAnyH_take (i := 23) (oi := { dst := some 147, op := Go.Op.fieldAddr 65 (Go.Operand.tmp 146) 0, type := 0, pos := "law.go:110", after := #[{ on := 22, ground := Go.Ground.data }, { on := 12, ground := Go.Ground.guard }], guard := some (12, true) }) (v := undef) rfl (by kernel_rfl) (by kernel_rfl) (by kernel_rfl) (fun _ _ _ h => h) (Or.inr ⟨by rfl, rfl⟩) (by assumption) ?_
                            (try simp only [Act.put, List.setIfInBounds_toArray, List.set_cons_zero, List.set_cons_succ])
                            refine wpAnyH_take (i := 24) (oi := { dst := some 148, op := Go.Op.load 36 (Go.Operand.tmp 147), type := 36, pos := "law.go:110", after := #[{ on := 23, ground := Go.Ground.data }, { on := 12, ground := Go.Ground.guard }], guard := some (12, true) }) (v := undef) rfl (by kernel_rfl) (by kernel_rfl) (by kernel_rfl) (fun _ _ _ h => h) (Or.inr ⟨by rfl, rfl⟩) (by assumption) ?_
                            (try simp only [Act.put, List.setIfInBounds_toArray, List.set_cons_zero, List.set_cons_succ])
                            refine wpAnyH_take (i := 25) (oi := { dst := some 149, op := Go.Op.binOp Go.BinOp.eql 36 (Go.Operand.tmp 142) (Go.Operand.tmp 148) 36, type := 4, pos := "law.go:110", after := #[{ on := 18, ground := Go.Ground.data }, { on := 24, ground := Go.Ground.data }, { on := 12, ground := Go.Ground.guard }], guard := some (12, true) }) (v := undef) rfl (by kernel_rfl) (by kernel_rfl) (by kernel_rfl) (fun _ _ _ h => h) (Or.inr ⟨by rfl, rfl⟩) (by assumption) ?_
                            (try simp only [Act.put, List.setIfInBounds_toArray, List.set_cons_zero, List.set_cons_succ])
                            refine wpAnyH_take (i := 26) (oi := { dst := some 150, op := Go.Op.pick (Go.Operand.tmp 136) (Go.Operand.tmp 149) (Go.Operand.const (Go.Value.bool false)), type := 4, pos := "law.go:110", after := #[{ on := 12, ground := Go.Ground.data }, { on := 25, ground := Go.Ground.data }], guard := none }) (v := ?_) rfl (by kernel_rfl) (by kernel_rfl) (by kernel_rfl) (fun _ _ _ h => h) (Or.inl ⟨by rfl, ?_⟩) (by assumption) ?_
                            rotate_left
                            · intro w hSw
                              (try dsimp only at hSw)
                              go_simp
                              try with_reducible rfl
                            (try simp only [Act.put, List.setIfInBounds_toArray, List.set_cons_zero, List.set_cons_succ])
                            refine wpAnyH_done (by kernel_rfl) ?_ _
                            go_wp2
                            go_roundw
                            case rel => exact ⟨b' + 1, by omega, by go_num, below_drewN HB4.out _⟩
                            case measure => simp [intOf]; omega
                        · have hno := HNO.out rfl rfl
                          by_cases hv : va = vb
                          · have hm : ¬ ma = m_b := fun e => hno ⟨hv, e⟩
                            have hve : (va == vb) = true := by simpa using hv
                            have hme : ((ma : Int) == (m_b : Int)) = false := by simp; omega
                            clear hno hv hm
                            go_wp2_with fail
                            as_aux_lemma =>
                              refine wp_region_held_drew (S := fun w' => w'.cell? ⟨b, off + a' * 6, none⟩ = some (.bool true) ∧ w'.cell? ⟨b, off + a' * 6 + 1, none⟩ = some (.int .i64 va) ∧ w'.cell? ⟨b, off + a' * 6 + 2, none⟩ = some (.int .u64 (ma : Int)) ∧ w'.cell? ⟨b, off + b' * 6, none⟩ = some (.bool true) ∧ w'.cell? ⟨b, off + b' * 6 + 1, none⟩ = some (.int .i64 vb) ∧ w'.cell? ⟨b, off + b' * 6 + 2, none⟩ = some (.int .u64 (m_b : Int))) (by kernel_rfl) ?_ (fun hHeld => ?_)
                              · exact ⟨x0, x1, x2, y0, y1, y2⟩
                              refine wpAnyH_take (i := 0) (oi := { dst := some 124, op := Go.Op.move (Go.Operand.tmp 5), type := 30, pos := "law.go:110", after := #[], guard := none }) (v := ?_) rfl (by kernel_rfl) (by kernel_rfl) (by kernel_rfl) (fun _ _ _ h => h) (Or.inl ⟨by rfl, ?_⟩) (by assumption) ?_
                              rotate_left
                              · intro w hSw
                                (try dsimp only at hSw)
                                go_simp
                                try with_reducible rfl
                              (try simp only [Act.put, List.setIfInBounds_toArray, List.set_cons_zero, List.set_cons_succ])
                              refine wpAnyH_take (i := 1) (oi := { dst := some 125, op := Go.Op.move (Go.Operand.tmp 15), type := 3, pos := "law.go:110", after := #[], guard := none }) (v := ?_) rfl (by kernel_rfl) (by kernel_rfl) (by kernel_rfl) (fun _ _ _ h => h) (Or.inl ⟨by rfl, ?_⟩) (by assumption) ?_
                              rotate_left
                              · intro w hSw
                                (try dsimp only at hSw)
                                go_simp
                                try with_reducible rfl
                              (try simp only [Act.put, List.setIfInBounds_toArray, List.set_cons_zero, List.set_cons_succ])
                              refine wpAnyH_take (i := 2) (oi := { dst := some 126, op := Go.Op.indexAddr 30 (Go.Operand.tmp 124) (Go.Operand.tmp 125), type := 0, pos := "law.go:110", after := #[{ on := 0, ground := Go.Ground.data }, { on := 1, ground := Go.Ground.data }], guard := none }) (v := ?_) rfl (by kernel_rfl) (by kernel_rfl) (by kernel_rfl) (fun _ _ _ h => h) (Or.inl ⟨by rfl, ?_⟩) (by assumption) ?_
                              rotate_left
                              · intro w hSw
                                (try dsimp only at hSw)
                                go_simp
                                try with_reducible rfl
                              (try simp only [Act.put, List.setIfInBounds_toArray, List.set_cons_zero, List.set_cons_succ])
                              refine wpAnyH_take (i := 3) (oi := { dst := some 127, op := Go.Op.fieldAddr 67 (Go.Operand.tmp 126) 0, type := 0, pos := "law.go:110", after := #[{ on := 2, ground := Go.Ground.data }], guard := none }) (v := ?_) rfl (by kernel_rfl) (by kernel_rfl) (by kernel_rfl) (fun _ _ _ h => h) (Or.inl ⟨by rfl, ?_⟩) (by assumption) ?_
                              rotate_left
                              · intro w hSw
                                (try dsimp only at hSw)
                                go_simp
                                try with_reducible rfl
                              (try simp only [Act.put, List.setIfInBounds_toArray, List.set_cons_zero, List.set_cons_succ])
                              refine wpAnyH_take (i := 4) (oi := { dst := some 128, op := Go.Op.load 4 (Go.Operand.tmp 127), type := 4, pos := "law.go:110", after := #[{ on := 3, ground := Go.Ground.data }], guard := none }) (v := ?_) rfl (by kernel_rfl) (by kernel_rfl) (by kernel_rfl) (fun _ _ _ h => h) (Or.inl ⟨by rfl, ?_⟩) (by assumption) ?_
                              rotate_left
                              · intro w hSw
                                (try dsimp only at hSw)
                                go_simp
                                try with_reducible rfl
                              (try simp only [Act.put, List.setIfInBounds_toArray, List.set_cons_zero, List.set_cons_succ])
                              refine wpAnyH_take (i := 5) (oi := { dst := some 129, op := Go.Op.move (Go.Operand.tmp 128), type := 4, pos := "law.go:110", after := #[{ on := 4, ground := Go.Ground.data }], guard := none }) (v := ?_) rfl (by kernel_rfl) (by kernel_rfl) (by kernel_rfl) (fun _ _ _ h => h) (Or.inl ⟨by rfl, ?_⟩) (by assumption) ?_
                              rotate_left
                              · intro w hSw
                                (try dsimp only at hSw)
                                go_simp
                                try with_reducible rfl
                              (try simp only [Act.put, List.setIfInBounds_toArray, List.set_cons_zero, List.set_cons_succ])
                              refine wpAnyH_take (i := 6) (oi := { dst := some 130, op := Go.Op.move (Go.Operand.tmp 5), type := 30, pos := "law.go:110", after := #[{ on := 5, ground := Go.Ground.guard }], guard := some (5, true) }) (v := ?_) rfl (by kernel_rfl) (by kernel_rfl) (by kernel_rfl) (fun _ _ _ h => h) (Or.inl ⟨by rfl, ?_⟩) (by assumption) ?_
                              rotate_left
                              · intro w hSw
                                (try dsimp only at hSw)
                                go_simp
                                try with_reducible rfl
                              (try simp only [Act.put, List.setIfInBounds_toArray, List.set_cons_zero, List.set_cons_succ])
                              refine wpAnyH_take (i := 7) (oi := { dst := some 131, op := Go.Op.move (Go.Operand.tmp 16), type := 3, pos := "law.go:110", after := #[{ on := 5, ground := Go.Ground.guard }], guard := some (5, true) }) (v := ?_) rfl (by kernel_rfl) (by kernel_rfl) (by kernel_rfl) (fun _ _ _ h => h) (Or.inl ⟨by rfl, ?_⟩) (by assumption) ?_
                              rotate_left
                              · intro w hSw
                                (try dsimp only at hSw)
                                go_simp
                                try with_reducible rfl
                              (try simp only [Act.put, List.setIfInBounds_toArray, List.set_cons_zero, List.set_cons_succ])
                              refine wpAnyH_take (i := 8) (oi := { dst := some 132, op := Go.Op.indexAddr 30 (Go.Operand.tmp 130) (Go.Operand.tmp 131), type := 0, pos := "law.go:110", after := #[{ on := 6, ground := Go.Ground.data }, { on := 7, ground := Go.Ground.data }, { on := 5, ground := Go.Ground.guard }], guard := some (5, true) }) (v := ?_) rfl (by kernel_rfl) (by kernel_rfl) (by kernel_rfl) (fun _ _ _ h => h) (Or.inl ⟨by rfl, ?_⟩) (by assumption) ?_
                              rotate_left
                              · intro w hSw
                                (try dsimp only at hSw)
                                go_simp
                                try with_reducible rfl
                              (try simp only [Act.put, List.setIfInBounds_toArray, List.set_cons_zero, List.set_cons_succ])
                              refine wpAnyH_take (i := 9) (oi := { dst := some 133, op := Go.Op.fieldAddr 67 (Go.Operand.tmp 132) 0, type := 0, pos := "law.go:110", after := #[{ on := 8, ground := Go.Ground.data }, { on := 5, ground := Go.Ground.guard }], guard := some (5, true) }) (v := ?_) rfl (by kernel_rfl) (by kernel_rfl) (by kernel_rfl) (fun _ _ _ h => h) (Or.inl ⟨by rfl, ?_⟩) (by assumption) ?_
                              rotate_left
                              · intro w hSw
                                (try dsimp only at hSw)
                                go_simp
                                try with_reducible rfl
                              (try simp only [Act.put, List.setIfInBounds_toArray, List.set_cons_zero, List.set_cons_succ])
                              refine wpAnyH_take (i := 10) (oi := { dst := some 134, op := Go.Op.load 4 (Go.Operand.tmp 133), type := 4, pos := "law.go:110", after := #[{ on := 9, ground := Go.Ground.data }, { on := 5, ground := Go.Ground.guard }], guard := some (5, true) }) (v := ?_) rfl (by kernel_rfl) (by kernel_rfl) (by kernel_rfl) (fun _ _ _ h => h) (Or.inl ⟨by rfl, ?_⟩) (by assumption) ?_
                              rotate_left
                              · intro w hSw
                                (try dsimp only at hSw)
                                go_simp
                                try with_reducible rfl
                              (try simp only [Act.put, List.setIfInBounds_toArray, List.set_cons_zero, List.set_cons_succ])
                              refine wpAnyH_take (i := 11) (oi := { dst := some 135, op := Go.Op.pick (Go.Operand.tmp 129) (Go.Operand.tmp 134) (Go.Operand.const (Go.Value.bool false)), type := 4, pos := "law.go:110", after := #[{ on := 5, ground := Go.Ground.data }, { on := 10, ground := Go.Ground.data }], guard := none }) (v := ?_) rfl (by kernel_rfl) (by kernel_rfl) (by kernel_rfl) (fun _ _ _ h => h) (Or.inl ⟨by rfl, ?_⟩) (by assumption) ?_
                              rotate_left
                              · intro w hSw
                                (try dsimp only at hSw)
                                go_simp
                                try with_reducible rfl
                              (try simp only [Act.put, List.setIfInBounds_toArray, List.set_cons_zero, List.set_cons_succ])
                              refine wpAnyH_take (i := 12) (oi := { dst := some 136, op := Go.Op.move (Go.Operand.tmp 135), type := 4, pos := "law.go:110", after := #[{ on := 11, ground := Go.Ground.data }, { on := 5, ground := Go.Ground.chain }], guard := none }) (v := ?_) rfl (by kernel_rfl) (by kernel_rfl) (by kernel_rfl) (fun _ _ _ h => h) (Or.inl ⟨by rfl, ?_⟩) (by assumption) ?_
                              rotate_left
                              · intro w hSw
                                (try dsimp only at hSw)
                                go_simp
                                try with_reducible rfl
                              (try simp only [Act.put, List.setIfInBounds_toArray, List.set_cons_zero, List.set_cons_succ])
                              refine wpAnyH_take (i := 13) (oi := { dst := some 137, op := Go.Op.move (Go.Operand.tmp 5), type := 30, pos := "law.go:110", after := #[{ on := 12, ground := Go.Ground.guard }], guard := some (12, true) }) (v := ?_) rfl (by kernel_rfl) (by kernel_rfl) (by kernel_rfl) (fun _ _ _ h => h) (Or.inl ⟨by rfl, ?_⟩) (by assumption) ?_
                              rotate_left
                              · intro w hSw
                                (try dsimp only at hSw)
                                go_simp
                                try with_reducible rfl
                              (try simp only [Act.put, List.setIfInBounds_toArray, List.set_cons_zero, List.set_cons_succ])
                              refine wpAnyH_take (i := 14) (oi := { dst := some 138, op := Go.Op.move (Go.Operand.tmp 15), type := 3, pos := "law.go:110", after := #[{ on := 12, ground := Go.Ground.guard }], guard := some (12, true) }) (v := ?_) rfl (by kernel_rfl) (by kernel_rfl) (by kernel_rfl) (fun _ _ _ h => h) (Or.inl ⟨by rfl, ?_⟩) (by assumption) ?_
                              rotate_left
                              · intro w hSw
                                (try dsimp only at hSw)
                                go_simp
                                try with_reducible rfl
                              (try simp only [Act.put, List.setIfInBounds_toArray, List.set_cons_zero, List.set_cons_succ])
                              refine wpAnyH_take (i := 15) (oi := { dst := some 139, op := Go.Op.indexAddr 30 (Go.Operand.tmp 137) (Go.Operand.tmp 138), type := 0, pos := "law.go:110", after := #[{ on := 13, ground := Go.Ground.data }, { on := 14, ground := Go.Ground.data }, { on := 12, ground := Go.Ground.guard }], guard := some (12, true) }) (v := ?_) rfl (by kernel_rfl) (by kernel_rfl) (by kernel_rfl) (fun _ _ _ h => h) (Or.inl ⟨by rfl, ?_⟩) (by assumption) ?_
                              rotate_left
                              · intro w hSw
                                (try dsimp only at hSw)
                                go_simp
                                try with_reducible rfl
                              (try simp only [Act.put, List.setIfInBounds_toArray, List.set_cons_zero, List.set_cons_succ])
                              refine wpAnyH_take (i := 16) (oi := { dst := some 140, op := Go.Op.fieldAddr 67 (Go.Operand.tmp 139) 1, type := 0, pos := "law.go:110", after := #[{ on := 15, ground := Go.Ground.data }, { on := 12, ground := Go.Ground.guard }], guard := some (12, true) }) (v := ?_) rfl (by kernel_rfl) (by kernel_rfl) (by kernel_rfl) (fun _ _ _ h => h) (Or.inl ⟨by rfl, ?_⟩) (by assumption) ?_
                              rotate_left
                              · intro w hSw
                                (try dsimp only at hSw)
                                go_simp
                                try with_reducible rfl
                              (try simp only [Act.put, List.setIfInBounds_toArray, List.set_cons_zero, List.set_cons_succ])
                              refine wpAnyH_take (i := 17) (oi := { dst := some 141, op := Go.Op.fieldAddr 65 (Go.Operand.tmp 140) 0, type := 0, pos := "law.go:110", after := #[{ on := 16, ground := Go.Ground.data }, { on := 12, ground := Go.Ground.guard }], guard := some (12, true) }) (v := ?_) rfl (by kernel_rfl) (by kernel_rfl) (by kernel_rfl) (fun _ _ _ h => h) (Or.inl ⟨by rfl, ?_⟩) (by assumption) ?_
                              rotate_left
                              · intro w hSw
                                (try dsimp only at hSw)
                                go_simp
                                try with_reducible rfl
                              (try simp only [Act.put, List.setIfInBounds_toArray, List.set_cons_zero, List.set_cons_succ])
                              refine wpAnyH_take (i := 18) (oi := { dst := some 142, op := Go.Op.load 36 (Go.Operand.tmp 141), type := 36, pos := "law.go:110", after := #[{ on := 17, ground := Go.Ground.data }, { on := 12, ground := Go.Ground.guard }], guard := some (12, true) }) (v := ?_) rfl (by kernel_rfl) (by kernel_rfl) (by kernel_rfl) (fun _ _ _ h => h) (Or.inl ⟨by rfl, ?_⟩) (by assumption) ?_
                              rotate_left
                              · intro w hSw
                                (try dsimp only at hSw)
                                go_simp
                                try with_reducible rfl
                              (try simp only [Act.put, List.setIfInBounds_toArray, List.set_cons_zero, List.set_cons_succ])
                              refine wpAnyH_take (i := 19) (oi := { dst := some 143, op := Go.Op.move (Go.Operand.tmp 5), type := 30, pos := "law.go:110", after := #[{ on := 12, ground := Go.Ground.guard }], guard := some (12, true) }) (v := ?_) rfl (by kernel_rfl) (by kernel_rfl) (by kernel_rfl) (fun _ _ _ h => h) (Or.inl ⟨by rfl, ?_⟩) (by assumption) ?_
                              rotate_left
                              · intro w hSw
                                (try dsimp only at hSw)
                                go_simp
                                try with_reducible rfl
                              (try simp only [Act.put, List.setIfInBounds_toArray, List.set_cons_zero, List.set_cons_succ])
                              refine wpAnyH_take (i := 20) (oi := { dst := some 144, op := Go.Op.move (Go.Operand.tmp 16), type := 3, pos := "law.go:110", after := #[{ on := 12, ground := Go.Ground.guard }], guard := some (12, true) }) (v := ?_) rfl (by kernel_rfl) (by kernel_rfl) (by kernel_rfl) (fun _ _ _ h => h) (Or.inl ⟨by rfl, ?_⟩) (by assumption) ?_
                              rotate_left
                              · intro w hSw
                                (try dsimp only at hSw)
                                go_simp
                                try with_reducible rfl
                              (try simp only [Act.put, List.setIfInBounds_toArray, List.set_cons_zero, List.set_cons_succ])
                              refine wpAnyH_take (i := 21) (oi := { dst := some 145, op := Go.Op.indexAddr 30 (Go.Operand.tmp 143) (Go.Operand.tmp 144), type := 0, pos := "law.go:110", after := #[{ on := 19, ground := Go.Ground.data }, { on := 20, ground := Go.Ground.data }, { on := 12, ground := Go.Ground.guard }], guard := some (12, true) }) (v := ?_) rfl (by kernel_rfl) (by kernel_rfl) (by kernel_rfl) (fun _ _ _ h => h) (Or.inl ⟨by rfl, ?_⟩) (by assumption) ?_
                              rotate_left
                              · intro w hSw
                                (try dsimp only at hSw)
                                go_simp
                                try with_reducible rfl
                              (try simp only [Act.put, List.setIfInBounds_toArray, List.set_cons_zero, List.set_cons_succ])
                              refine wpAnyH_take (i := 22) (oi := { dst := some 146, op := Go.Op.fieldAddr 67 (Go.Operand.tmp 145) 1, type := 0, pos := "law.go:110", after := #[{ on := 21, ground := Go.Ground.data }, { on := 12, ground := Go.Ground.guard }], guard := some (12, true) }) (v := ?_) rfl (by kernel_rfl) (by kernel_rfl) (by kernel_rfl) (fun _ _ _ h => h) (Or.inl ⟨by rfl, ?_⟩) (by assumption) ?_
                              rotate_left
                              · intro w hSw
                                (try dsimp only at hSw)
                                go_simp
                                try with_reducible rfl
                              (try simp only [Act.put, List.setIfInBounds_toArray, List.set_cons_zero, List.set_cons_succ])
                              refine wpAnyH_take (i := 23) (oi := { dst := some 147, op := Go.Op.fieldAddr 65 (Go.Operand.tmp 146) 0, type := 0, pos := "law.go:110", after := #[{ on := 22, ground := Go.Ground.data }, { on := 12, ground := Go.Ground.guard }], guard := some (12, true) }) (v := ?_) rfl (by kernel_rfl) (by kernel_rfl) (by kernel_rfl) (fun _ _ _ h => h) (Or.inl ⟨by rfl, ?_⟩) (by assumption) ?_
                              rotate_left
                              · intro w hSw
                                (try dsimp only at hSw)
                                go_simp
                                try with_reducible rfl
                              (try simp only [Act.put, List.setIfInBounds_toArray, List.set_cons_zero, List.set_cons_succ])
                              refine wpAnyH_take (i := 24) (oi := { dst := some 148, op := Go.Op.load 36 (Go.Operand.tmp 147), type := 36, pos := "law.go:110", after := #[{ on := 23, ground := Go.Ground.data }, { on := 12, ground := Go.Ground.guard }], guard := some (12, true) }) (v := ?_) rfl (by kernel_rfl) (by kernel_rfl) (by kernel_rfl) (fun _ _ _ h => h) (Or.inl ⟨by rfl, ?_⟩) (by assumption) ?_
                              rotate_left
                              · intro w hSw
                                (try dsimp only at hSw)
                                go_simp
                                try with_reducible rfl
                              (try simp only [Act.put, List.setIfInBounds_toArray, List.set_cons_zero, List.set_cons_succ])
                              refine wpAnyH_take (i := 25) (oi := { dst := some 149, op := Go.Op.binOp Go.BinOp.eql 36 (Go.Operand.tmp 142) (Go.Operand.tmp 148) 36, type := 4, pos := "law.go:110", after := #[{ on := 18, ground := Go.Ground.data }, { on := 24, ground := Go.Ground.data }, { on := 12, ground := Go.Ground.guard }], guard := some (12, true) }) (v := ?_) rfl (by kernel_rfl) (by kernel_rfl) (by kernel_rfl) (fun _ _ _ h => h) (Or.inl ⟨by rfl, ?_⟩) (by assumption) ?_
                              rotate_left
                              · intro w hSw
                                (try dsimp only at hSw)
                                go_simp
                                try with_reducible rfl
                              (try simp only [Act.put, List.setIfInBounds_toArray, List.set_cons_zero, List.set_cons_succ])
                              refine wpAnyH_take (i := 26) (oi := { dst := some 150, op := Go.Op.pick (Go.Operand.tmp 136) (Go.Operand.tmp 149) (Go.Operand.const (Go.Value.bool false)), type := 4, pos := "law.go:110", after := #[{ on := 12, ground := Go.Ground.data }, { on := 25, ground := Go.Ground.data }], guard := none }) (v := ?_) rfl (by kernel_rfl) (by kernel_rfl) (by kernel_rfl) (fun _ _ _ h => h) (Or.inl ⟨by rfl, ?_⟩) (by assumption) ?_
                              rotate_left
                              · intro w hSw
                                (try dsimp only at hSw)
                                go_simp
                                try with_reducible rfl
                              (try simp only [Act.put, List.setIfInBounds_toArray, List.set_cons_zero, List.set_cons_succ])
                              refine wpAnyH_done (by kernel_rfl) ?_ _
                              go_wp2
                              go_roundw
                              case rel => exact ⟨b' + 1, by omega, by go_num, below_drewN HB4.out _⟩
                              case measure => simp [intOf]; omega
                          · have hve : (va == vb) = false := by simpa using hv
                            clear hno hv
                            go_wp2_with fail
                            as_aux_lemma =>
                              refine wp_region_held_drew (S := fun w' => w'.cell? ⟨b, off + a' * 6, none⟩ = some (.bool true) ∧ w'.cell? ⟨b, off + a' * 6 + 1, none⟩ = some (.int .i64 va) ∧ w'.cell? ⟨b, off + a' * 6 + 2, none⟩ = some (.int .u64 (ma : Int)) ∧ w'.cell? ⟨b, off + b' * 6, none⟩ = some (.bool true) ∧ w'.cell? ⟨b, off + b' * 6 + 1, none⟩ = some (.int .i64 vb) ∧ w'.cell? ⟨b, off + b' * 6 + 2, none⟩ = some (.int .u64 (m_b : Int))) (by kernel_rfl) ?_ (fun hHeld => ?_)
                              · exact ⟨x0, x1, x2, y0, y1, y2⟩
                              refine wpAnyH_take (i := 0) (oi := { dst := some 124, op := Go.Op.move (Go.Operand.tmp 5), type := 30, pos := "law.go:110", after := #[], guard := none }) (v := ?_) rfl (by kernel_rfl) (by kernel_rfl) (by kernel_rfl) (fun _ _ _ h => h) (Or.inl ⟨by rfl, ?_⟩) (by assumption) ?_
                              rotate_left
                              · intro w hSw
                                (try dsimp only at hSw)
                                go_simp
                                try with_reducible rfl
                              (try simp only [Act.put, List.setIfInBounds_toArray, List.set_cons_zero, List.set_cons_succ])
                              refine wpAnyH_take (i := 1) (oi := { dst := some 125, op := Go.Op.move (Go.Operand.tmp 15), type := 3, pos := "law.go:110", after := #[], guard := none }) (v := ?_) rfl (by kernel_rfl) (by kernel_rfl) (by kernel_rfl) (fun _ _ _ h => h) (Or.inl ⟨by rfl, ?_⟩) (by assumption) ?_
                              rotate_left
                              · intro w hSw
                                (try dsimp only at hSw)
                                go_simp
                                try with_reducible rfl
                              (try simp only [Act.put, List.setIfInBounds_toArray, List.set_cons_zero, List.set_cons_succ])
                              refine wpAnyH_take (i := 2) (oi := { dst := some 126, op := Go.Op.indexAddr 30 (Go.Operand.tmp 124) (Go.Operand.tmp 125), type := 0, pos := "law.go:110", after := #[{ on := 0, ground := Go.Ground.data }, { on := 1, ground := Go.Ground.data }], guard := none }) (v := ?_) rfl (by kernel_rfl) (by kernel_rfl) (by kernel_rfl) (fun _ _ _ h => h) (Or.inl ⟨by rfl, ?_⟩) (by assumption) ?_
                              rotate_left
                              · intro w hSw
                                (try dsimp only at hSw)
                                go_simp
                                try with_reducible rfl
                              (try simp only [Act.put, List.setIfInBounds_toArray, List.set_cons_zero, List.set_cons_succ])
                              refine wpAnyH_take (i := 3) (oi := { dst := some 127, op := Go.Op.fieldAddr 67 (Go.Operand.tmp 126) 0, type := 0, pos := "law.go:110", after := #[{ on := 2, ground := Go.Ground.data }], guard := none }) (v := ?_) rfl (by kernel_rfl) (by kernel_rfl) (by kernel_rfl) (fun _ _ _ h => h) (Or.inl ⟨by rfl, ?_⟩) (by assumption) ?_
                              rotate_left
                              · intro w hSw
                                (try dsimp only at hSw)
                                go_simp
                                try with_reducible rfl
                              (try simp only [Act.put, List.setIfInBounds_toArray, List.set_cons_zero, List.set_cons_succ])
                              refine wpAnyH_take (i := 4) (oi := { dst := some 128, op := Go.Op.load 4 (Go.Operand.tmp 127), type := 4, pos := "law.go:110", after := #[{ on := 3, ground := Go.Ground.data }], guard := none }) (v := ?_) rfl (by kernel_rfl) (by kernel_rfl) (by kernel_rfl) (fun _ _ _ h => h) (Or.inl ⟨by rfl, ?_⟩) (by assumption) ?_
                              rotate_left
                              · intro w hSw
                                (try dsimp only at hSw)
                                go_simp
                                try with_reducible rfl
                              (try simp only [Act.put, List.setIfInBounds_toArray, List.set_cons_zero, List.set_cons_succ])
                              refine wpAnyH_take (i := 5) (oi := { dst := some 129, op := Go.Op.move (Go.Operand.tmp 128), type := 4, pos := "law.go:110", after := #[{ on := 4, ground := Go.Ground.data }], guard := none }) (v := ?_) rfl (by kernel_rfl) (by kernel_rfl) (by kernel_rfl) (fun _ _ _ h => h) (Or.inl ⟨by rfl, ?_⟩) (by assumption) ?_
                              rotate_left
                              · intro w hSw
                                (try dsimp only at hSw)
                                go_simp
                                try with_reducible rfl
                              (try simp only [Act.put, List.setIfInBounds_toArray, List.set_cons_zero, List.set_cons_succ])
                              refine wpAnyH_take (i := 6) (oi := { dst := some 130, op := Go.Op.move (Go.Operand.tmp 5), type := 30, pos := "law.go:110", after := #[{ on := 5, ground := Go.Ground.guard }], guard := some (5, true) }) (v := ?_) rfl (by kernel_rfl) (by kernel_rfl) (by kernel_rfl) (fun _ _ _ h => h) (Or.inl ⟨by rfl, ?_⟩) (by assumption) ?_
                              rotate_left
                              · intro w hSw
                                (try dsimp only at hSw)
                                go_simp
                                try with_reducible rfl
                              (try simp only [Act.put, List.setIfInBounds_toArray, List.set_cons_zero, List.set_cons_succ])
                              refine wpAnyH_take (i := 7) (oi := { dst := some 131, op := Go.Op.move (Go.Operand.tmp 16), type := 3, pos := "law.go:110", after := #[{ on := 5, ground := Go.Ground.guard }], guard := some (5, true) }) (v := ?_) rfl (by kernel_rfl) (by kernel_rfl) (by kernel_rfl) (fun _ _ _ h => h) (Or.inl ⟨by rfl, ?_⟩) (by assumption) ?_
                              rotate_left
                              · intro w hSw
                                (try dsimp only at hSw)
                                go_simp
                                try with_reducible rfl
                              (try simp only [Act.put, List.setIfInBounds_toArray, List.set_cons_zero, List.set_cons_succ])
                              refine wpAnyH_take (i := 8) (oi := { dst := some 132, op := Go.Op.indexAddr 30 (Go.Operand.tmp 130) (Go.Operand.tmp 131), type := 0, pos := "law.go:110", after := #[{ on := 6, ground := Go.Ground.data }, { on := 7, ground := Go.Ground.data }, { on := 5, ground := Go.Ground.guard }], guard := some (5, true) }) (v := ?_) rfl (by kernel_rfl) (by kernel_rfl) (by kernel_rfl) (fun _ _ _ h => h) (Or.inl ⟨by rfl, ?_⟩) (by assumption) ?_
                              rotate_left
                              · intro w hSw
                                (try dsimp only at hSw)
                                go_simp
                                try with_reducible rfl
                              (try simp only [Act.put, List.setIfInBounds_toArray, List.set_cons_zero, List.set_cons_succ])
                              refine wpAnyH_take (i := 9) (oi := { dst := some 133, op := Go.Op.fieldAddr 67 (Go.Operand.tmp 132) 0, type := 0, pos := "law.go:110", after := #[{ on := 8, ground := Go.Ground.data }, { on := 5, ground := Go.Ground.guard }], guard := some (5, true) }) (v := ?_) rfl (by kernel_rfl) (by kernel_rfl) (by kernel_rfl) (fun _ _ _ h => h) (Or.inl ⟨by rfl, ?_⟩) (by assumption) ?_
                              rotate_left
                              · intro w hSw
                                (try dsimp only at hSw)
                                go_simp
                                try with_reducible rfl
                              (try simp only [Act.put, List.setIfInBounds_toArray, List.set_cons_zero, List.set_cons_succ])
                              refine wpAnyH_take (i := 10) (oi := { dst := some 134, op := Go.Op.load 4 (Go.Operand.tmp 133), type := 4, pos := "law.go:110", after := #[{ on := 9, ground := Go.Ground.data }, { on := 5, ground := Go.Ground.guard }], guard := some (5, true) }) (v := ?_) rfl (by kernel_rfl) (by kernel_rfl) (by kernel_rfl) (fun _ _ _ h => h) (Or.inl ⟨by rfl, ?_⟩) (by assumption) ?_
                              rotate_left
                              · intro w hSw
                                (try dsimp only at hSw)
                                go_simp
                                try with_reducible rfl
                              (try simp only [Act.put, List.setIfInBounds_toArray, List.set_cons_zero, List.set_cons_succ])
                              refine wpAnyH_take (i := 11) (oi := { dst := some 135, op := Go.Op.pick (Go.Operand.tmp 129) (Go.Operand.tmp 134) (Go.Operand.const (Go.Value.bool false)), type := 4, pos := "law.go:110", after := #[{ on := 5, ground := Go.Ground.data }, { on := 10, ground := Go.Ground.data }], guard := none }) (v := ?_) rfl (by kernel_rfl) (by kernel_rfl) (by kernel_rfl) (fun _ _ _ h => h) (Or.inl ⟨by rfl, ?_⟩) (by assumption) ?_
                              rotate_left
                              · intro w hSw
                                (try dsimp only at hSw)
                                go_simp
                                try with_reducible rfl
                              (try simp only [Act.put, List.setIfInBounds_toArray, List.set_cons_zero, List.set_cons_succ])
                              refine wpAnyH_take (i := 12) (oi := { dst := some 136, op := Go.Op.move (Go.Operand.tmp 135), type := 4, pos := "law.go:110", after := #[{ on := 11, ground := Go.Ground.data }, { on := 5, ground := Go.Ground.chain }], guard := none }) (v := ?_) rfl (by kernel_rfl) (by kernel_rfl) (by kernel_rfl) (fun _ _ _ h => h) (Or.inl ⟨by rfl, ?_⟩) (by assumption) ?_
                              rotate_left
                              · intro w hSw
                                (try dsimp only at hSw)
                                go_simp
                                try with_reducible rfl
                              (try simp only [Act.put, List.setIfInBounds_toArray, List.set_cons_zero, List.set_cons_succ])
                              refine wpAnyH_take (i := 13) (oi := { dst := some 137, op := Go.Op.move (Go.Operand.tmp 5), type := 30, pos := "law.go:110", after := #[{ on := 12, ground := Go.Ground.guard }], guard := some (12, true) }) (v := ?_) rfl (by kernel_rfl) (by kernel_rfl) (by kernel_rfl) (fun _ _ _ h => h) (Or.inl ⟨by rfl, ?_⟩) (by assumption) ?_
                              rotate_left
                              · intro w hSw
                                (try dsimp only at hSw)
                                go_simp
                                try with_reducible rfl
                              (try simp only [Act.put, List.setIfInBounds_toArray, List.set_cons_zero, List.set_cons_succ])
                              refine wpAnyH_take (i := 14) (oi := { dst := some 138, op := Go.Op.move (Go.Operand.tmp 15), type := 3, pos := "law.go:110", after := #[{ on := 12, ground := Go.Ground.guard }], guard := some (12, true) }) (v := ?_) rfl (by kernel_rfl) (by kernel_rfl) (by kernel_rfl) (fun _ _ _ h => h) (Or.inl ⟨by rfl, ?_⟩) (by assumption) ?_
                              rotate_left
                              · intro w hSw
                                (try dsimp only at hSw)
                                go_simp
                                try with_reducible rfl
                              (try simp only [Act.put, List.setIfInBounds_toArray, List.set_cons_zero, List.set_cons_succ])
                              refine wpAnyH_take (i := 15) (oi := { dst := some 139, op := Go.Op.indexAddr 30 (Go.Operand.tmp 137) (Go.Operand.tmp 138), type := 0, pos := "law.go:110", after := #[{ on := 13, ground := Go.Ground.data }, { on := 14, ground := Go.Ground.data }, { on := 12, ground := Go.Ground.guard }], guard := some (12, true) }) (v := ?_) rfl (by kernel_rfl) (by kernel_rfl) (by kernel_rfl) (fun _ _ _ h => h) (Or.inl ⟨by rfl, ?_⟩) (by assumption) ?_
                              rotate_left
                              · intro w hSw
                                (try dsimp only at hSw)
                                go_simp
                                try with_reducible rfl
                              (try simp only [Act.put, List.setIfInBounds_toArray, List.set_cons_zero, List.set_cons_succ])
                              refine wpAnyH_take (i := 16) (oi := { dst := some 140, op := Go.Op.fieldAddr 67 (Go.Operand.tmp 139) 1, type := 0, pos := "law.go:110", after := #[{ on := 15, ground := Go.Ground.data }, { on := 12, ground := Go.Ground.guard }], guard := some (12, true) }) (v := ?_) rfl (by kernel_rfl) (by kernel_rfl) (by kernel_rfl) (fun _ _ _ h => h) (Or.inl ⟨by rfl, ?_⟩) (by assumption) ?_
                              rotate_left
                              · intro w hSw
                                (try dsimp only at hSw)
                                go_simp
                                try with_reducible rfl
                              (try simp only [Act.put, List.setIfInBounds_toArray, List.set_cons_zero, List.set_cons_succ])
                              refine wpAnyH_take (i := 17) (oi := { dst := some 141, op := Go.Op.fieldAddr 65 (Go.Operand.tmp 140) 0, type := 0, pos := "law.go:110", after := #[{ on := 16, ground := Go.Ground.data }, { on := 12, ground := Go.Ground.guard }], guard := some (12, true) }) (v := ?_) rfl (by kernel_rfl) (by kernel_rfl) (by kernel_rfl) (fun _ _ _ h => h) (Or.inl ⟨by rfl, ?_⟩) (by assumption) ?_
                              rotate_left
                              · intro w hSw
                                (try dsimp only at hSw)
                                go_simp
                                try with_reducible rfl
                              (try simp only [Act.put, List.setIfInBounds_toArray, List.set_cons_zero, List.set_cons_succ])
                              refine wpAnyH_take (i := 18) (oi := { dst := some 142, op := Go.Op.load 36 (Go.Operand.tmp 141), type := 36, pos := "law.go:110", after := #[{ on := 17, ground := Go.Ground.data }, { on := 12, ground := Go.Ground.guard }], guard := some (12, true) }) (v := ?_) rfl (by kernel_rfl) (by kernel_rfl) (by kernel_rfl) (fun _ _ _ h => h) (Or.inl ⟨by rfl, ?_⟩) (by assumption) ?_
                              rotate_left
                              · intro w hSw
                                (try dsimp only at hSw)
                                go_simp
                                try with_reducible rfl
                              (try simp only [Act.put, List.setIfInBounds_toArray, List.set_cons_zero, List.set_cons_succ])
                              refine wpAnyH_take (i := 19) (oi := { dst := some 143, op := Go.Op.move (Go.Operand.tmp 5), type := 30, pos := "law.go:110", after := #[{ on := 12, ground := Go.Ground.guard }], guard := some (12, true) }) (v := ?_) rfl (by kernel_rfl) (by kernel_rfl) (by kernel_rfl) (fun _ _ _ h => h) (Or.inl ⟨by rfl, ?_⟩) (by assumption) ?_
                              rotate_left
                              · intro w hSw
                                (try dsimp only at hSw)
                                go_simp
                                try with_reducible rfl
                              (try simp only [Act.put, List.setIfInBounds_toArray, List.set_cons_zero, List.set_cons_succ])
                              refine wpAnyH_take (i := 20) (oi := { dst := some 144, op := Go.Op.move (Go.Operand.tmp 16), type := 3, pos := "law.go:110", after := #[{ on := 12, ground := Go.Ground.guard }], guard := some (12, true) }) (v := ?_) rfl (by kernel_rfl) (by kernel_rfl) (by kernel_rfl) (fun _ _ _ h => h) (Or.inl ⟨by rfl, ?_⟩) (by assumption) ?_
                              rotate_left
                              · intro w hSw
                                (try dsimp only at hSw)
                                go_simp
                                try with_reducible rfl
                              (try simp only [Act.put, List.setIfInBounds_toArray, List.set_cons_zero, List.set_cons_succ])
                              refine wpAnyH_take (i := 21) (oi := { dst := some 145, op := Go.Op.indexAddr 30 (Go.Operand.tmp 143) (Go.Operand.tmp 144), type := 0, pos := "law.go:110", after := #[{ on := 19, ground := Go.Ground.data }, { on := 20, ground := Go.Ground.data }, { on := 12, ground := Go.Ground.guard }], guard := some (12, true) }) (v := ?_) rfl (by kernel_rfl) (by kernel_rfl) (by kernel_rfl) (fun _ _ _ h => h) (Or.inl ⟨by rfl, ?_⟩) (by assumption) ?_
                              rotate_left
                              · intro w hSw
                                (try dsimp only at hSw)
                                go_simp
                                try with_reducible rfl
                              (try simp only [Act.put, List.setIfInBounds_toArray, List.set_cons_zero, List.set_cons_succ])
                              refine wpAnyH_take (i := 22) (oi := { dst := some 146, op := Go.Op.fieldAddr 67 (Go.Operand.tmp 145) 1, type := 0, pos := "law.go:110", after := #[{ on := 21, ground := Go.Ground.data }, { on := 12, ground := Go.Ground.guard }], guard := some (12, true) }) (v := ?_) rfl (by kernel_rfl) (by kernel_rfl) (by kernel_rfl) (fun _ _ _ h => h) (Or.inl ⟨by rfl, ?_⟩) (by assumption) ?_
                              rotate_left
                              · intro w hSw
                                (try dsimp only at hSw)
                                go_simp
                                try with_reducible rfl
                              (try simp only [Act.put, List.setIfInBounds_toArray, List.set_cons_zero, List.set_cons_succ])
                              refine wpAnyH_take (i := 23) (oi := { dst := some 147, op := Go.Op.fieldAddr 65 (Go.Operand.tmp 146) 0, type := 0, pos := "law.go:110", after := #[{ on := 22, ground := Go.Ground.data }, { on := 12, ground := Go.Ground.guard }], guard := some (12, true) }) (v := ?_) rfl (by kernel_rfl) (by kernel_rfl) (by kernel_rfl) (fun _ _ _ h => h) (Or.inl ⟨by rfl, ?_⟩) (by assumption) ?_
                              rotate_left
                              · intro w hSw
                                (try dsimp only at hSw)
                                go_simp
                                try with_reducible rfl
                              (try simp only [Act.put, List.setIfInBounds_toArray, List.set_cons_zero, List.set_cons_succ])
                              refine wpAnyH_take (i := 24) (oi := { dst := some 148, op := Go.Op.load 36 (Go.Operand.tmp 147), type := 36, pos := "law.go:110", after := #[{ on := 23, ground := Go.Ground.data }, { on := 12, ground := Go.Ground.guard }], guard := some (12, true) }) (v := ?_) rfl (by kernel_rfl) (by kernel_rfl) (by kernel_rfl) (fun _ _ _ h => h) (Or.inl ⟨by rfl, ?_⟩) (by assumption) ?_
                              rotate_left
                              · intro w hSw
                                (try dsimp only at hSw)
                                go_simp
                                try with_reducible rfl
                              (try simp only [Act.put, List.setIfInBounds_toArray, List.set_cons_zero, List.set_cons_succ])
                              refine wpAnyH_take (i := 25) (oi := { dst := some 149, op := Go.Op.binOp Go.BinOp.eql 36 (Go.Operand.tmp 142) (Go.Operand.tmp 148) 36, type := 4, pos := "law.go:110", after := #[{ on := 18, ground := Go.Ground.data }, { on := 24, ground := Go.Ground.data }, { on := 12, ground := Go.Ground.guard }], guard := some (12, true) }) (v := ?_) rfl (by kernel_rfl) (by kernel_rfl) (by kernel_rfl) (fun _ _ _ h => h) (Or.inl ⟨by rfl, ?_⟩) (by assumption) ?_
                              rotate_left
                              · intro w hSw
                                (try dsimp only at hSw)
                                go_simp
                                try with_reducible rfl
                              (try simp only [Act.put, List.setIfInBounds_toArray, List.set_cons_zero, List.set_cons_succ])
                              refine wpAnyH_take (i := 26) (oi := { dst := some 150, op := Go.Op.pick (Go.Operand.tmp 136) (Go.Operand.tmp 149) (Go.Operand.const (Go.Value.bool false)), type := 4, pos := "law.go:110", after := #[{ on := 12, ground := Go.Ground.data }, { on := 25, ground := Go.Ground.data }], guard := none }) (v := ?_) rfl (by kernel_rfl) (by kernel_rfl) (by kernel_rfl) (fun _ _ _ h => h) (Or.inl ⟨by rfl, ?_⟩) (by assumption) ?_
                              rotate_left
                              · intro w hSw
                                (try dsimp only at hSw)
                                go_simp
                                try with_reducible rfl
                              (try simp only [Act.put, List.setIfInBounds_toArray, List.set_cons_zero, List.set_cons_succ])
                              refine wpAnyH_done (by kernel_rfl) ?_ _
                              go_wp2
                              go_roundw
                              case rel => exact ⟨b' + 1, by omega, by go_num, below_drewN HB4.out _⟩
                              case measure => simp [intOf]; omega
                    · have d2 : decide (b' < a') = false := by simp; omega
                      as_aux_lemma =>
                        have HB5 := Lib.hid (HB3.out.trans (HB4.out.mono HB3.out.size))
                        have XX := plHolds_block (HC.out a' han) (HB4.out.block b hblw)
                        rw [HFA.out] at XX
                        obtain ⟨x0, x1, x2, x3, x4, x5⟩ := XX
                        have HSI : Hid (statI f2 a' = (ua && sa)) := by show _ = _; unfold statI; rw [HFA.out]
                        have hle := cntS_le f2 a'
                        have HCN : Hid (cntS f2 (a' + 1) = cntS f2 a' + if (ua && sa) = true then 1 else 0) := by rw [← HSI.out]; rfl
                        obtain ⟨S0, hS0⟩ : ∃ s, s = cntS f2 a' := ⟨_, rfl⟩
                        rw [← hS0] at hle HCN ⊢
                        clear hS0
                        cases ua
                        · go_wp2
                          go_roundw
                          case rel => exact ⟨a' + 1, by omega, by go_num, by rw [HCN.out]; rfl, HB5.out⟩
                          case measure => simp [intOf]; omega
                        · cases sa
                          · go_wp2
                            go_roundw
                            case rel => exact ⟨a' + 1, by omega, by go_num, by rw [HCN.out]; rfl, HB5.out⟩
                            case measure => simp [intOf]; omega
                          · have hK := HTI.out (HSI.out.trans rfl)
                            have hG := HGA.out
                            rw [HFA.out] at hK hG
                            have HKR := Lib.hid hG.1
                            have HHS : Hid (Maps.has D2 (klOf va ma) = true) := by have := HI4.out.mr.has va ma hG.1; rw [hK] at this; exact this
                            have HAT : Hid (D2.atKey (klOf va ma) (.lit (.int .i64 0)) = .lit (.int .i64 pa)) := HI4.out.mr.at_ va ma pa hG.1 hK
                            have HFR := Lib.hid fun w => law8_From va (ma : Int) w
                            have HMP := Lib.hid (ownsMap_below HI4.out.map HB5.out)
                            have hbl2 : b < wr.heap.size := Nat.lt_of_lt_of_le hblw HB4.out.size
                            have hpp : (pa != pa) = false := by simp
                            clear hK hG
                            go_wp2_with fail
                            refine (HFR.out _).mono ?_
                            rintro e w7 ⟨rfl, hb7⟩
                            have HMP7 := Lib.hid (ownsMap_below HMP.out hb7)
                            have z3 : w7.cell? ⟨b, off + a' * 6 + 3, none⟩ = some (.int .i64 pa) := (hb7.cell (p := ⟨b, off + a' * 6 + 3, none⟩) hbl2).trans x3
                            have HB7 := Lib.hid (HB5.out.trans (hb7.mono HB5.out.size))
                            have hhs := HHS.out
                            clear hb7
                            go_wp2_with (first
                              | (at_lookup; refine wpList_lookup_own_ok_int _ rfl _ _ 61 rfl 25 3 .i64 k8_keyed Try.underlying61 Try.underlying3 (zeroI _) mb (i + 1) D2 rfl HMP7.out _ _ rfl (klOf_rd HKR.out) ?_; intro cv hat hwc; obtain rfl : pa = cv := (by rw [HAT.out] at hat; injection hat with hat; injection hat with _ hat); clear hat hwc)
                              | fail)
                            go_roundw
                            case rel => exact ⟨a' + 1, by omega, by go_num, by rw [HCN.out]; go_num, HB7.out⟩
                            case measure => simp [intOf]; omega
                · have d1 : decide (a' < n) = false := by simp; omega
                  have hcn : cntS f2 a' = c2 := by rw [show a' = n by omega]; exact HI4.out.tied.cnt
                  have hcs : Maps.size D2 = c2 := HI4.out.mr.size
                  have HMP := Lib.hid (ownsMap_below HI4.out.map HB3.out)
                  have e1 : ((c2 : Int) != (c2 : Int)) = false := by simp
                  have e2 : decide ((code : Int) < 0) = false := by simp
                  have e3 : decide (5 < (code : Int)) = false := by simp; omega
                  have e3' : decide ((code : Int) > 5) = false := by simp; omega
                  go_wp2_with (first
                    | (at_len; refine wpList_len_own _ rfl _ 61 rfl 25 3 Try.underlying61 _ mb (i + 1) D2 rfl HMP.out ?_)
                    | fail)
                  go_roundw
                  case rel => exact ⟨i + 1, Az, cz, by omega, by go_num, rfl, f2, D2, K2, c2, Lib.hid (HI4.out.below HB3.out)⟩
                  case measure => simp [intOf]; omega
      · have d1 : decide (i < jn) = true := by simp; omega
        have d2 : decide ((i : Int) < 100) = false := by simp; omega
        have HT := Lib.hid (told10 wr)
        have HB := Lib.hid HI.out.bel
        clear HI
        go_wp2_with fail
        refine (HT.out).mono ?_
        rintro e w9 ⟨rfl, hb9⟩
        go_wp2
        go_ret
        exact ⟨by first | rfl | (simp; done), HB.out.trans (hb9.mono HB.out.size)⟩
    · have d1 : decide (i < jn) = false := by simp; omega
      have HT := Lib.hid (told10 wr)
      have HB := Lib.hid HI.out.bel
      clear HI
      go_wp2_with fail
      refine (HT.out).mono ?_
      rintro e w9 ⟨rfl, hb9⟩
      go_wp2
      go_ret
      exact ⟨by first | rfl | (simp; done), HB.out.trans (hb9.mono HB.out.size)⟩

set_option maxRecDepth 100000 in
/-- What the walk gives, for every argument: the row's own words. -/
theorem contract (H : Type) (enc : TypeId × Value → H) (W : World) (base : Nat) (args : Array Value) (ds gs : List (DataW H)) (before : List MemPlace)
    (hval : ∀ (j : Nat) t v, Try.f6.params[j]? = some t → args[j]? = some v → Value.okWide Try.prog W .any base t v)
    (hW : DataW.Whole enc Try.prog Try.f6.params.toList Rows.bucketOnceSpec.vars false W args.toList ds gs before) :
    Calls Try.prog 6 args W fun e W' => ∃ v, e = .returned v ∧ Rows.bucketOnceSpec.post enc Try.prog Try.f6 false true false false W args v W' := by
  have hW' := hW
  obtain ⟨p, q, hA0, hV, rfl, hfz, hnd⟩ := hW
  have hA : DataW.TrodAll enc Try.prog W 0 (fun _ => true) true Try.f6.params.toList args.toList ds p := hA0
  rw [Try.params6] at hA hval
  obtain ⟨v0, vs0, d0, ds0, p0, q0, hargs, rfl, rfl, h0, r0⟩ := trodAll_cons hA
  obtain ⟨v1, vs1, d1, ds1, p1, q1, rfl, rfl, rfl, h1, r1⟩ := trodAll_cons r0
  obtain ⟨rfl, rfl, rfl⟩ := trodAll_nil r1
  obtain rfl : args = #[v0, v1] := by cases args; simp_all
  obtain ⟨a0, rfl, b0⟩ := open_i64 Try.underlying3 (hval 0 3 v0 rfl rfl) h0
  have b1 := open_seens Try.underlying60 (t0 := 3) (t1 := 23) (t2 := 3) (t3 := 26) (by kernel_rfl) (by kernel_rfl) (by kernel_rfl) (by kernel_rfl) (by kernel_rfl) (by kernel_rfl) (hval 1 60 v1 rfl rfl) h1
  refine (walk W a0 b0 v1 b1).mono fun e W' ⟨he, hb⟩ => ?_
  subst he
  exact close_true (by kernel_rfl) Try.underlying4 (by kernel_rfl) (by kernel_rfl) rfl rfl hW' hb

set_option maxRecDepth 100000 in
theorem lifted (os : Os) (started : os.Started) (H : Type) (enc : TypeId × Value → H) :
    ReturnsInHanded {} Try.checked os 6 .any (Rows.bucketOnceSpec.pre6 enc Try.prog Try.f6 Rows.bucketOnceRow.domain false) (Rows.bucketOnceSpec.post enc Try.prog Try.f6 false true false false) := by
  refine returnsInHanded_of_change (C := Try.checked) own started (by kernel_rfl) Try.func6
    (ChangeSpec.witness6 (enc := enc) (C := Try.checked) false ⟨#[], #[.int .i64 0, .slice none 0 0], []⟩ 8 (by kernel_rfl) (by kernel_rfl) (by kernel_rfl) (by kernel_rfl)) ?_
  intro W base args ds gs before hval hW _ _
  exact contract H enc W base args ds gs before hval hW

theorem proved : Rows.BucketOnceSaid :=
  OpenClaim.holds_of_wide 6 Try.f6 rfl rfl rfl rfl rfl rfl rfl ⟨rfl, rfl, rfl, rfl, rfl⟩ rfl rfl rfl rfl rfl (by kernel_rfl) Try.func6 (by kernel_rfl)
    (of_decide_eq_true (by kernel_rfl)) (by unfold Func.isWrapper; first | (rw [if_pos (by decide +kernel)]; kernel_rfl) | (rw [if_neg (by decide +kernel)]; exact ⟨rfl, rfl⟩))
    (fun os started H enc _ => lifted os started H enc)
#print axioms proved
end Go.Proofs.Ytnhooknpknkjkaa.bucketOnce
