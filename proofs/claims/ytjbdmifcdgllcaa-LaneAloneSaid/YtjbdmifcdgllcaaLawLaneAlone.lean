/-
  A lane, one thing behind the other, is as the document's queues in turn. No condition.
-/
import Derived.Test.YtjbdmifcdgllcaaRows
import Derived.Test.YtjbdmifcdgllcaaJbB
import Derived.Test.YtjbdmifcdgllcaaOpenJb
import Derived.WalkKit
import Derived.ProofKit
import Derived.OpenShut
namespace Go.Proofs.Ytjbdmifcdgllcaa.laneAlone
open Go.ChangeShapes Go.WideShapes Go.ChangeAt Go.RowKit
open Go.ChangeMaps (open_string)
set_option linter.unusedVariables false

theorem own : ownKnob Try.prog.godebug = none := by kernel_rfl

set_option maxRecDepth 100000 in
set_option maxHeartbeats 6400000 in
theorem walk (W : World) (a0 : Int) (b0 : -9223372036854775808 ≤ a0 ∧ a0 ≤ 9223372036854775807) (a1 : Int) (b1 : -9223372036854775808 ≤ a1 ∧ a1 ≤ 9223372036854775807) (a2 : Value) (b2 : Jobs15 W a2) :
    Calls Try.prog 7 #[.int .i64 a0, .int .i64 a1, a2] W (Says (.bool true) W) := by
  obtain ⟨A, jn, jcap, rfl, hjc, hjm, hjobs⟩ := b2
  unfold maxLen at hjm
  have HJ := Lib.hid hjobs
  clear hjobs
  obtain ⟨n0, hn0, hmod0⟩ := mod_u64 a0 8 (by omega) (by omega)
  obtain ⟨n, hn⟩ : ∃ n, n = n0 + 1 := ⟨_, rfl⟩
  have hn8 : 1 ≤ n ∧ n ≤ 8 := by omega
  have HM0 : Hid (wrap64 (1 + wrap64 ((IntKind.u64.wrap a0).tmod 8)) = (n : Int)) := by
    have e : wrap64 ((IntKind.u64.wrap a0).tmod 8) = (n0 : Int) := hmod0
    show _ = _
    rw [e, show (1 : Int) + (n0 : Int) = (n : Int) by omega]
    exact IntWalk.wrap64_in _ (by omega)
  obtain ⟨s0, hs0, hmod1⟩ := mod_u64 a1 8 (by omega) (by omega)
  obtain ⟨sz, hsz⟩ : ∃ n, n = s0 + 1 := ⟨_, rfl⟩
  have hs8 : 1 ≤ sz ∧ sz ≤ 8 := by omega
  have HM1 : Hid (wrap64 (1 + wrap64 ((IntKind.u64.wrap a1).tmod 8)) = (sz : Int)) := by
    have e : wrap64 ((IntKind.u64.wrap a1).tmod 8) = (s0 : Int) := hmod1
    show _ = _
    rw [e, show (1 : Int) + (s0 : Int) = (sz : Int) by omega]
    exact IntWalk.wrap64_in _ (by omega)
  have HMN : Hid (IntKind.u64.wrap (n : Int) = (n : Int)) := by show _ = _; rw [IntKind.wrap_u64]; omega
  clear hmod0 hn hn0 hmod1 hsz hs0
  have HBG := Lib.hid (law15_begin (n := n) (sz := sz) (by omega) (by omega) (by omega) (by omega) W)
  have m0 := HM0.out
  have m1 := HM1.out
  go_enter Try.func7, Try.ntmps7
  go_wp2_with fail
  (try simp only [m0, m1])
  refine (HBG.out).mono ?_
  rintro e w1 ⟨wb, b, lb, g, cap, v, rbs, G, m, rfl, hw, hq, hm, hC, hG, hb⟩
  have HW := Lib.hid hw
  have HQ := Lib.hid hq
  have HG := Lib.hid hG
  have HM := Lib.hid hm
  have HB := Lib.hid hb
  clear hw hq hm hC hG hb HBG m0 m1 HM0 HM1
  have HT := Lib.hid (told15 w1)
  go_wp2_with fail
  refine (HT.out).mono ?_
  rintro e w2 ⟨rfl, hb⟩
  have HI0 : Hid (AloneI W ((w2.alloc (.cells (mkC (.slice none 0 0) 1 n) 23)).alloc (.cells #[.slice (some ⟨w2.heap.size, 0, none⟩) n n, .int .i64 0] 64)) wb b lb g cap n sz v rbs (w2.heap.size + 1) w2.heap.size 0 G 0 m (fun _ => 0) (fun _ => 0) (fun _ => []) (fun _ => .slice none 0 0)) := by
    have hb2 : Below w2.heap.size w2 ((w2.alloc (.cells (mkC (.slice none 0 0) 1 n) 23)).alloc (.cells #[.slice (some ⟨w2.heap.size, 0, none⟩) n n, .int .i64 0] 64)) := ((Below.refl _ _).alloc (Nat.le_refl _) _).alloc (by simp) _
    refine ⟨(HW.out.lower hb).lower hb2, HQ.out, HG.out, ⟨?_, ?_, fun i hi => World.ownsRow_nil _ _ _ _, fun i j k _ _ _ e => (by cases e), Nat.lt_succ_self _⟩, fun j hj => Nat.zero_le _, fun j => Nat.zero_le _, by have := HM.out; omega, by have := HM.out; omega, (HW.out.lower hb).lane.lt, (HB.out.trans (hb.mono HB.out.size)).trans (hb2.mono (by have := HB.out.size; have := hb.size; omega))⟩
    · have := World.rowIs_alloc (w2.alloc (.cells (mkC (.slice none 0 0) 1 n) 23)) #[.slice (some ⟨w2.heap.size, 0, none⟩) n n, .int .i64 0] 64 (lanF w2.heap.size n 0) (fun i hi => by
        match i, hi with
        | 0, _ => rfl
        | 1, _ => rfl)
      simpa using this
    · exact (rowIs_mk (z := .slice none 0 0) (by rfl) rfl).alloc _
  have hmk := fun W => run_mkFull (P := Try.prog) W stRowsU n (by omega)
  clear HT HW HQ HG HM
  go_wp2
  obtain ⟨w3, hw3⟩ : ∃ w3, w3 = (w2.alloc (.cells (mkC (.slice none 0 0) 1 n) 23)).alloc (.cells #[.slice (some ⟨w2.heap.size, 0, none⟩) n n, .int .i64 0] 64) := ⟨_, rfl⟩
  obtain ⟨rg, hrg⟩ : ∃ rg, rg = w2.heap.size := ⟨_, rfl⟩
  obtain ⟨rl, hrl⟩ : ∃ rl, rl = rg + 1 := ⟨_, rfl⟩
  rw [← hw3, ← hrg] at HI0 ⊢
  rw [← hrl] at HI0 ⊢
  clear hw3 hrg hrl hb HB hmk
  go_loopw [11, 12] (fun s i' wr => ∃ (i : Nat) (q : Nat → List Int), i ≤ 200 ∧ i' = .int .i64 i ∧ s = .int .i64 (sumL q n : Nat) ∧ ∃ G c m p t qv, Hid (AloneI W wr wb b lb g cap n sz v rbs rl rg i G c m p t q qv)) (fun _ i' _ => 201 - (intOf i').toNat)
  case atStart => exact ⟨0, fun _ => [], by omega, rfl, (by rw [show sumL (fun _ => []) n = 0 from by have := sumL_le (q := fun _ => []) (M := 0) n (fun i _ => Nat.le_refl 0); omega]; rfl), _, _, _, _, _, _, HI0⟩
  case round =>
    obtain ⟨i, q, hi, rfl, rfl, G1, c, m1, p, t, qv, HI⟩ := hrel
    clear HI0
    by_cases hin : i < jn
    · by_cases hi2 : i < 200
      · have hJ := HJ.out
        obtain ⟨jb, joff, hA, hjb, hcell⟩ := hJ (by omega)
        subst hA
        obtain ⟨jz, jr, jv, j0, j1, j2⟩ := hcell i hin
        obtain ⟨r, hr, hmodr⟩ := mod_u64 jr n (by omega) (by omega)
        have hmr : wrap64 ((IntKind.u64.wrap jr).tmod (n : Int)) = (r : Int) := hmodr
        clear hmodr hcell hJ
        have k0 := (HI.out.bel.cell (p := ⟨jb, joff + i * 3, none⟩) hjb).trans j0
        have k1 := (HI.out.bel.cell (p := ⟨jb, joff + i * 3 + 1, none⟩) hjb).trans j1
        have k2 := (HI.out.bel.cell (p := ⟨jb, joff + i * 3 + 2, none⟩) hjb).trans j2
        have hnz : (n : Int) ≠ 0 := by omega
        have mn := HMN.out
        have hsum : sumL q n ≤ 64 := by have h1 := sumL_le (q := q) (M := 8) n (fun j hj => by have := HI.out.ql j hj; omega); omega
        obtain ⟨SM, hSM⟩ : ∃ s, s = sumL q n := ⟨_, rfl⟩
        rw [← hSM] at hsum ⊢
        have HSM := Lib.hid hSM
        clear hSM
        cases jz
        · -- a number is put
          obtain ⟨Ar, cr, hvr, hnc, hcm⟩ := (Sl.of_own (HI.out.ref.own r hr)).form
          unfold maxLen at hcm
          have c0 : wr.cell? ⟨rl, 0, none⟩ = some (.slice (some ⟨rg, 0, none⟩) n n) := HI.out.ref.row.cell (i := 0) (by omega)
          have ck : wr.cell? ⟨rg, r, none⟩ = some (.slice Ar (q r).length cr) := by rw [← hvr]; exact HI.out.ref.cells.cell hr
          have HPU := law15_put HI.out.at_ HI.out.que hr (HI.out.fl r hr).2.1 (by have := HI.out.tm; omega) (by have := HI.out.pn r; omega) jv
          rw [(HI.out.fl r hr).1] at HPU
          have HJR : Hid (jb < rg ∧ rg < rl) := ⟨by have h1 := (HI.out.low (x := lb) (.inr (.inr rfl))); omega, HI.out.ref.gl⟩
          by_cases hlt : (q r).length < sz
          · have HQL := Lib.hid hlt
            have hd : decide ((q r).length < sz) = true := decide_eq_true hlt
            rw [hd] at HPU
            have HPU := Lib.hid HPU
            have HSQ : Hid (sumL (upd q r (q r ++ [jv])) n = SM + 1) := by
              have := (sumL_upd (q := q) (k := r) (l := q r ++ [jv]) n).1 hr
              rw [List.length_append] at this
              show _ = _
              rw [HSM.out]
              simp at this
              omega
            have HLS : Hid (∀ j, j < n → (upd q r (q r ++ [jv]) j).length ≤ sz) := fun j hj => by
              by_cases e : j = r
              · rw [e, upd_same, List.length_append]; exact hlt
              · rw [upd_other _ e]; exact HI.out.ql j hj
            have HKL : Hid ((q r ++ [jv]).length = (q r).length + 1 ∧ kv .u64 (q r ++ [jv]) = kv .u64 (q r) ++ [.int .u64 jv]) := ⟨by simp, by simp [kv]⟩
            obtain ⟨Lr, hLr⟩ : ∃ l, l = (q r).length := ⟨_, rfl⟩
            rw [← hLr] at ck hnc hlt hd hvr HKL
            have HLR := Lib.hid hLr
            clear hLr
            go_wp2_with fail
            (try simp only [hmr])
            go_wp2_with fail
            refine (HPU.out).mono ?_
            rintro e w4 ⟨G4, m4, p4, rfl, hdd⟩
            have HD := Lib.hid hdd
            obtain ⟨hl4, hb4⟩ := HI.out.put hr hdd
            have HL4 := Lib.hid hl4
            have HLW : Hid (rl < w4.heap.size) := hl4.row.lt
            clear c0 ck k0 k1 k2 hmr mn hdd
            have c0 : w4.cell? ⟨rl, 0, none⟩ = some (.slice (some ⟨rg, 0, none⟩) n n) := hl4.row.cell (i := 0) (by omega)
            have ck : w4.cell? ⟨rg, r, none⟩ = some (.slice Ar Lr cr) := by rw [← hvr]; exact hl4.cells.cell hr
            have cf : w4.frozen? ⟨rg, r, none⟩ = false := hl4.cells.frozen r
            have k2 := (hb4.cell (p := ⟨jb, joff + i * 3 + 2, none⟩) hjb).trans j2
            have hal0 : ∀ w7 o, Below w4.heap.size w4 w7 → (w7.alloc o).cell? ⟨rl, 0, none⟩ = some (.slice (some ⟨rg, 0, none⟩) n n) := fun w7 o hb => (((hb.alloc hb.size o)).cell (p := ⟨rl, 0, none⟩) HLW.out).trans c0
            have hal1 : ∀ w7 o, Below w4.heap.size w4 w7 → (w7.alloc o).cell? ⟨rg, r, none⟩ = some (.slice Ar Lr cr) := fun w7 o hb => (((hb.alloc hb.size o)).cell (p := ⟨rg, r, none⟩) (by have := HLW.out; have := HJR.out; show rg < _; omega)).trans ck
            have hal2 : ∀ w7 o, Below w4.heap.size w4 w7 → (w7.alloc o).frozen? ⟨rg, r, none⟩ = false := fun w7 o hb => (((hb.alloc hb.size o)).frozen (p := ⟨rg, r, none⟩) (by have := HLW.out; have := HJR.out; show rg < _; omega)).trans cf
            have hal3 : ∀ w7 o, Below w4.heap.size w4 w7 → (w7.alloc o).cell? ⟨jb, joff + i * 3 + 2, none⟩ = some (.int .u64 jv) := fun w7 o hb => (((hb.alloc hb.size o)).cell (p := ⟨jb, joff + i * 3 + 2, none⟩) (by have := HLW.out; have := HJR.out; show jb < _; omega)).trans k2
            have HOW : Hid (w4.ownsRow (rl + 1) 22 1 (.slice Ar Lr cr) Lr (kv .u64 (q r))) := by
              have := hl4.own r hr
              rw [hvr, ← HLR.out] at this
              exact this
            have HLA9 : Hid (∀ w7, Below w4.heap.size w4 w7 → ∀ w9 v9, w9.ownsRow (rl + 1) 22 1 v9 (Lr + 1) (kv .u64 (q r) ++ [.int .u64 jv]) → (w7.alloc (.cells #[.int .u64 jv] 22)).grownBy w9 (Value.slice Ar Lr cr).ownBlock → (v9.ownBlock = (Value.slice Ar Lr cr).ownBlock ∨ v9.ownBlock = some (w7.alloc (.cells #[.int .u64 jv] 22)).heap.size) → LanAt (w9.setCell ⟨rg, r, none⟩ v9) rl rg n c (upd qv r v9) (upd q r (q r ++ [jv])) ∧ Tch (LanD n rg rl qv) w4 (w9.setCell ⟨rg, r, none⟩ v9)) := fun w7 hb w9 v9 a1 a2 a3 => by
              obtain ⟨y1, y2⟩ := (HL4.out.below hb).app hr (l' := q r ++ [jv]) (by rw [HKL.out.1, HKL.out.2]; exact a1) a2 a3 (fun x hx => .inl (by rw [hvr]; exact hx))
              exact ⟨y1, (Tch.of_below hb).trans y2⟩
            clear cf hl4 hb4
            go_wp2_with fail
            refine wp_region_held_drew (S := fun w' => w'.cell? ⟨rl, 0, none⟩ = some (.slice (some ⟨rg, 0, none⟩) n n) ∧ w'.cell? ⟨jb, joff + i * 3 + 2, none⟩ = some (.int .u64 jv)) (by kernel_rfl) ?_ (fun hHeld => ?_)
            · exact ⟨c0, k2⟩
            refine wpAnyH_take (i := 0) (oi := { dst := some 124, op := Go.Op.move (Go.Operand.tmp 10), type := 61, pos := "law.go:100", after := #[], guard := none }) (v := ?_) rfl (by kernel_rfl) (by kernel_rfl) (by kernel_rfl) (fun _ _ _ h => h) (Or.inl ⟨by rfl, ?_⟩) (by assumption) ?_
            rotate_left
            · intro w hSw
              (try dsimp only at hSw)
              go_simp
              try with_reducible rfl
            (try simp only [Act.put, List.setIfInBounds_toArray, List.set_cons_zero, List.set_cons_succ])
            refine wpAnyH_take (i := 1) (oi := { dst := some 125, op := Go.Op.nilCheck (Go.Operand.tmp 124), type := 0, pos := "law.go:100", after := #[{ on := 0, ground := Go.Ground.data }], guard := none }) (v := ?_) rfl (by kernel_rfl) (by kernel_rfl) (by kernel_rfl) (fun _ _ _ h => h) (Or.inl ⟨by rfl, ?_⟩) (by assumption) ?_
            rotate_left
            · intro w hSw
              (try dsimp only at hSw)
              go_simp
              try with_reducible rfl
            (try simp only [Act.put, List.setIfInBounds_toArray, List.set_cons_zero, List.set_cons_succ])
            refine wpAnyH_take (i := 2) (oi := { dst := some 126, op := Go.Op.fieldAddr 64 (Go.Operand.tmp 125) 0, type := 0, pos := "law.go:100", after := #[{ on := 1, ground := Go.Ground.data }], guard := none }) (v := ?_) rfl (by kernel_rfl) (by kernel_rfl) (by kernel_rfl) (fun _ _ _ h => h) (Or.inl ⟨by rfl, ?_⟩) (by assumption) ?_
            rotate_left
            · intro w hSw
              (try dsimp only at hSw)
              go_simp
              try with_reducible rfl
            (try simp only [Act.put, List.setIfInBounds_toArray, List.set_cons_zero, List.set_cons_succ])
            refine wpAnyH_take (i := 3) (oi := { dst := some 127, op := Go.Op.load 62 (Go.Operand.tmp 126), type := 62, pos := "law.go:100", after := #[{ on := 2, ground := Go.Ground.data }], guard := none }) (v := ?_) rfl (by kernel_rfl) (by kernel_rfl) (by kernel_rfl) (fun _ _ _ h => h) (Or.inl ⟨by rfl, ?_⟩) (by assumption) ?_
            rotate_left
            · intro w hSw
              (try dsimp only at hSw)
              go_simp
              try with_reducible rfl
            (try simp only [Act.put, List.setIfInBounds_toArray, List.set_cons_zero, List.set_cons_succ])
            refine wpAnyH_take (i := 4) (oi := { dst := some 128, op := Go.Op.move (Go.Operand.tmp 13), type := 3, pos := "law.go:100", after := #[], guard := none }) (v := ?_) rfl (by kernel_rfl) (by kernel_rfl) (by kernel_rfl) (fun _ _ _ h => h) (Or.inl ⟨by rfl, ?_⟩) (by assumption) ?_
            rotate_left
            · intro w hSw
              (try dsimp only at hSw)
              go_simp
              try with_reducible rfl
            (try simp only [Act.put, List.setIfInBounds_toArray, List.set_cons_zero, List.set_cons_succ])
            refine wpAnyH_take (i := 5) (oi := { dst := some 129, op := Go.Op.move (Go.Operand.tmp 10), type := 61, pos := "law.go:100", after := #[], guard := none }) (v := ?_) rfl (by kernel_rfl) (by kernel_rfl) (by kernel_rfl) (fun _ _ _ h => h) (Or.inl ⟨by rfl, ?_⟩) (by assumption) ?_
            rotate_left
            · intro w hSw
              (try dsimp only at hSw)
              go_simp
              try with_reducible rfl
            (try simp only [Act.put, List.setIfInBounds_toArray, List.set_cons_zero, List.set_cons_succ])
            refine wpAnyH_take (i := 6) (oi := { dst := some 130, op := Go.Op.nilCheck (Go.Operand.tmp 129), type := 0, pos := "law.go:100", after := #[{ on := 5, ground := Go.Ground.data }], guard := none }) (v := ?_) rfl (by kernel_rfl) (by kernel_rfl) (by kernel_rfl) (fun _ _ _ h => h) (Or.inl ⟨by rfl, ?_⟩) (by assumption) ?_
            rotate_left
            · intro w hSw
              (try dsimp only at hSw)
              go_simp
              try with_reducible rfl
            (try simp only [Act.put, List.setIfInBounds_toArray, List.set_cons_zero, List.set_cons_succ])
            refine wpAnyH_take (i := 7) (oi := { dst := some 131, op := Go.Op.fieldAddr 64 (Go.Operand.tmp 130) 0, type := 0, pos := "law.go:100", after := #[{ on := 6, ground := Go.Ground.data }], guard := none }) (v := ?_) rfl (by kernel_rfl) (by kernel_rfl) (by kernel_rfl) (fun _ _ _ h => h) (Or.inl ⟨by rfl, ?_⟩) (by assumption) ?_
            rotate_left
            · intro w hSw
              (try dsimp only at hSw)
              go_simp
              try with_reducible rfl
            (try simp only [Act.put, List.setIfInBounds_toArray, List.set_cons_zero, List.set_cons_succ])
            refine wpAnyH_take (i := 8) (oi := { dst := some 132, op := Go.Op.load 62 (Go.Operand.tmp 131), type := 62, pos := "law.go:100", after := #[{ on := 7, ground := Go.Ground.data }], guard := none }) (v := ?_) rfl (by kernel_rfl) (by kernel_rfl) (by kernel_rfl) (fun _ _ _ h => h) (Or.inl ⟨by rfl, ?_⟩) (by assumption) ?_
            rotate_left
            · intro w hSw
              (try dsimp only at hSw)
              go_simp
              try with_reducible rfl
            (try simp only [Act.put, List.setIfInBounds_toArray, List.set_cons_zero, List.set_cons_succ])
            refine wpAnyH_take (i := 9) (oi := { dst := some 133, op := Go.Op.move (Go.Operand.tmp 13), type := 3, pos := "law.go:100", after := #[], guard := none }) (v := ?_) rfl (by kernel_rfl) (by kernel_rfl) (by kernel_rfl) (fun _ _ _ h => h) (Or.inl ⟨by rfl, ?_⟩) (by assumption) ?_
            rotate_left
            · intro w hSw
              (try dsimp only at hSw)
              go_simp
              try with_reducible rfl
            (try simp only [Act.put, List.setIfInBounds_toArray, List.set_cons_zero, List.set_cons_succ])
            refine wpAnyH_take (i := 10) (oi := { dst := some 134, op := Go.Op.indexAddr 62 (Go.Operand.tmp 132) (Go.Operand.tmp 133), type := 0, pos := "law.go:100", after := #[{ on := 8, ground := Go.Ground.data }, { on := 9, ground := Go.Ground.data }], guard := none }) (v := ?_) rfl (by kernel_rfl) (by kernel_rfl) (by kernel_rfl) (fun _ _ _ h => h) (Or.inl ⟨by rfl, ?_⟩) (by assumption) ?_
            rotate_left
            · intro w hSw
              (try dsimp only at hSw)
              go_simp
              try with_reducible rfl
            (try simp only [Act.put, List.setIfInBounds_toArray, List.set_cons_zero, List.set_cons_succ])
            refine wpAnyH_take (i := 12) (oi := { dst := some 136, op := Go.Op.move (Go.Operand.tmp 2), type := 58, pos := "law.go:100", after := #[], guard := none }) (v := ?_) rfl (by kernel_rfl) (by kernel_rfl) (by kernel_rfl) (fun _ _ _ h => h) (Or.inl ⟨by rfl, ?_⟩) (by assumption) ?_
            rotate_left
            · intro w hSw
              (try dsimp only at hSw)
              go_simp
              try with_reducible rfl
            (try simp only [Act.put, List.setIfInBounds_toArray, List.set_cons_zero, List.set_cons_succ])
            refine wpAnyH_take (i := 13) (oi := { dst := some 137, op := Go.Op.move (Go.Operand.tmp 12), type := 3, pos := "law.go:100", after := #[], guard := none }) (v := ?_) rfl (by kernel_rfl) (by kernel_rfl) (by kernel_rfl) (fun _ _ _ h => h) (Or.inl ⟨by rfl, ?_⟩) (by assumption) ?_
            rotate_left
            · intro w hSw
              (try dsimp only at hSw)
              go_simp
              try with_reducible rfl
            (try simp only [Act.put, List.setIfInBounds_toArray, List.set_cons_zero, List.set_cons_succ])
            refine wpAnyH_take (i := 14) (oi := { dst := some 138, op := Go.Op.indexAddr 58 (Go.Operand.tmp 136) (Go.Operand.tmp 137), type := 0, pos := "law.go:100", after := #[{ on := 12, ground := Go.Ground.data }, { on := 13, ground := Go.Ground.data }], guard := none }) (v := ?_) rfl (by kernel_rfl) (by kernel_rfl) (by kernel_rfl) (fun _ _ _ h => h) (Or.inl ⟨by rfl, ?_⟩) (by assumption) ?_
            rotate_left
            · intro w hSw
              (try dsimp only at hSw)
              go_simp
              try with_reducible rfl
            (try simp only [Act.put, List.setIfInBounds_toArray, List.set_cons_zero, List.set_cons_succ])
            refine wpAnyH_take (i := 15) (oi := { dst := some 139, op := Go.Op.fieldAddr 66 (Go.Operand.tmp 138) 2, type := 0, pos := "law.go:100", after := #[{ on := 14, ground := Go.Ground.data }], guard := none }) (v := ?_) rfl (by kernel_rfl) (by kernel_rfl) (by kernel_rfl) (fun _ _ _ h => h) (Or.inl ⟨by rfl, ?_⟩) (by assumption) ?_
            rotate_left
            · intro w hSw
              (try dsimp only at hSw)
              go_simp
              try with_reducible rfl
            (try simp only [Act.put, List.setIfInBounds_toArray, List.set_cons_zero, List.set_cons_succ])
            refine wpAnyH_take (i := 16) (oi := { dst := some 140, op := Go.Op.load 22 (Go.Operand.tmp 139), type := 22, pos := "law.go:100", after := #[{ on := 15, ground := Go.Ground.data }], guard := none }) (v := ?_) rfl (by kernel_rfl) (by kernel_rfl) (by kernel_rfl) (fun _ _ _ h => h) (Or.inl ⟨by rfl, ?_⟩) (by assumption) ?_
            rotate_left
            · intro w hSw
              (try dsimp only at hSw)
              go_simp
              try with_reducible rfl
            (try simp only [Act.put, List.setIfInBounds_toArray, List.set_cons_zero, List.set_cons_succ])
            refine wpAnyH_ready (rs := [11, 17]) (by kernel_rfl) (by simp) ?_
            refine (AllReadyH.cons (o := { dst := some 135, op := Go.Op.load 23 (Go.Operand.tmp 134), type := 23, pos := "law.go:100", after := #[{ on := 10, ground := Go.Ground.data }], guard := none }) rfl (fun K hK => ?_) (AllReadyH.cons (o := { dst := some 141, op := Go.Op.buildSlice 23 1 #[(0, Go.Operand.tmp 140)], type := 23, pos := "law.go:100", after := #[{ on := 16, ground := Go.Ground.data }], guard := none }) rfl (fun K hK => ?_) AllReadyH.nil))
            · go_simp
              (try (rw [hal1 _ _ (by (repeat' (first | (with_reducible exact Below.refl _ _) | (with_reducible assumption) | (with_reducible refine Below.setCell ?_ ?_ _) | (with_reducible refine Below.alloc ?_ ?_ _) | (with_reducible refine below_drewN ?_ _) | (with_reducible refine Below.drew ?_) | go_size)))]; go_simp))
              refine hK.out _ _ ?_ (fun hHeld => ?_)
              · (try dsimp only)
                exact hHeld
              clear hK K
              (try simp only [Act.put, List.setIfInBounds_toArray, List.set_cons_zero, List.set_cons_succ])
              refine wpAnyH_ready (rs := [17]) (by kernel_rfl) (by simp) ?_
              refine (AllReadyH.cons (o := { dst := some 141, op := Go.Op.buildSlice 23 1 #[(0, Go.Operand.tmp 140)], type := 23, pos := "law.go:100", after := #[{ on := 16, ground := Go.Ground.data }], guard := none }) rfl (fun K hK => ?_) AllReadyH.nil)
              go_simp

              refine hK.out _ _ ?_ (fun hHeld => ?_)
              · (try dsimp only)
                exact ⟨hal0 _ _ (by (repeat' (first | (with_reducible exact Below.refl _ _) | (with_reducible assumption) | (with_reducible refine Below.setCell ?_ ?_ _) | (with_reducible refine Below.alloc ?_ ?_ _) | (with_reducible refine below_drewN ?_ _) | (with_reducible refine Below.drew ?_) | go_size))), hal3 _ _ (by (repeat' (first | (with_reducible exact Below.refl _ _) | (with_reducible assumption) | (with_reducible refine Below.setCell ?_ ?_ _) | (with_reducible refine Below.alloc ?_ ?_ _) | (with_reducible refine below_drewN ?_ _) | (with_reducible refine Below.drew ?_) | go_size)))⟩
              clear hK K
              (try simp only [Act.put, List.setIfInBounds_toArray, List.set_cons_zero, List.set_cons_succ])
              refine wpAnyH_ready (rs := [18]) (by kernel_rfl) (by simp) ?_
              refine (AllReadyH.cons (o := { dst := some 142, op := Go.Op.call { callee := Go.Callee.builtin Go.Builtin.append, args := #[Go.Operand.tmp 135, Go.Operand.tmp 141], argTypes := #[23, 23] }, type := 23, pos := "law.go:100", after := #[{ on := 11, ground := Go.Ground.data }, { on := 17, ground := Go.Ground.data }], guard := none }) rfl (fun K hK => ?_) AllReadyH.nil)
              refine step_app _ (by rfl) stU64s _ _ (by rfl) (rl + 1) (.slice Ar Lr cr) Lr (kv .u64 (q r)) (by rfl) (own_below HOW.out (by (repeat' (first | (with_reducible exact Below.refl _ _) | (with_reducible assumption) | (with_reducible refine Below.setCell ?_ ?_ _) | (with_reducible refine Below.alloc ?_ ?_ _) | (with_reducible refine below_drewN ?_ _) | (with_reducible refine Below.drew ?_) | go_size)))) _ _ 1 [.int .u64 jv] (by rfl) (Sl.lit_at (by simp) rfl (by decide)) (by simp [Value.oneCell']) (by omega) (by have := HLW.out; simp; omega) ?_
              intro v9 w9 hown9 hgr9 hat9 hbel9
              obtain ⟨A9, c9, hv9, _, _⟩ := (Sl.of_own hown9).form
              subst hv9
              have HN9 := Lib.hid (HLA9.out w4.drew (by (repeat' (first | (with_reducible exact Below.refl _ _) | (with_reducible assumption) | (with_reducible refine Below.setCell ?_ ?_ _) | (with_reducible refine Below.alloc ?_ ?_ _) | (with_reducible refine below_drewN ?_ _) | (with_reducible refine Below.drew ?_) | go_size))) w9 _ hown9 hgr9 hat9)
              have h9c : w9.cell? ⟨rl, 0, none⟩ = some (.slice (some ⟨rg, 0, none⟩) n n) := (hbel9.cell (p := ⟨rl, 0, none⟩) (by show rl < rl + 1; omega)).trans (hal0 _ _ (by (repeat' (first | (with_reducible exact Below.refl _ _) | (with_reducible assumption) | (with_reducible refine Below.setCell ?_ ?_ _) | (with_reducible refine Below.alloc ?_ ?_ _) | (with_reducible refine below_drewN ?_ _) | (with_reducible refine Below.drew ?_) | go_size))))
              have h9j : w9.cell? ⟨jb, joff + i * 3 + 2, none⟩ = some (.int .u64 jv) := (hbel9.cell (p := ⟨jb, joff + i * 3 + 2, none⟩) (by have := HJR.out; show jb < rl + 1; omega)).trans (hal3 _ _ (by (repeat' (first | (with_reducible exact Below.refl _ _) | (with_reducible assumption) | (with_reducible refine Below.setCell ?_ ?_ _) | (with_reducible refine Below.alloc ?_ ?_ _) | (with_reducible refine below_drewN ?_ _) | (with_reducible refine Below.drew ?_) | go_size))))
              have h9f : w9.frozen? ⟨rg, r, none⟩ = false := (hbel9.frozen (p := ⟨rg, r, none⟩) (by have := HJR.out; show rg < rl + 1; omega)).trans (hal2 _ _ (by (repeat' (first | (with_reducible exact Below.refl _ _) | (with_reducible assumption) | (with_reducible refine Below.setCell ?_ ?_ _) | (with_reducible refine Below.alloc ?_ ?_ _) | (with_reducible refine below_drewN ?_ _) | (with_reducible refine Below.drew ?_) | go_size))))
              have h9g := (hbel9.cell (p := ⟨rg, r, none⟩) (by have := HJR.out; show rg < rl + 1; omega)).trans (hal1 _ _ (by (repeat' (first | (with_reducible exact Below.refl _ _) | (with_reducible assumption) | (with_reducible refine Below.setCell ?_ ?_ _) | (with_reducible refine Below.alloc ?_ ?_ _) | (with_reducible refine below_drewN ?_ _) | (with_reducible refine Below.drew ?_) | go_size))))
              clear hown9 hgr9 hat9 hbel9
              refine hK.out _ _ ?_ (fun hHeld => ?_)
              · (try dsimp only)
                exact ⟨h9c, h9j⟩
              clear hK K
              (try simp only [Act.put, List.setIfInBounds_toArray, List.set_cons_zero, List.set_cons_succ])
              refine wpAnyH_take (i := 19) (oi := { dst := some 143, op := Go.Op.indexAddr 62 (Go.Operand.tmp 127) (Go.Operand.tmp 128), type := 0, pos := "law.go:100", after := #[{ on := 3, ground := Go.Ground.data }, { on := 4, ground := Go.Ground.data }, { on := 0, ground := Go.Ground.phase }, { on := 1, ground := Go.Ground.phase }, { on := 2, ground := Go.Ground.phase }, { on := 3, ground := Go.Ground.phase }, { on := 4, ground := Go.Ground.phase }, { on := 5, ground := Go.Ground.phase }, { on := 6, ground := Go.Ground.phase }, { on := 7, ground := Go.Ground.phase }, { on := 8, ground := Go.Ground.phase }, { on := 9, ground := Go.Ground.phase }, { on := 10, ground := Go.Ground.phase }, { on := 11, ground := Go.Ground.phase }, { on := 12, ground := Go.Ground.phase }, { on := 13, ground := Go.Ground.phase }, { on := 14, ground := Go.Ground.phase }, { on := 15, ground := Go.Ground.phase }, { on := 16, ground := Go.Ground.phase }, { on := 17, ground := Go.Ground.phase }, { on := 18, ground := Go.Ground.phase }], guard := none }) (v := ?_) rfl (by kernel_rfl) (by kernel_rfl) (by kernel_rfl) (fun _ _ _ h => h) (Or.inl ⟨by rfl, ?_⟩) (by assumption) ?_
              rotate_left
              · intro w hSw
                (try dsimp only at hSw)
                go_simp
                try with_reducible rfl
              (try simp only [Act.put, List.setIfInBounds_toArray, List.set_cons_zero, List.set_cons_succ])
              refine wpAnyH_ready (rs := [20]) (by kernel_rfl) (by simp) ?_
              refine (AllReadyH.cons (o := { dst := none, op := Go.Op.store 23 (Go.Operand.tmp 143) (Go.Operand.tmp 142), type := 0, pos := "law.go:100", after := #[{ on := 19, ground := Go.Ground.data }, { on := 18, ground := Go.Ground.data }, { on := 18, ground := Go.Ground.chain }, { on := 0, ground := Go.Ground.phase }, { on := 1, ground := Go.Ground.phase }, { on := 2, ground := Go.Ground.phase }, { on := 3, ground := Go.Ground.phase }, { on := 4, ground := Go.Ground.phase }, { on := 5, ground := Go.Ground.phase }, { on := 6, ground := Go.Ground.phase }, { on := 7, ground := Go.Ground.phase }, { on := 8, ground := Go.Ground.phase }, { on := 9, ground := Go.Ground.phase }, { on := 10, ground := Go.Ground.phase }, { on := 11, ground := Go.Ground.phase }, { on := 12, ground := Go.Ground.phase }, { on := 13, ground := Go.Ground.phase }, { on := 14, ground := Go.Ground.phase }, { on := 15, ground := Go.Ground.phase }, { on := 16, ground := Go.Ground.phase }, { on := 17, ground := Go.Ground.phase }, { on := 18, ground := Go.Ground.phase }], guard := none }) rfl (fun K hK => ?_) AllReadyH.nil)
              go_simp

              refine hK.out _ _ ?_ (fun hHeld => ?_)
              · (try dsimp only)
                exact ⟨HN9.out.1.row.cell (i := 0) (by omega), (HN9.out.2.cell (p := ⟨jb, joff + i * 3 + 2, none⟩) (by have h1 := HJR.out; have h2 := HLW.out; show jb < w4.heap.size; omega) (fun e => by have h1 := LanD.ge HL4.out e; have h2 := HJR.out; have h3 : rg ≤ jb := h1; omega)).trans k2⟩
              clear hK K
              (try simp only [Act.put, List.setIfInBounds_toArray, List.set_cons_zero, List.set_cons_succ])
              refine wpAnyH_done (by kernel_rfl) ?_ _
              have HNz0 := HN9.out
              obtain ⟨wz, hwz⟩ : ∃ wz, wz = w9.setCell ⟨rg, r, none⟩ (.slice A9 (Lr + 1) c9) := ⟨_, rfl⟩
              rw [← hwz] at HNz0 ⊢
              have hI5 := HI.out.grew hr HD.out HNz0.1 HNz0.2 (by have := HD.out.que; rw [(HI.out.fl r hr).1, if_pos HQL.out] at this; exact this) HLS.out
              have HI5 := Lib.hid hI5
              have cw : wz.cell? ⟨wb, 2, none⟩ = some (.pointer (some ⟨lb, 0, none⟩)) := hI5.at_.row.cell (i := 2) (by omega)
              have HLN := Lib.hid (lane_Len hI5.at_.lane hI5.at_.rings hI5.que)
              rw [HSQ.out] at HLN
              clear hwz hHeld HN9 HNz0 h9c h9g h9f h9j hI5 c0 ck hal0 hal1 hal2 hal3 HLA9 HOW HL4 HD HPU
              go_wp2_with (first
                | (go_at_call 41; (with_reducible refine Calls.mono HLN.out ?_); rintro e wq ⟨rfl, nq, rfl⟩)
                | fail)
              go_roundw
              case rel => exact ⟨i + 1, upd q r (q r ++ [jv]), by omega, by go_num, by rw [HSQ.out]; go_num, _, _, _, _, _, _, HI5.out.below (below_drewN (Below.refl _ _) _)⟩
              case measure => simp [intOf]; omega
            · go_simp

              refine hK.out _ _ ?_ (fun hHeld => ?_)
              · (try dsimp only)
                exact ⟨hal0 _ _ (by (repeat' (first | (with_reducible exact Below.refl _ _) | (with_reducible assumption) | (with_reducible refine Below.setCell ?_ ?_ _) | (with_reducible refine Below.alloc ?_ ?_ _) | (with_reducible refine below_drewN ?_ _) | (with_reducible refine Below.drew ?_) | go_size))), hal3 _ _ (by (repeat' (first | (with_reducible exact Below.refl _ _) | (with_reducible assumption) | (with_reducible refine Below.setCell ?_ ?_ _) | (with_reducible refine Below.alloc ?_ ?_ _) | (with_reducible refine below_drewN ?_ _) | (with_reducible refine Below.drew ?_) | go_size)))⟩
              clear hK K
              (try simp only [Act.put, List.setIfInBounds_toArray, List.set_cons_zero, List.set_cons_succ])
              refine wpAnyH_ready (rs := [11]) (by kernel_rfl) (by simp) ?_
              refine (AllReadyH.cons (o := { dst := some 135, op := Go.Op.load 23 (Go.Operand.tmp 134), type := 23, pos := "law.go:100", after := #[{ on := 10, ground := Go.Ground.data }], guard := none }) rfl (fun K hK => ?_) AllReadyH.nil)
              go_simp
              (try (rw [hal1 _ _ (by (repeat' (first | (with_reducible exact Below.refl _ _) | (with_reducible assumption) | (with_reducible refine Below.setCell ?_ ?_ _) | (with_reducible refine Below.alloc ?_ ?_ _) | (with_reducible refine below_drewN ?_ _) | (with_reducible refine Below.drew ?_) | go_size)))]; go_simp))
              refine hK.out _ _ ?_ (fun hHeld => ?_)
              · (try dsimp only)
                exact hHeld
              clear hK K
              (try simp only [Act.put, List.setIfInBounds_toArray, List.set_cons_zero, List.set_cons_succ])
              refine wpAnyH_ready (rs := [18]) (by kernel_rfl) (by simp) ?_
              refine (AllReadyH.cons (o := { dst := some 142, op := Go.Op.call { callee := Go.Callee.builtin Go.Builtin.append, args := #[Go.Operand.tmp 135, Go.Operand.tmp 141], argTypes := #[23, 23] }, type := 23, pos := "law.go:100", after := #[{ on := 11, ground := Go.Ground.data }, { on := 17, ground := Go.Ground.data }], guard := none }) rfl (fun K hK => ?_) AllReadyH.nil)
              refine step_app _ (by rfl) stU64s _ _ (by rfl) (rl + 1) (.slice Ar Lr cr) Lr (kv .u64 (q r)) (by rfl) (own_below HOW.out (by (repeat' (first | (with_reducible exact Below.refl _ _) | (with_reducible assumption) | (with_reducible refine Below.setCell ?_ ?_ _) | (with_reducible refine Below.alloc ?_ ?_ _) | (with_reducible refine below_drewN ?_ _) | (with_reducible refine Below.drew ?_) | go_size)))) _ _ 1 [.int .u64 jv] (by rfl) (Sl.lit_at (by simp) rfl (by decide)) (by simp [Value.oneCell']) (by omega) (by have := HLW.out; simp; omega) ?_
              intro v9 w9 hown9 hgr9 hat9 hbel9
              obtain ⟨A9, c9, hv9, _, _⟩ := (Sl.of_own hown9).form
              subst hv9
              have HN9 := Lib.hid (HLA9.out w4.drew (by (repeat' (first | (with_reducible exact Below.refl _ _) | (with_reducible assumption) | (with_reducible refine Below.setCell ?_ ?_ _) | (with_reducible refine Below.alloc ?_ ?_ _) | (with_reducible refine below_drewN ?_ _) | (with_reducible refine Below.drew ?_) | go_size))) w9 _ hown9 hgr9 hat9)
              have h9c : w9.cell? ⟨rl, 0, none⟩ = some (.slice (some ⟨rg, 0, none⟩) n n) := (hbel9.cell (p := ⟨rl, 0, none⟩) (by show rl < rl + 1; omega)).trans (hal0 _ _ (by (repeat' (first | (with_reducible exact Below.refl _ _) | (with_reducible assumption) | (with_reducible refine Below.setCell ?_ ?_ _) | (with_reducible refine Below.alloc ?_ ?_ _) | (with_reducible refine below_drewN ?_ _) | (with_reducible refine Below.drew ?_) | go_size))))
              have h9j : w9.cell? ⟨jb, joff + i * 3 + 2, none⟩ = some (.int .u64 jv) := (hbel9.cell (p := ⟨jb, joff + i * 3 + 2, none⟩) (by have := HJR.out; show jb < rl + 1; omega)).trans (hal3 _ _ (by (repeat' (first | (with_reducible exact Below.refl _ _) | (with_reducible assumption) | (with_reducible refine Below.setCell ?_ ?_ _) | (with_reducible refine Below.alloc ?_ ?_ _) | (with_reducible refine below_drewN ?_ _) | (with_reducible refine Below.drew ?_) | go_size))))
              have h9f : w9.frozen? ⟨rg, r, none⟩ = false := (hbel9.frozen (p := ⟨rg, r, none⟩) (by have := HJR.out; show rg < rl + 1; omega)).trans (hal2 _ _ (by (repeat' (first | (with_reducible exact Below.refl _ _) | (with_reducible assumption) | (with_reducible refine Below.setCell ?_ ?_ _) | (with_reducible refine Below.alloc ?_ ?_ _) | (with_reducible refine below_drewN ?_ _) | (with_reducible refine Below.drew ?_) | go_size))))
              have h9g := (hbel9.cell (p := ⟨rg, r, none⟩) (by have := HJR.out; show rg < rl + 1; omega)).trans (hal1 _ _ (by (repeat' (first | (with_reducible exact Below.refl _ _) | (with_reducible assumption) | (with_reducible refine Below.setCell ?_ ?_ _) | (with_reducible refine Below.alloc ?_ ?_ _) | (with_reducible refine below_drewN ?_ _) | (with_reducible refine Below.drew ?_) | go_size))))
              clear hown9 hgr9 hat9 hbel9
              refine hK.out _ _ ?_ (fun hHeld => ?_)
              · (try dsimp only)
                exact ⟨h9c, h9j⟩
              clear hK K
              (try simp only [Act.put, List.setIfInBounds_toArray, List.set_cons_zero, List.set_cons_succ])
              refine wpAnyH_take (i := 19) (oi := { dst := some 143, op := Go.Op.indexAddr 62 (Go.Operand.tmp 127) (Go.Operand.tmp 128), type := 0, pos := "law.go:100", after := #[{ on := 3, ground := Go.Ground.data }, { on := 4, ground := Go.Ground.data }, { on := 0, ground := Go.Ground.phase }, { on := 1, ground := Go.Ground.phase }, { on := 2, ground := Go.Ground.phase }, { on := 3, ground := Go.Ground.phase }, { on := 4, ground := Go.Ground.phase }, { on := 5, ground := Go.Ground.phase }, { on := 6, ground := Go.Ground.phase }, { on := 7, ground := Go.Ground.phase }, { on := 8, ground := Go.Ground.phase }, { on := 9, ground := Go.Ground.phase }, { on := 10, ground := Go.Ground.phase }, { on := 11, ground := Go.Ground.phase }, { on := 12, ground := Go.Ground.phase }, { on := 13, ground := Go.Ground.phase }, { on := 14, ground := Go.Ground.phase }, { on := 15, ground := Go.Ground.phase }, { on := 16, ground := Go.Ground.phase }, { on := 17, ground := Go.Ground.phase }, { on := 18, ground := Go.Ground.phase }], guard := none }) (v := ?_) rfl (by kernel_rfl) (by kernel_rfl) (by kernel_rfl) (fun _ _ _ h => h) (Or.inl ⟨by rfl, ?_⟩) (by assumption) ?_
              rotate_left
              · intro w hSw
                (try dsimp only at hSw)
                go_simp
                try with_reducible rfl
              (try simp only [Act.put, List.setIfInBounds_toArray, List.set_cons_zero, List.set_cons_succ])
              refine wpAnyH_ready (rs := [20]) (by kernel_rfl) (by simp) ?_
              refine (AllReadyH.cons (o := { dst := none, op := Go.Op.store 23 (Go.Operand.tmp 143) (Go.Operand.tmp 142), type := 0, pos := "law.go:100", after := #[{ on := 19, ground := Go.Ground.data }, { on := 18, ground := Go.Ground.data }, { on := 18, ground := Go.Ground.chain }, { on := 0, ground := Go.Ground.phase }, { on := 1, ground := Go.Ground.phase }, { on := 2, ground := Go.Ground.phase }, { on := 3, ground := Go.Ground.phase }, { on := 4, ground := Go.Ground.phase }, { on := 5, ground := Go.Ground.phase }, { on := 6, ground := Go.Ground.phase }, { on := 7, ground := Go.Ground.phase }, { on := 8, ground := Go.Ground.phase }, { on := 9, ground := Go.Ground.phase }, { on := 10, ground := Go.Ground.phase }, { on := 11, ground := Go.Ground.phase }, { on := 12, ground := Go.Ground.phase }, { on := 13, ground := Go.Ground.phase }, { on := 14, ground := Go.Ground.phase }, { on := 15, ground := Go.Ground.phase }, { on := 16, ground := Go.Ground.phase }, { on := 17, ground := Go.Ground.phase }, { on := 18, ground := Go.Ground.phase }], guard := none }) rfl (fun K hK => ?_) AllReadyH.nil)
              go_simp

              refine hK.out _ _ ?_ (fun hHeld => ?_)
              · (try dsimp only)
                exact ⟨HN9.out.1.row.cell (i := 0) (by omega), (HN9.out.2.cell (p := ⟨jb, joff + i * 3 + 2, none⟩) (by have h1 := HJR.out; have h2 := HLW.out; show jb < w4.heap.size; omega) (fun e => by have h1 := LanD.ge HL4.out e; have h2 := HJR.out; have h3 : rg ≤ jb := h1; omega)).trans k2⟩
              clear hK K
              (try simp only [Act.put, List.setIfInBounds_toArray, List.set_cons_zero, List.set_cons_succ])
              refine wpAnyH_done (by kernel_rfl) ?_ _
              have HNz0 := HN9.out
              obtain ⟨wz, hwz⟩ : ∃ wz, wz = w9.setCell ⟨rg, r, none⟩ (.slice A9 (Lr + 1) c9) := ⟨_, rfl⟩
              rw [← hwz] at HNz0 ⊢
              have hI5 := HI.out.grew hr HD.out HNz0.1 HNz0.2 (by have := HD.out.que; rw [(HI.out.fl r hr).1, if_pos HQL.out] at this; exact this) HLS.out
              have HI5 := Lib.hid hI5
              have cw : wz.cell? ⟨wb, 2, none⟩ = some (.pointer (some ⟨lb, 0, none⟩)) := hI5.at_.row.cell (i := 2) (by omega)
              have HLN := Lib.hid (lane_Len hI5.at_.lane hI5.at_.rings hI5.que)
              rw [HSQ.out] at HLN
              clear hwz hHeld HN9 HNz0 h9c h9g h9f h9j hI5 c0 ck hal0 hal1 hal2 hal3 HLA9 HOW HL4 HD HPU
              go_wp2_with (first
                | (go_at_call 41; (with_reducible refine Calls.mono HLN.out ?_); rintro e wq ⟨rfl, nq, rfl⟩)
                | fail)
              go_roundw
              case rel => exact ⟨i + 1, upd q r (q r ++ [jv]), by omega, by go_num, by rw [HSQ.out]; go_num, _, _, _, _, _, _, HI5.out.below (below_drewN (Below.refl _ _) _)⟩
              case measure => simp [intOf]; omega
          · have hd : decide ((q r).length < sz) = false := decide_eq_false hlt
            rw [hd] at HPU
            have HPU := Lib.hid HPU
            have HQL := Lib.hid hlt
            obtain ⟨Lr, hLr⟩ : ∃ l, l = (q r).length := ⟨_, rfl⟩
            rw [← hLr] at ck hnc hlt hd hvr
            clear hLr
            go_wp2_with fail
            (try simp only [hmr])
            go_wp2_with fail
            refine (HPU.out).mono ?_
            rintro e w4 ⟨G4, m4, p4, rfl, hdd⟩
            have hI5 := HI.out.grew hr hdd (HI.out.put hr hdd).1 (Tch.refl _ _) (by have := hdd.que; rw [(HI.out.fl r hr).1, if_neg HQL.out, upd_self] at this; exact this) HI.out.ql
            have HI5 := Lib.hid hI5
            have cw : w4.cell? ⟨wb, 2, none⟩ = some (.pointer (some ⟨lb, 0, none⟩)) := hI5.at_.row.cell (i := 2) (by omega)
            have HLN := Lib.hid (lane_Len hI5.at_.lane hI5.at_.rings hI5.que)
            rw [← HSM.out] at HLN
            clear hI5 hdd c0 ck k0 k1 k2 hmr mn
            go_wp2_with (first
              | (go_at_call 41; (with_reducible refine Calls.mono HLN.out ?_); rintro e wq ⟨rfl, nq, rfl⟩)
              | fail)
            go_roundw
            case rel => exact ⟨i + 1, q, by omega, by go_num, by rw [← HSM.out], _, _, _, _, _, _, HI5.out.below (below_drewN (Below.refl _ _) _)⟩
            case measure => simp [intOf]; omega
        · -- a taking
          have HTK := Lib.hid (law15_take HI.out.at_ HI.out.que (fun j hj => (HI.out.fl j hj).2.2) (by have := HI.out.tm; omega))
          go_wp2_with fail
          (try simp only [hmr])
          refine (HTK.out).mono ?_
          rintro e w4 ⟨ab, pb, kk, jj, a', G4, m4, t4, q4, c4, rfl, htd⟩
          have HTD := Lib.hid htd
          have HNX := Lib.hid (ref15_Next (HI.out.took htd).1 hn8.1 (by omega) HI.out.at_.lane.cur (fun j hj => by have := HI.out.ql j hj; omega))
          clear htd HTK k0 k1 k2 hmr
          go_wp2_with fail
          refine (HNX.out).mono ?_
          rintro e w5 ⟨qv5, q5, c5, hl5, ht5, hres⟩
          clear HNX
          have HMK1 : Hid (decide (a'.mark < 1) = false) := by
            show _ = _
            have := HTD.out.mark
            have := HTD.out.tm.1
            have := HI.out.t0
            simp
            omega
          rcases hres with ⟨j, x, l, hj, hem, hq, rfl, rfl, rfl⟩ | ⟨hem, rfl, hq5, hc5⟩
          · obtain ⟨e1, e2, e3, e4, e5, _⟩ := HTD.out.first hj hem hq
            rw [← e1] at hl5 hq ⊢
            rw [← e4, ← e5] at hl5
            have hkk : kk < n := by rw [e1]; exact Nat.mod_lt _ (by omega)
            obtain ⟨hI5, hact, hract⟩ := HI.out.next hn8.2 HTD.out hl5 ht5 (fun y hy => by
              rw [e5]
              by_cases e : y = kk
              · subst e
                rw [upd_same]
                have := HI.out.ql y hy
                rw [hq] at this
                simp at this
                omega
              · rw [upd_other _ e]
                exact HI.out.ql y hy)
            have HI5 := Lib.hid hI5
            have cw : w5.cell? ⟨wb, 2, none⟩ = some (.pointer (some ⟨lb, 0, none⟩)) := hI5.at_.row.cell (i := 2) (by omega)
            have HOK := lact_Ok hact hract
            have HVA := lact_Value hact hract
            have HFR := lact_From hact hract
            have HMA := Lib.hid (lact_Mark hact hract)
            rw [e2] at HOK
            rw [if_pos e2, e3] at HVA
            rw [if_pos e2] at HFR
            have HOK := Lib.hid HOK
            have HVA := Lib.hid HVA
            have HFR := Lib.hid HFR
            have HLN := Lib.hid (lane_Len hI5.at_.lane hI5.at_.rings hI5.que)
            have hs1 : sumL q4 n + 1 = SM := by
              have := (sumL_upd (q := q) (k := kk) (l := l) n).1 hkk
              rw [hq] at this
              simp at this
              rw [e5, HSM.out]
              omega
            have f1 : decide (0 ≤ (kk : Int)) = true := by simp
            have f2 : decide ((kk : Int) < 0) = false := by simp
            have f3 := HMK1.out
            obtain ⟨N4, hN4⟩ : ∃ s, s = sumL q4 n := ⟨_, rfl⟩
            rw [← hN4] at hs1 HLN
            have HN4 := Lib.hid hN4
            have hSM1 : SM = N4 + 1 := by omega
            subst hSM1
            clear hN4 hl5 ht5 hem hq e1 e2 e3 e4 e5 hact hract hI5 HTD HMK1 hs1
            generalize a'.mark = mk at *
            go_wp2_with (first
              | (go_at_call 36; (with_reducible refine Calls.mono HOK.out ?_); rintro e wq ⟨rfl, rfl⟩)
              | (go_at_call 37; (with_reducible refine Calls.mono HVA.out ?_); rintro e wq ⟨rfl, rfl⟩)
              | (go_at_call 38; (with_reducible refine Calls.mono HFR.out ?_); rintro e wq ⟨rfl, rfl⟩)
              | (go_at_call 39; (with_reducible refine Calls.mono HMA.out ?_); rintro e wq ⟨rfl, rfl⟩)
              | (go_at_call 41; (with_reducible refine Calls.mono HLN.out ?_); rintro e wq ⟨rfl, nq, rfl⟩)
              | fail)
            go_roundw
            case rel => exact ⟨i + 1, q4, by omega, by go_num, by rw [← HN4.out], _, _, _, _, _, _, HI5.out.below (below_drewN (Below.refl _ _) _)⟩
            case measure => simp [intOf]; omega
          · obtain ⟨e2, e4, e5, _⟩ := HTD.out.none hem
            rw [hc5, hq5, ← e4, ← e5] at hl5
            obtain ⟨hI5, hact, hract⟩ := HI.out.next hn8.2 HTD.out hl5 ht5 (fun y hy => by rw [e5]; exact HI.out.ql y hy)
            have HI5 := Lib.hid hI5
            have cw : w5.cell? ⟨wb, 2, none⟩ = some (.pointer (some ⟨lb, 0, none⟩)) := hI5.at_.row.cell (i := 2) (by omega)
            have HOK := lact_Ok hact hract
            have HVA := lact_Value hact hract
            have HFR := lact_From hact hract
            have HMA := Lib.hid (lact_Mark hact hract)
            rw [e2] at HOK
            rw [if_neg (by rw [e2]; simp)] at HVA HFR
            have HOK := Lib.hid HOK
            have HVA := Lib.hid HVA
            have HFR := Lib.hid HFR
            have HLN := Lib.hid (lane_Len hI5.at_.lane hI5.at_.rings hI5.que)
            have f3 := HMK1.out
            have HN4 : Hid (SM = sumL q4 n) := by show _ = _; rw [e5]; exact HSM.out
            rw [← HN4.out] at HLN
            clear hl5 ht5 hem e2 e4 e5 hact hract hI5 HTD HMK1 hc5 hq5
            generalize a'.mark = mk at *
            go_wp2_with (first
              | (go_at_call 36; (with_reducible refine Calls.mono HOK.out ?_); rintro e wq ⟨rfl, rfl⟩)
              | (go_at_call 37; (with_reducible refine Calls.mono HVA.out ?_); rintro e wq ⟨rfl, rfl⟩)
              | (go_at_call 38; (with_reducible refine Calls.mono HFR.out ?_); rintro e wq ⟨rfl, rfl⟩)
              | (go_at_call 39; (with_reducible refine Calls.mono HMA.out ?_); rintro e wq ⟨rfl, rfl⟩)
              | (go_at_call 41; (with_reducible refine Calls.mono HLN.out ?_); rintro e wq ⟨rfl, nq, rfl⟩)
              | fail)
            go_roundw
            case rel => exact ⟨i + 1, q4, by omega, by go_num, by rw [← HN4.out], _, _, _, _, _, _, HI5.out.below (below_drewN (Below.refl _ _) _)⟩
            case measure => simp [intOf]; omega
      · have d1 : decide (i < jn) = true := by simp; omega
        have d2 : decide ((i : Int) < 200) = false := by simp; omega
        have HB := Lib.hid HI.out.bel
        clear HI
        go_wp2
        go_ret
        exact ⟨by first | rfl | (simp; done), HB.out⟩
    · have d1 : decide (i < jn) = false := by simp; omega
      have HB := Lib.hid HI.out.bel
      clear HI
      go_wp2
      go_ret
      exact ⟨by first | rfl | (simp; done), HB.out⟩

set_option maxRecDepth 100000 in
/-- What the walk gives, for every argument: the row's own words. -/
theorem contract (H : Type) (enc : TypeId × Value → H) (W : World) (base : Nat) (args : Array Value) (ds gs : List (DataW H)) (before : List MemPlace)
    (hval : ∀ (j : Nat) t v, Try.f7.params[j]? = some t → args[j]? = some v → Value.okWide Try.prog W .any base t v)
    (hW : DataW.Whole enc Try.prog Try.f7.params.toList Rows.laneAloneSpec.vars false W args.toList ds gs before) :
    Calls Try.prog 7 args W fun e W' => ∃ v, e = .returned v ∧ Rows.laneAloneSpec.post enc Try.prog Try.f7 false true false false W args v W' := by
  have hW' := hW
  obtain ⟨p, q, hA0, hV, rfl, hfz, hnd⟩ := hW
  have hA : DataW.TrodAll enc Try.prog W 0 (fun _ => true) true Try.f7.params.toList args.toList ds p := hA0
  rw [Try.params7] at hA hval
  obtain ⟨v0, vs0, d0, ds0, p0, q0, hargs, rfl, rfl, h0, r0⟩ := trodAll_cons hA
  obtain ⟨v1, vs1, d1, ds1, p1, q1, rfl, rfl, rfl, h1, r1⟩ := trodAll_cons r0
  obtain ⟨v2, vs2, d2, ds2, p2, q2, rfl, rfl, rfl, h2, r2⟩ := trodAll_cons r1
  obtain ⟨rfl, rfl, rfl⟩ := trodAll_nil r2
  obtain rfl : args = #[v0, v1, v2] := by cases args; simp_all
  obtain ⟨a0, rfl, b0⟩ := open_i64 Try.underlying3 (hval 0 3 v0 rfl rfl) h0
  obtain ⟨a1, rfl, b1⟩ := open_i64 Try.underlying3 (hval 1 3 v1 rfl rfl) h1
  have b2 := open_jobs15 Try.underlying58 Try.underlying66 (by kernel_rfl) (by kernel_rfl) (by kernel_rfl) (by kernel_rfl) (by kernel_rfl) (hval 2 58 v2 rfl rfl) h2
  refine (walk W a0 b0 a1 b1 v2 b2).mono fun e W' ⟨he, hb⟩ => ?_
  subst he
  exact close_true (by kernel_rfl) Try.underlying4 (by kernel_rfl) (by kernel_rfl) rfl rfl hW' hb

set_option maxRecDepth 100000 in
theorem lifted (os : Os) (started : os.Started) (H : Type) (enc : TypeId × Value → H) :
    ReturnsInHanded {} Try.checked os 7 .any (Rows.laneAloneSpec.pre6 enc Try.prog Try.f7 Rows.laneAloneRow.domain false) (Rows.laneAloneSpec.post enc Try.prog Try.f7 false true false false) := by
  refine returnsInHanded_of_change (C := Try.checked) own started (by kernel_rfl) Try.func7
    (ChangeSpec.witness6 (enc := enc) (C := Try.checked) false ⟨#[], #[.int .i64 0, .int .i64 0, .slice none 0 0], []⟩ 8 (by kernel_rfl) (by kernel_rfl) (by kernel_rfl) (by kernel_rfl)) ?_
  intro W base args ds gs before hval hW _ _
  exact contract H enc W base args ds gs before hval hW

theorem proved : Rows.LaneAloneSaid :=
  OpenClaim.holds_of_wide 7 Try.f7 rfl rfl rfl rfl rfl rfl rfl ⟨rfl, rfl, rfl, rfl, rfl⟩ rfl rfl rfl rfl rfl (by kernel_rfl) Try.func7 (by kernel_rfl)
    (of_decide_eq_true (by kernel_rfl)) (by unfold Func.isWrapper; first | (rw [if_pos (by decide +kernel)]; kernel_rfl) | (rw [if_neg (by decide +kernel)]; exact ⟨rfl, rfl⟩))
    (fun os started H enc _ => lifted os started H enc)
#print axioms proved
end Go.Proofs.Ytjbdmifcdgllcaa.laneAlone
