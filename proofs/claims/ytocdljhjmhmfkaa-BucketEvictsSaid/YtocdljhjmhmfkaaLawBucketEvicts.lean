/-
  Of a full bucket of learned entries the one that was seen longest ago goes, the first one of several; each other one stays where it is. No condition.
-/
import Derived.Test.YtocdljhjmhmfkaaRows
import Derived.Test.YtocdljhjmhmfkaaBuK
import Derived.Test.YtocdljhjmhmfkaaBuL
import Derived.Test.YtocdljhjmhmfkaaBuM
import Derived.Test.YtocdljhjmhmfkaaBuO
import Derived.Test.YtocdljhjmhmfkaaBuP
import Derived.Test.YtocdljhjmhmfkaaOpenBu
import Derived.Test.YtocdljhjmhmfkaaBuQ
import Derived.WalkKit
import Derived.ProofKit
import Derived.OpenShut
namespace Go.Proofs.Ytocdljhjmhmfkaa.bucketEvicts
open Go.ChangeShapes Go.WideShapes Go.ChangeAt Go.RowKit
open Go.ChangeMaps (open_string)
set_option linter.unusedVariables false

theorem own : ownKnob Try.prog.godebug = none := by kernel_rfl

set_option maxRecDepth 20000 in
set_option maxHeartbeats 25600000 in
theorem walk (W : World) (a0 : Value) (l0 : List Nat) (b0 : Sl W W.heap.size 1 a0 l0.length (uv l0)) (c0 : ∀ x ∈ l0, x < 4294967296) (a1 : Int) (e1 : Nat) (b1 : -9223372036854775808 ≤ a1 ∧ a1 ≤ 9223372036854775807) (c1 : e1 < 18446744073709551616) (a2 : Nat) (b2 : a2 < 4294967296) :
    Calls Try.prog 7 #[a0, .agg #[.int .i64 a1, .int .u64 (e1 : Int)], .int .u32 (a2 : Int)] W (Says (.bool true) W) := by
  obtain ⟨A, cap, rfl, h1, h2⟩ := b0.form
  obtain ⟨n0, hn0⟩ : ∃ n0, n0 = l0.length := ⟨_, rfl⟩
  obtain ⟨S, hS⟩ : ∃ S : Nat → Nat, S = fun i => l0.getD i 0 := ⟨_, rfl⟩
  rw [← hn0] at h1 b0 ⊢
  have HST : Hid (0 < n0 → ∃ b off, A = some ⟨b, off, none⟩ ∧ b < W.heap.size ∧ ∀ i, i < n0 → W.cell? ⟨b, off + i, none⟩ = some (.int .u32 (S i : Nat))) := fun hp => by
    obtain ⟨b, off, cap', hv, _, _, hbb, _, hc⟩ := b0.wordAt hp
    injection hv with q1 q2 q3
    exact ⟨b, off, q1, hbb, fun i hi => by rw [hS]; exact hc i hi⟩
  obtain ⟨M, hM⟩ : ∃ M, M = fixM e1 := ⟨_, rfl⟩
  have HR9 : Hid (rightK 9 M = true) := by
    have h := fix_right 0 e1
    rw [← hM] at h
    obtain ⟨_, _, q⟩ := rightK_iff.1 h
    exact rightK_iff.2 ⟨by decide, by decide, q⟩
  have HML : Hid (M < 18446744073709551616) := by have := fixM_lt e1; rw [hM]; show _ < _; omega
  have HF8 := Lib.hid fun w => ref8_Fix a1 e1 c1 w
  rw [← hM] at HF8
  have HT8 := Lib.hid fun w => law8_To 9 (M : Int) w
  have HSL : Hid (∀ i, S i < 4294967296) := fun i => by rw [hS]; exact word_lt c0 i
  have HOL : Hid (∀ N w, N ≤ n0 → Below W.heap.size W w → Calls Try.prog 34 #[.int .u32 (a2 : Int), .slice A N cap] w (Quiet (.int .i64 (bestI (fun i => ageN a2 (S i)) N)) w)) := fun N w hN hb => by
    have hsl := (b0.cutTo hN).below hb
    rw [Nat.mul_one, uv_take] at hsl
    have := ref4_Oldest (l := l0.take N) (fun x hx => c0 x (List.mem_of_mem_take hx)) b2 hsl
    have e : oldestN a2 (l0.take N) N = bestI (fun i => ageN a2 (S i)) N := by
      unfold oldestN ageAt
      refine bestI_congr N fun i hi => ?_
      rw [hS]
      simp [List.getD_eq_getElem?_getD, List.getElem?_take, hi]
    rw [e] at this
    exact this
  have HST0 := Lib.hid b2
  have HL0 := Lib.hid fun N (hN : N ≤ 1000000) w v (h : PlRow w w.heap.size v N (fullF S)) => bucket_Learn hN h (Nat.le_refl _) (fun i _ => HSL.out i) 9 M HML.out 5 a2 HST0.out
  unfold maxLen at h2
  clear c0 hS hM b1 b2 hn0
  clear b0
  rcases (show n0 = 0 ∨ (0 < n0 ∧ n0 ≤ 8) ∨ 8 < n0 by omega) with hn | ⟨hn, hn8⟩ | hn
  · subst hn
    have HN : Hid (0 ≤ 1000000) := by show 0 ≤ _; omega
    have HL1 := Lib.hid (HL0.out 0 HN.out)
    have hput : putF (fun i => ownP (fullF S i)) ⟨9, M, 5, false, a2⟩ a2 0 = (fun i => ownP (fullF S i), 5) := putF_none (rightE_iff.2 ⟨HR9.out, show (0 : Int) ≤ 5 by decide, show (5 : Int) < 64 by decide, by simp⟩) (by show (-1 : Int) < 0; decide) (by simp [roomF, firstI, bestF])
    rw [hput] at HL1
    clear hput HL0 HOL
    go_enter Try.func7, Try.ntmps7
    go_wp2_with fail
    refine Calls.mono (HF8.out _) ?_
    intro e w1 hpost
    obtain ⟨rfl, hb⟩ := hpost
    have HB1 : Hid (Below W.heap.size W w1) := Below.trans ((Below.refl _ _).alloc (Nat.le_refl _) _) (hb.mono (by simp))
    have hz1 : W.heap.size + 1 ≤ w1.heap.size := by have := hb.size; simpa using this
    have k0 : w1.cell? ⟨W.heap.size, 0, none⟩ = some (.int .i64 a1) := by rw [(bcell hb).1 _ _ (by simp)]; simp [go_sem]
    have k1 : w1.cell? ⟨W.heap.size, 1, none⟩ = some (.int .u64 (e1 : Int)) := by rw [(bcell hb).1 _ _ (by simp)]; simp [go_sem]
    have kf : ∀ o, w1.frozen? ⟨W.heap.size, o, none⟩ = false := fun o => by rw [(bcell hb).2 _ _ (by simp)]; simp [go_sem]
    clear hb HF8
    obtain ⟨w2, hw2⟩ : ∃ w2, w2 = (((w1.setCell ⟨W.heap.size, 0, none⟩ (.int .i64 (fixV a1))).setCell ⟨W.heap.size, 1, none⟩ (.int .u64 (M : Int))).setCell ⟨W.heap.size, 0, none⟩ (.int .i64 9)) := ⟨_, rfl⟩
    have HB : Hid (Below W.heap.size W w2) := by rw [hw2]; exact ((HB1.out.setCell (Nat.le_refl _) _).setCell (Nat.le_refl _) _).setCell (Nat.le_refl _) _
    have hz : W.heap.size + 1 ≤ w2.heap.size := by rw [hw2]; simpa using hz1
    have s0 : w2.cell? ⟨W.heap.size, 0, none⟩ = some (.int .i64 9) := by rw [hw2]; simp [go_sem, k0, k1]
    have s1 : w2.cell? ⟨W.heap.size, 1, none⟩ = some (.int .u64 (M : Int)) := by rw [hw2]; simp [go_sem, k0, k1]
    go_wp2
    rw [← hw2]
    clear hw2 k0 k1 kf HB1 hz1
    go_loopw [8, 9] (fun out i wr => ∃ k : Nat, k ≤ 0 ∧ i = .int .i64 k ∧ Hid (wr.ownsRow w2.heap.size 74 6 out k (plc (listP (fullF S) k))) ∧ Hid (Below w2.heap.size w2 wr)) (fun _ i _ => 0 - (intOf i).toNat)
    case atStart => exact ⟨0, by omega, rfl, ⟨by simp [plc, listP], .inl ⟨rfl, rfl⟩⟩, Below.refl _ _⟩
    case round =>
      obtain ⟨k, hk, rfl, HO, HBL⟩ := hrel
      have hzw := HBL.out.size
      by_cases hlt : k < 0
      · omega
      · have : 0 = k := by omega
        subst this
        have RL : Hid (RowOf wr 74 w2.heap.size _ 0 (fullF S)) := RowOf.of_own HO.out
        have s0 := (HBL.out.cell (p := ⟨W.heap.size, 0, none⟩) (by show W.heap.size < _; omega)).trans s0
        have s1 := (HBL.out.cell (p := ⟨W.heap.size, 1, none⟩) (by show W.heap.size < _; omega)).trans s1
        have HB : Hid (Below W.heap.size W wr) := HB.out.trans (HBL.out.mono (by omega))
        have hz := Nat.le_trans hz hzw
        clear HO HBL hlt
        go_wp2_with fail
        refine wp_region_held_drew (S := fun w' => w'.cell? ⟨W.heap.size, 0, none⟩ = some (.int .i64 9) ∧ w'.cell? ⟨W.heap.size, 1, none⟩ = some (.int .u64 (M : Int))) (by kernel_rfl) ?_ (fun hHeld => ?_)
        · exact ⟨s0, s1⟩
        refine wpAnyH_take (i := 0) (oi := { dst := some 42, op := Go.Op.move (Go.Operand.tmp 8), type := 22, pos := "law.go:138", after := #[], guard := none }) (v := ?_) rfl (by kernel_rfl) (by kernel_rfl) (by kernel_rfl) (fun _ _ _ h => h) (Or.inl ⟨by rfl, ?_⟩) (by assumption) ?_
        rotate_left
        · intro w hSw
          (try dsimp only at hSw)
          go_simp
          try with_reducible rfl
        (try simp only [Act.put, List.setIfInBounds_toArray, List.set_cons_zero, List.set_cons_succ])
        refine wpAnyH_take (i := 2) (oi := { dst := some 44, op := Go.Op.load 25 (Go.Operand.tmp 4), type := 25, pos := "law.go:138", after := #[], guard := none }) (v := ?_) rfl (by kernel_rfl) (by kernel_rfl) (by kernel_rfl) (fun _ _ _ h => h) (Or.inl ⟨by rfl, ?_⟩) (by assumption) ?_
        rotate_left
        · intro w hSw
          (try dsimp only at hSw)
          go_simp
          try with_reducible rfl
        (try simp only [Act.put, List.setIfInBounds_toArray, List.set_cons_zero, List.set_cons_succ])
        refine wpAnyH_take (i := 4) (oi := { dst := some 46, op := Go.Op.move (Go.Operand.tmp 2), type := 26, pos := "law.go:138", after := #[], guard := none }) (v := ?_) rfl (by kernel_rfl) (by kernel_rfl) (by kernel_rfl) (fun _ _ _ h => h) (Or.inl ⟨by rfl, ?_⟩) (by assumption) ?_
        rotate_left
        · intro w hSw
          (try dsimp only at hSw)
          go_simp
          try with_reducible rfl
        (try simp only [Act.put, List.setIfInBounds_toArray, List.set_cons_zero, List.set_cons_succ])
        refine wpAnyH_ready (rs := [1]) (by kernel_rfl) (by simp) ?_
        refine AllReadyH.cons (o := { dst := some 43, op := Go.Op.call { callee := Go.Callee.value (Go.Operand.func 15), args := #[Go.Operand.tmp 42], argTypes := #[22] }, type := 30, pos := "law.go:138", after := #[{ on := 0, ground := Go.Ground.data }], guard := none }) rfl (fun K hK => ?_) AllReadyH.nil
        go_simp
        refine Calls.mono (law10_To HN.out (RL.out.row.below (by (repeat' (first | (with_reducible exact Below.refl _ _) | (with_reducible assumption) | (with_reducible refine Below.setCell ?_ ?_ _) | (with_reducible refine Below.alloc ?_ ?_ _) | (with_reducible refine below_drewN ?_ _) | (with_reducible refine Below.drew ?_) | go_size)))) (Nat.le_refl _)) ?_
        intro e w3 hpost
        obtain ⟨vo, he, hro, hb⟩ := hpost
        (try simp only [id] at he)
        subst he
        have hbd : Below wr.heap.size wr w3 := ((Below.refl wr.heap.size wr).drew).trans hb
        have HB := Lib.hid (HB.out.trans (hbd.mono (by omega)))
        have hz := Nat.le_trans hz hbd.size
        have RL := Lib.hid (RL.out.below hbd)
        have RO := Lib.hid hro
        clear hbd
        refine hK.out _ _ ?_ (fun hHeld => ?_)
        · (try dsimp only)
          obtain ⟨s0, s1⟩ := hHeld
          obtain ⟨hcc, _⟩ := bcell hb
          exact ⟨(hcc _ _ (by go_size)).trans s0, (hcc _ _ (by go_size)).trans s1⟩
        clear hK K
        (try simp only [Act.put, List.setIfInBounds_toArray, List.set_cons_zero, List.set_cons_succ])
        refine wpAnyH_ready (rs := [3]) (by kernel_rfl) (by simp) ?_
        refine AllReadyH.cons (o := { dst := some 45, op := Go.Op.call { callee := Go.Callee.value (Go.Operand.func 17), args := #[Go.Operand.tmp 44], argTypes := #[25] }, type := 36, pos := "law.go:138", after := #[{ on := 2, ground := Go.Ground.data }, { on := 1, ground := Go.Ground.chain }], guard := none }) rfl (fun K hK => ?_) AllReadyH.nil
        go_simp
        refine Calls.mono (HT8.out _) ?_
        intro e w4 hpost
        obtain ⟨rfl, hb⟩ := hpost
        have hbd : Below w3.heap.size w3 w4 := hb
        have HB := Lib.hid (HB.out.trans (hbd.mono (by omega)))
        have hz := Nat.le_trans hz hbd.size
        have RL := Lib.hid (RL.out.below hbd)
        have RO := Lib.hid (RO.out.below hbd)
        clear hbd
        refine hK.out _ _ ?_ (fun hHeld => ?_)
        · (try dsimp only)
          obtain ⟨s0, s1⟩ := hHeld
          obtain ⟨hcc, _⟩ := bcell hb
          exact ⟨(hcc _ _ (by go_size)).trans s0, (hcc _ _ (by go_size)).trans s1⟩
        clear hK K
        (try simp only [Act.put, List.setIfInBounds_toArray, List.set_cons_zero, List.set_cons_succ])
        refine wpAnyH_ready (rs := [5]) (by kernel_rfl) (by simp) ?_
        refine AllReadyH.cons (o := { dst := some 47, op := Go.Op.call { callee := Go.Callee.value (Go.Operand.func 16), args := #[Go.Operand.tmp 43, Go.Operand.tmp 45, Go.Operand.const (Go.Value.int Go.IntKind.i64 5), Go.Operand.tmp 46], argTypes := #[30, 36, 3, 26] }, type := 32, pos := "law.go:138", after := #[{ on := 1, ground := Go.Ground.data }, { on := 3, ground := Go.Ground.data }, { on := 4, ground := Go.Ground.data }, { on := 3, ground := Go.Ground.chain }], guard := none }) rfl (fun K hK => ?_) AllReadyH.nil
        go_simp
        refine Calls.mono (HL1.out _ _ RO.out.row) ?_
        intro e w5 hpost
        obtain ⟨va, he, hra, hb⟩ := hpost
        (try simp only [id] at he)
        subst he
        have hbd : Below w4.heap.size w4 w5 := hb
        have HB := Lib.hid (HB.out.trans (hbd.mono (by omega)))
        have hz := Nat.le_trans hz hbd.size
        have RL := Lib.hid (RL.out.below hbd)
        have RA := Lib.hid hra
        clear hbd
        refine hK.out _ _ ?_ (fun hHeld => ?_)
        · (try dsimp only)
          obtain ⟨s0, s1⟩ := hHeld
          obtain ⟨hcc, _⟩ := bcell hb
          exact ⟨(hcc _ _ (by go_size)).trans s0, (hcc _ _ (by go_size)).trans s1⟩
        clear hK K
        (try simp only [Act.put, List.setIfInBounds_toArray, List.set_cons_zero, List.set_cons_succ])
        refine wpAnyH_take (i := 6) (oi := { dst := some 41, op := Go.Op.move (Go.Operand.tmp 47), type := 32, pos := "law.go:138", after := #[{ on := 5, ground := Go.Ground.data }], guard := none }) (v := ?_) rfl (by kernel_rfl) (by kernel_rfl) (by kernel_rfl) (fun _ _ _ h => h) (Or.inl ⟨by rfl, ?_⟩) (by assumption) ?_
        rotate_left
        · intro w hSw
          (try dsimp only at hSw)
          go_simp
          try with_reducible rfl
        (try simp only [Act.put, List.setIfInBounds_toArray, List.set_cons_zero, List.set_cons_succ])
        refine wpAnyH_take (i := 7) (oi := { dst := some 48, op := Go.Op.extract (Go.Operand.tmp 41) 0, type := 30, pos := "law.go:138", after := #[{ on := 6, ground := Go.Ground.data }], guard := none }) (v := ?_) rfl (by kernel_rfl) (by kernel_rfl) (by kernel_rfl) (fun _ _ _ h => h) (Or.inl ⟨by rfl, ?_⟩) (by assumption) ?_
        rotate_left
        · intro w hSw
          (try dsimp only at hSw)
          go_simp
          try with_reducible rfl
        (try simp only [Act.put, List.setIfInBounds_toArray, List.set_cons_zero, List.set_cons_succ])
        refine wpAnyH_take (i := 8) (oi := { dst := some 49, op := Go.Op.extract (Go.Operand.tmp 41) 1, type := 3, pos := "law.go:138", after := #[{ on := 6, ground := Go.Ground.data }, { on := 9, ground := Go.Ground.gcOnly Go.Departure.lateStores }], guard := none }) (v := ?_) rfl (by kernel_rfl) (by kernel_rfl) (by kernel_rfl) (fun _ _ _ h => h) (Or.inl ⟨by rfl, ?_⟩) (by assumption) ?_
        rotate_left
        · intro w hSw
          (try dsimp only at hSw)
          go_simp
          try with_reducible rfl
        (try simp only [Act.put, List.setIfInBounds_toArray, List.set_cons_zero, List.set_cons_succ])
        refine wpAnyH_take (i := 9) (oi := { dst := some 10, op := Go.Op.assign (Go.Operand.tmp 48), type := 30, pos := "law.go:138", after := #[{ on := 7, ground := Go.Ground.data }, { on := 5, ground := Go.Ground.chain }, { on := 0, ground := Go.Ground.phase }, { on := 1, ground := Go.Ground.phase }, { on := 2, ground := Go.Ground.phase }, { on := 3, ground := Go.Ground.phase }, { on := 4, ground := Go.Ground.phase }, { on := 5, ground := Go.Ground.phase }, { on := 6, ground := Go.Ground.phase }, { on := 7, ground := Go.Ground.phase }, { on := 8, ground := Go.Ground.textOnly Go.Departure.lateStores }], guard := none }) (v := ?_) rfl (by kernel_rfl) (by kernel_rfl) (by kernel_rfl) (fun _ _ _ h => h) (Or.inl ⟨by rfl, ?_⟩) (by assumption) ?_
        rotate_left
        · intro w hSw
          (try dsimp only at hSw)
          go_simp
          try with_reducible rfl
        (try simp only [Act.put, List.setIfInBounds_toArray, List.set_cons_zero, List.set_cons_succ])
        refine wpAnyH_take (i := 10) (oi := { dst := some 11, op := Go.Op.assign (Go.Operand.tmp 49), type := 3, pos := "law.go:138", after := #[{ on := 8, ground := Go.Ground.data }, { on := 9, ground := Go.Ground.chain }, { on := 0, ground := Go.Ground.phase }, { on := 1, ground := Go.Ground.phase }, { on := 2, ground := Go.Ground.phase }, { on := 3, ground := Go.Ground.phase }, { on := 4, ground := Go.Ground.phase }, { on := 5, ground := Go.Ground.phase }, { on := 6, ground := Go.Ground.phase }, { on := 7, ground := Go.Ground.phase }, { on := 8, ground := Go.Ground.phase }, { on := 9, ground := Go.Ground.phase }], guard := none }) (v := ?_) rfl (by kernel_rfl) (by kernel_rfl) (by kernel_rfl) (fun _ _ _ h => h) (Or.inl ⟨by rfl, ?_⟩) (by assumption) ?_
        rotate_left
        · intro w hSw
          (try dsimp only at hSw)
          go_simp
          try with_reducible rfl
        (try simp only [Act.put, List.setIfInBounds_toArray, List.set_cons_zero, List.set_cons_succ])
        have hq := hHeld
        clear s0 s1
        obtain ⟨s0, s1⟩ := hq
        refine wpAnyH_done (by kernel_rfl) ?_ _
        clear RO hro hra HL1
        obtain ⟨Aa, capa, rfl, x1, x2, x3⟩ := RA.out.row
        clear x1 x2 x3 RA RL s0 s1
        go_wp2_with fail
        refine Calls.mono (told10 _) ?_
        intro e w6 hpost
        obtain ⟨rfl, hb⟩ := hpost
        have HB := Lib.hid (HB.out.trans (hb.mono (by omega)))
        have hz := Nat.le_trans hz hb.size
        clear hb
        go_wp2
        go_ret
        exact ⟨by simp, HB.out⟩
  · have hn8' : (n0 : Int) ≤ 8 := by omega
    have hn0' : ((n0 : Int) == 0) = false := by simp; omega
    have HN : Hid (n0 ≤ 1000000) := by show n0 ≤ _; omega
    have HL1 := Lib.hid (HL0.out n0 HN.out)
    obtain ⟨q0, hq0, hq1, hput⟩ := full_put (F := fullF S) (S := S) (n := n0) (m := M) (now := a2) (by omega) (fun i _ => rfl) HR9.out
    rw [hput] at HL1
    have HOLD := Lib.hid fun w h => HOL.out n0 w (by omega) h
    rw [hq1] at HOLD
    obtain ⟨r1, hr1⟩ : ∃ r1, r1 = updP (fun i => ownP (fullF S i)) q0 ⟨true, ⟨9, M, 5, false, a2⟩⟩ := ⟨_, rfl⟩
    have HPUT : Hid (∀ k, k < n0 → k ≠ q0 → r1 k = fullF S k) := fun k _ hk => by rw [hr1]; unfold updP; rw [if_neg hk]; rfl
    have HNEW : Hid (r1 q0 = ⟨true, ⟨9, M, 5, false, a2⟩⟩) := by rw [hr1]; show _ = _; unfold updP; rw [if_pos rfl]
    rw [← hr1] at HL1
    have HQ0 := Lib.hid hq0
    clear hput hr1 hq1 hq0 HL0 HOL
    go_enter Try.func7, Try.ntmps7
    go_wp2_with fail
    refine Calls.mono (HF8.out _) ?_
    intro e w1 hpost
    obtain ⟨rfl, hb⟩ := hpost
    have HB1 : Hid (Below W.heap.size W w1) := Below.trans ((Below.refl _ _).alloc (Nat.le_refl _) _) (hb.mono (by simp))
    have hz1 : W.heap.size + 1 ≤ w1.heap.size := by have := hb.size; simpa using this
    have k0 : w1.cell? ⟨W.heap.size, 0, none⟩ = some (.int .i64 a1) := by rw [(bcell hb).1 _ _ (by simp)]; simp [go_sem]
    have k1 : w1.cell? ⟨W.heap.size, 1, none⟩ = some (.int .u64 (e1 : Int)) := by rw [(bcell hb).1 _ _ (by simp)]; simp [go_sem]
    have kf : ∀ o, w1.frozen? ⟨W.heap.size, o, none⟩ = false := fun o => by rw [(bcell hb).2 _ _ (by simp)]; simp [go_sem]
    clear hb HF8
    obtain ⟨w2, hw2⟩ : ∃ w2, w2 = (((w1.setCell ⟨W.heap.size, 0, none⟩ (.int .i64 (fixV a1))).setCell ⟨W.heap.size, 1, none⟩ (.int .u64 (M : Int))).setCell ⟨W.heap.size, 0, none⟩ (.int .i64 9)) := ⟨_, rfl⟩
    have HB : Hid (Below W.heap.size W w2) := by rw [hw2]; exact ((HB1.out.setCell (Nat.le_refl _) _).setCell (Nat.le_refl _) _).setCell (Nat.le_refl _) _
    have hz : W.heap.size + 1 ≤ w2.heap.size := by rw [hw2]; simpa using hz1
    have s0 : w2.cell? ⟨W.heap.size, 0, none⟩ = some (.int .i64 9) := by rw [hw2]; simp [go_sem, k0, k1]
    have s1 : w2.cell? ⟨W.heap.size, 1, none⟩ = some (.int .u64 (M : Int)) := by rw [hw2]; simp [go_sem, k0, k1]
    go_wp2
    rw [← hw2]
    clear hw2 k0 k1 kf HB1 hz1
    go_loopw [8, 9] (fun out i wr => ∃ k : Nat, k ≤ n0 ∧ i = .int .i64 k ∧ Hid (wr.ownsRow w2.heap.size 74 6 out k (plc (listP (fullF S) k))) ∧ Hid (Below w2.heap.size w2 wr)) (fun _ i _ => n0 - (intOf i).toNat)
    case atStart => exact ⟨0, by omega, rfl, ⟨by simp [plc, listP], .inl ⟨rfl, rfl⟩⟩, Below.refl _ _⟩
    case round =>
      obtain ⟨k, hk, rfl, HO, HBL⟩ := hrel
      have hzw := HBL.out.size
      by_cases hlt : k < n0
      · obtain ⟨b, off, rfl, hb, hc⟩ := HST.out (by omega)
        have g0 : (0 : Int) ≤ (k : Int) := Int.natCast_nonneg _
        have g1 : (k : Int) < (n0 : Int) := by omega
        have g2 : (k : Int) < (n0 : Int) := by omega
        have cs : wr.cell? ⟨b, off + k, none⟩ = some (.int .u32 (S k : Nat)) := ((HBL.out.cell (p := ⟨b, off + k, none⟩) (by show b < _; omega)).trans (HB.out.cell (p := ⟨b, off + k, none⟩) (by show b < _; omega))).trans (hc k (by omega))
        have HX : Hid (∀ sk, S k = sk → plc (listP (fullF S) (k + 1)) = plc (listP (fullF S) k) ++ [.bool true, .int .i64 1, .int .u64 ((2 * k + 2 : Nat) : Int), .int .i64 (k : Int), .bool false, .int .u32 (sk : Int)]) := fun sk hsk => by
          rw [listP_succ, plc_append, plc_one1]
          simp [Pl.cells, fullF, hsk]
        obtain ⟨sk, hsk⟩ : ∃ sk, S k = sk := ⟨_, rfl⟩
        have HX := Lib.hid (HX.out sk hsk)
        rw [hsk] at cs
        clear hc hsk
        have e1' : wrap64 (2 * (k : Int)) = 2 * (k : Int) := IntWalk.wrap64_in _ (by omega)
        have e2' : wrap64 (2 * (k : Int) + 2) = 2 * (k : Int) + 2 := IntWalk.wrap64_in _ (by omega)
        have e3' : IntKind.u64.wrap (2 * (k : Int) + 2) = ((2 * k + 2 : Nat) : Int) := by rw [IntKind.wrap_u64]; omega
        go_wp2_with (first
          | (at_builtin; refine wpList_apv _ rfl stPlacesR _ _ rfl w2.heap.size _ k _ rfl (own_below HO.out ((Below.refl wr.heap.size wr).alloc (Nat.le_refl _) (.cells #[.bool true, .int .i64 1, .int .u64 ((2 * k + 2 : Nat) : Int), .int .i64 (k : Int), .bool false, .int .u32 (sk : Int)] 74))) _ _ 1 [.bool true, .int .i64 1, .int .u64 ((2 * k + 2 : Nat) : Int), .int .i64 (k : Int), .bool false, .int .u32 (sk : Int)] rfl (litN6g (w := wr) (g := wr.heap.size) #[.bool true, .int .i64 1, .int .u64 ((2 * k + 2 : Nat) : Int), .int .i64 (k : Int), .bool false, .int .u32 (sk : Int)] _ rfl rfl) (by simp [Value.oneCell']) (by omega) (by go_size) ?_; intro A2 c2 w9 hown2 hgr2 hat2 hbel2; clear hgr2 hat2))
        have HO2 : Hid (w9.ownsRow w2.heap.size 74 6 (.slice A2 (k + 1) c2) (k + 1) (plc (listP (fullF S) (k + 1)))) := by
          rw [HX.out]; exact hown2
        have HB2 : Hid (Below w2.heap.size w2 w9) := Below.trans (HBL.out.trans (Below.mono ((Below.refl wr.heap.size wr).alloc (Nat.le_refl _) _) hzw)) hbel2
        clear hown2 hbel2
        go_wp2
        go_roundw
        case rel => exact ⟨k + 1, by omega, by go_num, HO2.out, HB2.out⟩
        case measure => simp [intOf]; omega
      · have : n0 = k := by omega
        subst this
        have RL : Hid (RowOf wr 74 w2.heap.size _ n0 (fullF S)) := RowOf.of_own HO.out
        have s0 := (HBL.out.cell (p := ⟨W.heap.size, 0, none⟩) (by show W.heap.size < _; omega)).trans s0
        have s1 := (HBL.out.cell (p := ⟨W.heap.size, 1, none⟩) (by show W.heap.size < _; omega)).trans s1
        have HB : Hid (Below W.heap.size W wr) := HB.out.trans (HBL.out.mono (by omega))
        have hz := Nat.le_trans hz hzw
        clear HO HBL hlt
        go_wp2_with fail
        refine wp_region_held_drew (S := fun w' => w'.cell? ⟨W.heap.size, 0, none⟩ = some (.int .i64 9) ∧ w'.cell? ⟨W.heap.size, 1, none⟩ = some (.int .u64 (M : Int))) (by kernel_rfl) ?_ (fun hHeld => ?_)
        · exact ⟨s0, s1⟩
        refine wpAnyH_take (i := 0) (oi := { dst := some 42, op := Go.Op.move (Go.Operand.tmp 8), type := 22, pos := "law.go:138", after := #[], guard := none }) (v := ?_) rfl (by kernel_rfl) (by kernel_rfl) (by kernel_rfl) (fun _ _ _ h => h) (Or.inl ⟨by rfl, ?_⟩) (by assumption) ?_
        rotate_left
        · intro w hSw
          (try dsimp only at hSw)
          go_simp
          try with_reducible rfl
        (try simp only [Act.put, List.setIfInBounds_toArray, List.set_cons_zero, List.set_cons_succ])
        refine wpAnyH_take (i := 2) (oi := { dst := some 44, op := Go.Op.load 25 (Go.Operand.tmp 4), type := 25, pos := "law.go:138", after := #[], guard := none }) (v := ?_) rfl (by kernel_rfl) (by kernel_rfl) (by kernel_rfl) (fun _ _ _ h => h) (Or.inl ⟨by rfl, ?_⟩) (by assumption) ?_
        rotate_left
        · intro w hSw
          (try dsimp only at hSw)
          go_simp
          try with_reducible rfl
        (try simp only [Act.put, List.setIfInBounds_toArray, List.set_cons_zero, List.set_cons_succ])
        refine wpAnyH_take (i := 4) (oi := { dst := some 46, op := Go.Op.move (Go.Operand.tmp 2), type := 26, pos := "law.go:138", after := #[], guard := none }) (v := ?_) rfl (by kernel_rfl) (by kernel_rfl) (by kernel_rfl) (fun _ _ _ h => h) (Or.inl ⟨by rfl, ?_⟩) (by assumption) ?_
        rotate_left
        · intro w hSw
          (try dsimp only at hSw)
          go_simp
          try with_reducible rfl
        (try simp only [Act.put, List.setIfInBounds_toArray, List.set_cons_zero, List.set_cons_succ])
        refine wpAnyH_ready (rs := [1]) (by kernel_rfl) (by simp) ?_
        refine AllReadyH.cons (o := { dst := some 43, op := Go.Op.call { callee := Go.Callee.value (Go.Operand.func 15), args := #[Go.Operand.tmp 42], argTypes := #[22] }, type := 30, pos := "law.go:138", after := #[{ on := 0, ground := Go.Ground.data }], guard := none }) rfl (fun K hK => ?_) AllReadyH.nil
        go_simp
        refine Calls.mono (law10_To HN.out (RL.out.row.below (by (repeat' (first | (with_reducible exact Below.refl _ _) | (with_reducible assumption) | (with_reducible refine Below.setCell ?_ ?_ _) | (with_reducible refine Below.alloc ?_ ?_ _) | (with_reducible refine below_drewN ?_ _) | (with_reducible refine Below.drew ?_) | go_size)))) (Nat.le_refl _)) ?_
        intro e w3 hpost
        obtain ⟨vo, he, hro, hb⟩ := hpost
        (try simp only [id] at he)
        subst he
        have hbd : Below wr.heap.size wr w3 := ((Below.refl wr.heap.size wr).drew).trans hb
        have HB := Lib.hid (HB.out.trans (hbd.mono (by omega)))
        have hz := Nat.le_trans hz hbd.size
        have RL := Lib.hid (RL.out.below hbd)
        have RO := Lib.hid hro
        clear hbd
        refine hK.out _ _ ?_ (fun hHeld => ?_)
        · (try dsimp only)
          obtain ⟨s0, s1⟩ := hHeld
          obtain ⟨hcc, _⟩ := bcell hb
          exact ⟨(hcc _ _ (by go_size)).trans s0, (hcc _ _ (by go_size)).trans s1⟩
        clear hK K
        (try simp only [Act.put, List.setIfInBounds_toArray, List.set_cons_zero, List.set_cons_succ])
        refine wpAnyH_ready (rs := [3]) (by kernel_rfl) (by simp) ?_
        refine AllReadyH.cons (o := { dst := some 45, op := Go.Op.call { callee := Go.Callee.value (Go.Operand.func 17), args := #[Go.Operand.tmp 44], argTypes := #[25] }, type := 36, pos := "law.go:138", after := #[{ on := 2, ground := Go.Ground.data }, { on := 1, ground := Go.Ground.chain }], guard := none }) rfl (fun K hK => ?_) AllReadyH.nil
        go_simp
        refine Calls.mono (HT8.out _) ?_
        intro e w4 hpost
        obtain ⟨rfl, hb⟩ := hpost
        have hbd : Below w3.heap.size w3 w4 := hb
        have HB := Lib.hid (HB.out.trans (hbd.mono (by omega)))
        have hz := Nat.le_trans hz hbd.size
        have RL := Lib.hid (RL.out.below hbd)
        have RO := Lib.hid (RO.out.below hbd)
        clear hbd
        refine hK.out _ _ ?_ (fun hHeld => ?_)
        · (try dsimp only)
          obtain ⟨s0, s1⟩ := hHeld
          obtain ⟨hcc, _⟩ := bcell hb
          exact ⟨(hcc _ _ (by go_size)).trans s0, (hcc _ _ (by go_size)).trans s1⟩
        clear hK K
        (try simp only [Act.put, List.setIfInBounds_toArray, List.set_cons_zero, List.set_cons_succ])
        refine wpAnyH_ready (rs := [5]) (by kernel_rfl) (by simp) ?_
        refine AllReadyH.cons (o := { dst := some 47, op := Go.Op.call { callee := Go.Callee.value (Go.Operand.func 16), args := #[Go.Operand.tmp 43, Go.Operand.tmp 45, Go.Operand.const (Go.Value.int Go.IntKind.i64 5), Go.Operand.tmp 46], argTypes := #[30, 36, 3, 26] }, type := 32, pos := "law.go:138", after := #[{ on := 1, ground := Go.Ground.data }, { on := 3, ground := Go.Ground.data }, { on := 4, ground := Go.Ground.data }, { on := 3, ground := Go.Ground.chain }], guard := none }) rfl (fun K hK => ?_) AllReadyH.nil
        go_simp
        refine Calls.mono (HL1.out _ _ RO.out.row) ?_
        intro e w5 hpost
        obtain ⟨va, he, hra, hb⟩ := hpost
        (try simp only [id] at he)
        subst he
        have hbd : Below w4.heap.size w4 w5 := hb
        have HB := Lib.hid (HB.out.trans (hbd.mono (by omega)))
        have hz := Nat.le_trans hz hbd.size
        have RL := Lib.hid (RL.out.below hbd)
        have RA := Lib.hid hra
        clear hbd
        refine hK.out _ _ ?_ (fun hHeld => ?_)
        · (try dsimp only)
          obtain ⟨s0, s1⟩ := hHeld
          obtain ⟨hcc, _⟩ := bcell hb
          exact ⟨(hcc _ _ (by go_size)).trans s0, (hcc _ _ (by go_size)).trans s1⟩
        clear hK K
        (try simp only [Act.put, List.setIfInBounds_toArray, List.set_cons_zero, List.set_cons_succ])
        refine wpAnyH_take (i := 6) (oi := { dst := some 41, op := Go.Op.move (Go.Operand.tmp 47), type := 32, pos := "law.go:138", after := #[{ on := 5, ground := Go.Ground.data }], guard := none }) (v := ?_) rfl (by kernel_rfl) (by kernel_rfl) (by kernel_rfl) (fun _ _ _ h => h) (Or.inl ⟨by rfl, ?_⟩) (by assumption) ?_
        rotate_left
        · intro w hSw
          (try dsimp only at hSw)
          go_simp
          try with_reducible rfl
        (try simp only [Act.put, List.setIfInBounds_toArray, List.set_cons_zero, List.set_cons_succ])
        refine wpAnyH_take (i := 7) (oi := { dst := some 48, op := Go.Op.extract (Go.Operand.tmp 41) 0, type := 30, pos := "law.go:138", after := #[{ on := 6, ground := Go.Ground.data }], guard := none }) (v := ?_) rfl (by kernel_rfl) (by kernel_rfl) (by kernel_rfl) (fun _ _ _ h => h) (Or.inl ⟨by rfl, ?_⟩) (by assumption) ?_
        rotate_left
        · intro w hSw
          (try dsimp only at hSw)
          go_simp
          try with_reducible rfl
        (try simp only [Act.put, List.setIfInBounds_toArray, List.set_cons_zero, List.set_cons_succ])
        refine wpAnyH_take (i := 8) (oi := { dst := some 49, op := Go.Op.extract (Go.Operand.tmp 41) 1, type := 3, pos := "law.go:138", after := #[{ on := 6, ground := Go.Ground.data }, { on := 9, ground := Go.Ground.gcOnly Go.Departure.lateStores }], guard := none }) (v := ?_) rfl (by kernel_rfl) (by kernel_rfl) (by kernel_rfl) (fun _ _ _ h => h) (Or.inl ⟨by rfl, ?_⟩) (by assumption) ?_
        rotate_left
        · intro w hSw
          (try dsimp only at hSw)
          go_simp
          try with_reducible rfl
        (try simp only [Act.put, List.setIfInBounds_toArray, List.set_cons_zero, List.set_cons_succ])
        refine wpAnyH_take (i := 9) (oi := { dst := some 10, op := Go.Op.assign (Go.Operand.tmp 48), type := 30, pos := "law.go:138", after := #[{ on := 7, ground := Go.Ground.data }, { on := 5, ground := Go.Ground.chain }, { on := 0, ground := Go.Ground.phase }, { on := 1, ground := Go.Ground.phase }, { on := 2, ground := Go.Ground.phase }, { on := 3, ground := Go.Ground.phase }, { on := 4, ground := Go.Ground.phase }, { on := 5, ground := Go.Ground.phase }, { on := 6, ground := Go.Ground.phase }, { on := 7, ground := Go.Ground.phase }, { on := 8, ground := Go.Ground.textOnly Go.Departure.lateStores }], guard := none }) (v := ?_) rfl (by kernel_rfl) (by kernel_rfl) (by kernel_rfl) (fun _ _ _ h => h) (Or.inl ⟨by rfl, ?_⟩) (by assumption) ?_
        rotate_left
        · intro w hSw
          (try dsimp only at hSw)
          go_simp
          try with_reducible rfl
        (try simp only [Act.put, List.setIfInBounds_toArray, List.set_cons_zero, List.set_cons_succ])
        refine wpAnyH_take (i := 10) (oi := { dst := some 11, op := Go.Op.assign (Go.Operand.tmp 49), type := 3, pos := "law.go:138", after := #[{ on := 8, ground := Go.Ground.data }, { on := 9, ground := Go.Ground.chain }, { on := 0, ground := Go.Ground.phase }, { on := 1, ground := Go.Ground.phase }, { on := 2, ground := Go.Ground.phase }, { on := 3, ground := Go.Ground.phase }, { on := 4, ground := Go.Ground.phase }, { on := 5, ground := Go.Ground.phase }, { on := 6, ground := Go.Ground.phase }, { on := 7, ground := Go.Ground.phase }, { on := 8, ground := Go.Ground.phase }, { on := 9, ground := Go.Ground.phase }], guard := none }) (v := ?_) rfl (by kernel_rfl) (by kernel_rfl) (by kernel_rfl) (fun _ _ _ h => h) (Or.inl ⟨by rfl, ?_⟩) (by assumption) ?_
        rotate_left
        · intro w hSw
          (try dsimp only at hSw)
          go_simp
          try with_reducible rfl
        (try simp only [Act.put, List.setIfInBounds_toArray, List.set_cons_zero, List.set_cons_succ])
        have hq := hHeld
        clear s0 s1
        obtain ⟨s0, s1⟩ := hq
        refine wpAnyH_done (by kernel_rfl) ?_ _
        clear RO hro hra HL1
        go_wp2_with fail
        refine Calls.mono (HOLD.out _ HB.out) ?_
        intro e w6 hpost
        obtain ⟨rfl, hq6⟩ := hpost
        have hb : Below w5.heap.size w5 w6 := by obtain ⟨mo, rfl⟩ := hq6; exact below_drewN (Below.refl _ _) _
        clear hq6
        have RL := Lib.hid (RL.out.below hb)
        have RA := Lib.hid (RA.out.below hb)
        have s0 := ((bcell hb).1 W.heap.size 0 (by go_size)).trans s0
        have s1 := ((bcell hb).1 W.heap.size 1 (by go_size)).trans s1
        have HB := Lib.hid (HB.out.trans (hb.mono (by omega)))
        have hz := Nat.le_trans hz hb.size
        clear hb HOLD
        go_wp2_with fail
        refine Calls.mono (law10_From HN.out RA.out.row (Nat.le_refl _)) ?_
        intro e w7 hpost
        obtain ⟨vx, he, hrx, hb⟩ := hpost
        (try simp only [id] at he)
        subst he
        have RL := Lib.hid (RL.out.below hb)
        have s0 := ((bcell hb).1 W.heap.size 0 (by go_size)).trans s0
        have s1 := ((bcell hb).1 W.heap.size 1 (by go_size)).trans s1
        have HB := Lib.hid (HB.out.trans (hb.mono (by omega)))
        have hz := Nat.le_trans hz hb.size
        have RX := Lib.hid hrx
        clear hrx RA
        clear hb
        obtain ⟨Ax, capx, rfl, x1, x2, x3⟩ := RX.out.row
        obtain ⟨Al, capl, rfl, l1, l2, l3⟩ := RL.out.row
        have HC := Lib.hid x3
        have HD := Lib.hid l3
        unfold maxLen at x2 l2
        have hne : ((n0 : Int) != (n0 : Int)) = false := by simp
        clear x3 l3 RX RL
        go_wp2
        clear hne
        go_loopw [14] (fun i wr => ∃ k : Nat, k ≤ n0 ∧ i = .int .i64 k ∧ ∃ m, wr = w7.drewN m) (fun i _ => n0 - (intOf i).toNat)
        case atStart => exact ⟨0, by omega, rfl, 0, rfl⟩
        case round =>
          obtain ⟨k, hk, rfl, m, rfl⟩ := hrel
          obtain ⟨b, off, rfl, hb, hc⟩ := HC.out (by omega)
          obtain ⟨b2, off2, rfl, hb2, hc2⟩ := HD.out (by omega)
          by_cases hlt : k < n0
          · have g0 : (0 : Int) ≤ (k : Int) := Int.natCast_nonneg _
            have g1' : (k : Int) < (n0 : Int) := by omega
            have hcx := hc k hlt
            have hdx := hc2 k hlt
            by_cases hka : k = q0
            · have qn : ((k : Int) != (q0 : Int)) = false := by simp [hka]
              clear hc HC hc2 HD hcx hdx hka
              go_wp2_with fail
              refine wp_region_held_drew (S := fun w' => w'.cell? ⟨W.heap.size, 0, none⟩ = some (.int .i64 9)) (by kernel_rfl) ?_ (fun hHeld => ?_)
              · exact s0
              refine wpAnyH_take (i := 0) (oi := { dst := some 82, op := Go.Op.move (Go.Operand.tmp 14), type := 3, pos := "law.go:148", after := #[], guard := none }) (v := ?_) rfl (by kernel_rfl) (by kernel_rfl) (by kernel_rfl) (fun _ _ _ h => h) (Or.inl ⟨by rfl, ?_⟩) (by assumption) ?_
              rotate_left
              · intro w hSw
                (try dsimp only at hSw)
                go_simp
                try with_reducible rfl
              (try simp only [Act.put, List.setIfInBounds_toArray, List.set_cons_zero, List.set_cons_succ])
              refine wpAnyH_take (i := 1) (oi := { dst := some 83, op := Go.Op.move (Go.Operand.tmp 12), type := 3, pos := "law.go:148", after := #[], guard := none }) (v := ?_) rfl (by kernel_rfl) (by kernel_rfl) (by kernel_rfl) (fun _ _ _ h => h) (Or.inl ⟨by rfl, ?_⟩) (by assumption) ?_
              rotate_left
              · intro w hSw
                (try dsimp only at hSw)
                go_simp
                try with_reducible rfl
              (try simp only [Act.put, List.setIfInBounds_toArray, List.set_cons_zero, List.set_cons_succ])
              refine wpAnyH_take (i := 2) (oi := { dst := some 84, op := Go.Op.binOp Go.BinOp.neq 3 (Go.Operand.tmp 82) (Go.Operand.tmp 83) 3, type := 4, pos := "law.go:148", after := #[{ on := 0, ground := Go.Ground.data }, { on := 1, ground := Go.Ground.data }], guard := none }) (v := ?_) rfl (by kernel_rfl) (by kernel_rfl) (by kernel_rfl) (fun _ _ _ h => h) (Or.inl ⟨by rfl, ?_⟩) (by assumption) ?_
              rotate_left
              · intro w hSw
                (try dsimp only at hSw)
                go_simp
                try with_reducible rfl
              (try simp only [Act.put, List.setIfInBounds_toArray, List.set_cons_zero, List.set_cons_succ])
              refine wpAnyH_take (i := 3) (oi := { dst := some 85, op := Go.Op.move (Go.Operand.tmp 84), type := 4, pos := "law.go:148", after := #[{ on := 2, ground := Go.Ground.data }], guard := none }) (v := ?_) rfl (by kernel_rfl) (by kernel_rfl) (by kernel_rfl) (fun _ _ _ h => h) (Or.inl ⟨by rfl, ?_⟩) (by assumption) ?_
              rotate_left
              · intro w hSw
                (try dsimp only at hSw)
                go_simp
                try with_reducible rfl
              (try simp only [Act.put, List.setIfInBounds_toArray, List.set_cons_zero, List.set_cons_succ])
              refine wpAnyH_take (i := 4) (oi := { dst := some 86, op := Go.Op.move (Go.Operand.tmp 13), type := 22, pos := "law.go:148", after := #[{ on := 3, ground := Go.Ground.guard }], guard := some (3, true) }) (v := undef) rfl (by kernel_rfl) (by kernel_rfl) (by kernel_rfl) (fun _ _ _ h => h) (Or.inr ⟨by rfl, rfl⟩) (by assumption) ?_
              (try simp only [Act.put, List.setIfInBounds_toArray, List.set_cons_zero, List.set_cons_succ])
              refine wpAnyH_take (i := 5) (oi := { dst := some 87, op := Go.Op.move (Go.Operand.tmp 14), type := 3, pos := "law.go:148", after := #[{ on := 3, ground := Go.Ground.guard }], guard := some (3, true) }) (v := undef) rfl (by kernel_rfl) (by kernel_rfl) (by kernel_rfl) (fun _ _ _ h => h) (Or.inr ⟨by rfl, rfl⟩) (by assumption) ?_
              (try simp only [Act.put, List.setIfInBounds_toArray, List.set_cons_zero, List.set_cons_succ])
              refine wpAnyH_take (i := 6) (oi := { dst := some 88, op := Go.Op.indexAddr 22 (Go.Operand.tmp 86) (Go.Operand.tmp 87), type := 0, pos := "law.go:148", after := #[{ on := 4, ground := Go.Ground.data }, { on := 5, ground := Go.Ground.data }, { on := 3, ground := Go.Ground.guard }], guard := some (3, true) }) (v := undef) rfl (by kernel_rfl) (by kernel_rfl) (by kernel_rfl) (fun _ _ _ h => h) (Or.inr ⟨by rfl, rfl⟩) (by assumption) ?_
              (try simp only [Act.put, List.setIfInBounds_toArray, List.set_cons_zero, List.set_cons_succ])
              refine wpAnyH_take (i := 7) (oi := { dst := some 89, op := Go.Op.load 74 (Go.Operand.tmp 88), type := 74, pos := "law.go:148", after := #[{ on := 6, ground := Go.Ground.data }, { on := 3, ground := Go.Ground.guard }], guard := some (3, true) }) (v := undef) rfl (by kernel_rfl) (by kernel_rfl) (by kernel_rfl) (fun _ _ _ h => h) (Or.inr ⟨by rfl, rfl⟩) (by assumption) ?_
              (try simp only [Act.put, List.setIfInBounds_toArray, List.set_cons_zero, List.set_cons_succ])
              refine wpAnyH_take (i := 8) (oi := { dst := some 90, op := Go.Op.move (Go.Operand.tmp 8), type := 22, pos := "law.go:148", after := #[{ on := 3, ground := Go.Ground.guard }], guard := some (3, true) }) (v := undef) rfl (by kernel_rfl) (by kernel_rfl) (by kernel_rfl) (fun _ _ _ h => h) (Or.inr ⟨by rfl, rfl⟩) (by assumption) ?_
              (try simp only [Act.put, List.setIfInBounds_toArray, List.set_cons_zero, List.set_cons_succ])
              refine wpAnyH_take (i := 9) (oi := { dst := some 91, op := Go.Op.move (Go.Operand.tmp 14), type := 3, pos := "law.go:148", after := #[{ on := 3, ground := Go.Ground.guard }], guard := some (3, true) }) (v := undef) rfl (by kernel_rfl) (by kernel_rfl) (by kernel_rfl) (fun _ _ _ h => h) (Or.inr ⟨by rfl, rfl⟩) (by assumption) ?_
              (try simp only [Act.put, List.setIfInBounds_toArray, List.set_cons_zero, List.set_cons_succ])
              refine wpAnyH_take (i := 10) (oi := { dst := some 92, op := Go.Op.indexAddr 22 (Go.Operand.tmp 90) (Go.Operand.tmp 91), type := 0, pos := "law.go:148", after := #[{ on := 8, ground := Go.Ground.data }, { on := 9, ground := Go.Ground.data }, { on := 3, ground := Go.Ground.guard }], guard := some (3, true) }) (v := undef) rfl (by kernel_rfl) (by kernel_rfl) (by kernel_rfl) (fun _ _ _ h => h) (Or.inr ⟨by rfl, rfl⟩) (by assumption) ?_
              (try simp only [Act.put, List.setIfInBounds_toArray, List.set_cons_zero, List.set_cons_succ])
              refine wpAnyH_take (i := 11) (oi := { dst := some 93, op := Go.Op.load 74 (Go.Operand.tmp 92), type := 74, pos := "law.go:148", after := #[{ on := 10, ground := Go.Ground.data }, { on := 3, ground := Go.Ground.guard }], guard := some (3, true) }) (v := undef) rfl (by kernel_rfl) (by kernel_rfl) (by kernel_rfl) (fun _ _ _ h => h) (Or.inr ⟨by rfl, rfl⟩) (by assumption) ?_
              (try simp only [Act.put, List.setIfInBounds_toArray, List.set_cons_zero, List.set_cons_succ])
              refine wpAnyH_take (i := 12) (oi := { dst := some 94, op := Go.Op.binOp Go.BinOp.neq 74 (Go.Operand.tmp 89) (Go.Operand.tmp 93) 74, type := 4, pos := "law.go:148", after := #[{ on := 7, ground := Go.Ground.data }, { on := 11, ground := Go.Ground.data }, { on := 3, ground := Go.Ground.guard }], guard := some (3, true) }) (v := undef) rfl (by kernel_rfl) (by kernel_rfl) (by kernel_rfl) (fun _ _ _ h => h) (Or.inr ⟨by rfl, rfl⟩) (by assumption) ?_
              (try simp only [Act.put, List.setIfInBounds_toArray, List.set_cons_zero, List.set_cons_succ])
              refine wpAnyH_take (i := 13) (oi := { dst := some 95, op := Go.Op.pick (Go.Operand.tmp 85) (Go.Operand.tmp 94) (Go.Operand.const (Go.Value.bool false)), type := 4, pos := "law.go:148", after := #[{ on := 3, ground := Go.Ground.data }, { on := 12, ground := Go.Ground.data }], guard := none }) (v := ?_) rfl (by kernel_rfl) (by kernel_rfl) (by kernel_rfl) (fun _ _ _ h => h) (Or.inl ⟨by rfl, ?_⟩) (by assumption) ?_
              rotate_left
              · intro w hSw
                (try dsimp only at hSw)
                go_simp
                try with_reducible rfl
              (try simp only [Act.put, List.setIfInBounds_toArray, List.set_cons_zero, List.set_cons_succ])
              refine wpAnyH_done (by kernel_rfl) ?_ _
              go_wp2
              go_roundw
              case rel => exact ⟨k + 1, by omega, by go_num, _, (by first | rfl | exact World.drewN_drewN _ _ _)⟩
              case measure => simp [intOf]; omega
            · have qn : ((k : Int) != (q0 : Int)) = true := by simp; omega
              rw [HPUT.out k hlt hka] at hcx
              clear hc HC hc2 HD hka
              obtain ⟨sk, hsk⟩ : ∃ sk, S k = sk := ⟨_, rfl⟩
              unfold fullF at hcx hdx
              rw [hsk] at hcx hdx
              clear hsk
              obtain ⟨c0', c1', c2', c3', c4', c5'⟩ := hcx
              have c0 : (w7.drewN m).cell? ⟨b, off + k * 6, none⟩ = some (.bool true) := c0'
              have c1 : (w7.drewN m).cell? ⟨b, off + k * 6 + 1, none⟩ = some (.int .i64 1) := c1'
              have c2 : (w7.drewN m).cell? ⟨b, off + k * 6 + 2, none⟩ = some (.int .u64 ((2 * k + 2 : Nat) : Int)) := c2'
              have c3 : (w7.drewN m).cell? ⟨b, off + k * 6 + 3, none⟩ = some (.int .i64 (k : Int)) := c3'
              have c4 : (w7.drewN m).cell? ⟨b, off + k * 6 + 4, none⟩ = some (.bool false) := c4'
              have c5 : (w7.drewN m).cell? ⟨b, off + k * 6 + 5, none⟩ = some (.int .u32 (sk : Int)) := c5'
              clear c0' c1' c2' c3' c4' c5'
              obtain ⟨d0', d1', d2', d3', d4', d5'⟩ := hdx
              have d0 : (w7.drewN m).cell? ⟨b2, off2 + k * 6, none⟩ = some (.bool true) := d0'
              have d1 : (w7.drewN m).cell? ⟨b2, off2 + k * 6 + 1, none⟩ = some (.int .i64 1) := d1'
              have d2 : (w7.drewN m).cell? ⟨b2, off2 + k * 6 + 2, none⟩ = some (.int .u64 ((2 * k + 2 : Nat) : Int)) := d2'
              have d3 : (w7.drewN m).cell? ⟨b2, off2 + k * 6 + 3, none⟩ = some (.int .i64 (k : Int)) := d3'
              have d4 : (w7.drewN m).cell? ⟨b2, off2 + k * 6 + 4, none⟩ = some (.bool false) := d4'
              have d5 : (w7.drewN m).cell? ⟨b2, off2 + k * 6 + 5, none⟩ = some (.int .u32 (sk : Int)) := d5'
              clear d0' d1' d2' d3' d4' d5'
              go_wp2_with fail
              refine wp_region_held_drew (S := fun w' => w'.cell? ⟨b, off + k * 6, none⟩ = some (.bool true) ∧ w'.cell? ⟨b, off + k * 6 + 1, none⟩ = some (.int .i64 1) ∧ w'.cell? ⟨b, off + k * 6 + 2, none⟩ = some (.int .u64 ((2 * k + 2 : Nat) : Int)) ∧ w'.cell? ⟨b, off + k * 6 + 3, none⟩ = some (.int .i64 (k : Int)) ∧ w'.cell? ⟨b, off + k * 6 + 4, none⟩ = some (.bool false) ∧ w'.cell? ⟨b, off + k * 6 + 5, none⟩ = some (.int .u32 (sk : Int)) ∧ w'.cell? ⟨b2, off2 + k * 6, none⟩ = some (.bool true) ∧ w'.cell? ⟨b2, off2 + k * 6 + 1, none⟩ = some (.int .i64 1) ∧ w'.cell? ⟨b2, off2 + k * 6 + 2, none⟩ = some (.int .u64 ((2 * k + 2 : Nat) : Int)) ∧ w'.cell? ⟨b2, off2 + k * 6 + 3, none⟩ = some (.int .i64 (k : Int)) ∧ w'.cell? ⟨b2, off2 + k * 6 + 4, none⟩ = some (.bool false) ∧ w'.cell? ⟨b2, off2 + k * 6 + 5, none⟩ = some (.int .u32 (sk : Int))) (by kernel_rfl) ?_ (fun hHeld => ?_)
              · exact ⟨c0, c1, c2, c3, c4, c5, d0, d1, d2, d3, d4, d5⟩
              refine wpAnyH_take (i := 0) (oi := { dst := some 82, op := Go.Op.move (Go.Operand.tmp 14), type := 3, pos := "law.go:148", after := #[], guard := none }) (v := ?_) rfl (by kernel_rfl) (by kernel_rfl) (by kernel_rfl) (fun _ _ _ h => h) (Or.inl ⟨by rfl, ?_⟩) (by assumption) ?_
              rotate_left
              · intro w hSw
                (try dsimp only at hSw)
                go_simp
                try with_reducible rfl
              (try simp only [Act.put, List.setIfInBounds_toArray, List.set_cons_zero, List.set_cons_succ])
              refine wpAnyH_take (i := 1) (oi := { dst := some 83, op := Go.Op.move (Go.Operand.tmp 12), type := 3, pos := "law.go:148", after := #[], guard := none }) (v := ?_) rfl (by kernel_rfl) (by kernel_rfl) (by kernel_rfl) (fun _ _ _ h => h) (Or.inl ⟨by rfl, ?_⟩) (by assumption) ?_
              rotate_left
              · intro w hSw
                (try dsimp only at hSw)
                go_simp
                try with_reducible rfl
              (try simp only [Act.put, List.setIfInBounds_toArray, List.set_cons_zero, List.set_cons_succ])
              refine wpAnyH_take (i := 2) (oi := { dst := some 84, op := Go.Op.binOp Go.BinOp.neq 3 (Go.Operand.tmp 82) (Go.Operand.tmp 83) 3, type := 4, pos := "law.go:148", after := #[{ on := 0, ground := Go.Ground.data }, { on := 1, ground := Go.Ground.data }], guard := none }) (v := ?_) rfl (by kernel_rfl) (by kernel_rfl) (by kernel_rfl) (fun _ _ _ h => h) (Or.inl ⟨by rfl, ?_⟩) (by assumption) ?_
              rotate_left
              · intro w hSw
                (try dsimp only at hSw)
                go_simp
                try with_reducible rfl
              (try simp only [Act.put, List.setIfInBounds_toArray, List.set_cons_zero, List.set_cons_succ])
              refine wpAnyH_take (i := 3) (oi := { dst := some 85, op := Go.Op.move (Go.Operand.tmp 84), type := 4, pos := "law.go:148", after := #[{ on := 2, ground := Go.Ground.data }], guard := none }) (v := ?_) rfl (by kernel_rfl) (by kernel_rfl) (by kernel_rfl) (fun _ _ _ h => h) (Or.inl ⟨by rfl, ?_⟩) (by assumption) ?_
              rotate_left
              · intro w hSw
                (try dsimp only at hSw)
                go_simp
                try with_reducible rfl
              (try simp only [Act.put, List.setIfInBounds_toArray, List.set_cons_zero, List.set_cons_succ])
              refine wpAnyH_take (i := 4) (oi := { dst := some 86, op := Go.Op.move (Go.Operand.tmp 13), type := 22, pos := "law.go:148", after := #[{ on := 3, ground := Go.Ground.guard }], guard := some (3, true) }) (v := ?_) rfl (by kernel_rfl) (by kernel_rfl) (by kernel_rfl) (fun _ _ _ h => h) (Or.inl ⟨by rfl, ?_⟩) (by assumption) ?_
              rotate_left
              · intro w hSw
                (try dsimp only at hSw)
                go_simp
                try with_reducible rfl
              (try simp only [Act.put, List.setIfInBounds_toArray, List.set_cons_zero, List.set_cons_succ])
              refine wpAnyH_take (i := 5) (oi := { dst := some 87, op := Go.Op.move (Go.Operand.tmp 14), type := 3, pos := "law.go:148", after := #[{ on := 3, ground := Go.Ground.guard }], guard := some (3, true) }) (v := ?_) rfl (by kernel_rfl) (by kernel_rfl) (by kernel_rfl) (fun _ _ _ h => h) (Or.inl ⟨by rfl, ?_⟩) (by assumption) ?_
              rotate_left
              · intro w hSw
                (try dsimp only at hSw)
                go_simp
                try with_reducible rfl
              (try simp only [Act.put, List.setIfInBounds_toArray, List.set_cons_zero, List.set_cons_succ])
              refine wpAnyH_take (i := 6) (oi := { dst := some 88, op := Go.Op.indexAddr 22 (Go.Operand.tmp 86) (Go.Operand.tmp 87), type := 0, pos := "law.go:148", after := #[{ on := 4, ground := Go.Ground.data }, { on := 5, ground := Go.Ground.data }, { on := 3, ground := Go.Ground.guard }], guard := some (3, true) }) (v := ?_) rfl (by kernel_rfl) (by kernel_rfl) (by kernel_rfl) (fun _ _ _ h => h) (Or.inl ⟨by rfl, ?_⟩) (by assumption) ?_
              rotate_left
              · intro w hSw
                (try dsimp only at hSw)
                go_simp
                try with_reducible rfl
              (try simp only [Act.put, List.setIfInBounds_toArray, List.set_cons_zero, List.set_cons_succ])
              refine wpAnyH_take (i := 7) (oi := { dst := some 89, op := Go.Op.load 74 (Go.Operand.tmp 88), type := 74, pos := "law.go:148", after := #[{ on := 6, ground := Go.Ground.data }, { on := 3, ground := Go.Ground.guard }], guard := some (3, true) }) (v := ?_) rfl (by kernel_rfl) (by kernel_rfl) (by kernel_rfl) (fun _ _ _ h => h) (Or.inl ⟨by rfl, ?_⟩) (by assumption) ?_
              rotate_left
              · intro w hSw
                (try dsimp only at hSw)
                go_simp
                try with_reducible rfl
              (try simp only [Act.put, List.setIfInBounds_toArray, List.set_cons_zero, List.set_cons_succ])
              refine wpAnyH_take (i := 8) (oi := { dst := some 90, op := Go.Op.move (Go.Operand.tmp 8), type := 22, pos := "law.go:148", after := #[{ on := 3, ground := Go.Ground.guard }], guard := some (3, true) }) (v := ?_) rfl (by kernel_rfl) (by kernel_rfl) (by kernel_rfl) (fun _ _ _ h => h) (Or.inl ⟨by rfl, ?_⟩) (by assumption) ?_
              rotate_left
              · intro w hSw
                (try dsimp only at hSw)
                go_simp
                try with_reducible rfl
              (try simp only [Act.put, List.setIfInBounds_toArray, List.set_cons_zero, List.set_cons_succ])
              refine wpAnyH_take (i := 9) (oi := { dst := some 91, op := Go.Op.move (Go.Operand.tmp 14), type := 3, pos := "law.go:148", after := #[{ on := 3, ground := Go.Ground.guard }], guard := some (3, true) }) (v := ?_) rfl (by kernel_rfl) (by kernel_rfl) (by kernel_rfl) (fun _ _ _ h => h) (Or.inl ⟨by rfl, ?_⟩) (by assumption) ?_
              rotate_left
              · intro w hSw
                (try dsimp only at hSw)
                go_simp
                try with_reducible rfl
              (try simp only [Act.put, List.setIfInBounds_toArray, List.set_cons_zero, List.set_cons_succ])
              refine wpAnyH_take (i := 10) (oi := { dst := some 92, op := Go.Op.indexAddr 22 (Go.Operand.tmp 90) (Go.Operand.tmp 91), type := 0, pos := "law.go:148", after := #[{ on := 8, ground := Go.Ground.data }, { on := 9, ground := Go.Ground.data }, { on := 3, ground := Go.Ground.guard }], guard := some (3, true) }) (v := ?_) rfl (by kernel_rfl) (by kernel_rfl) (by kernel_rfl) (fun _ _ _ h => h) (Or.inl ⟨by rfl, ?_⟩) (by assumption) ?_
              rotate_left
              · intro w hSw
                (try dsimp only at hSw)
                go_simp
                try with_reducible rfl
              (try simp only [Act.put, List.setIfInBounds_toArray, List.set_cons_zero, List.set_cons_succ])
              refine wpAnyH_take (i := 11) (oi := { dst := some 93, op := Go.Op.load 74 (Go.Operand.tmp 92), type := 74, pos := "law.go:148", after := #[{ on := 10, ground := Go.Ground.data }, { on := 3, ground := Go.Ground.guard }], guard := some (3, true) }) (v := ?_) rfl (by kernel_rfl) (by kernel_rfl) (by kernel_rfl) (fun _ _ _ h => h) (Or.inl ⟨by rfl, ?_⟩) (by assumption) ?_
              rotate_left
              · intro w hSw
                (try dsimp only at hSw)
                go_simp
                try with_reducible rfl
              (try simp only [Act.put, List.setIfInBounds_toArray, List.set_cons_zero, List.set_cons_succ])
              refine wpAnyH_take (i := 12) (oi := { dst := some 94, op := Go.Op.binOp Go.BinOp.neq 74 (Go.Operand.tmp 89) (Go.Operand.tmp 93) 74, type := 4, pos := "law.go:148", after := #[{ on := 7, ground := Go.Ground.data }, { on := 11, ground := Go.Ground.data }, { on := 3, ground := Go.Ground.guard }], guard := some (3, true) }) (v := ?_) rfl (by kernel_rfl) (by kernel_rfl) (by kernel_rfl) (fun _ _ _ h => h) (Or.inl ⟨by rfl, ?_⟩) (by assumption) ?_
              rotate_left
              · intro w hSw
                (try dsimp only at hSw)
                go_simp
                try with_reducible rfl
              (try simp only [Act.put, List.setIfInBounds_toArray, List.set_cons_zero, List.set_cons_succ])
              refine wpAnyH_take (i := 13) (oi := { dst := some 95, op := Go.Op.pick (Go.Operand.tmp 85) (Go.Operand.tmp 94) (Go.Operand.const (Go.Value.bool false)), type := 4, pos := "law.go:148", after := #[{ on := 3, ground := Go.Ground.data }, { on := 12, ground := Go.Ground.data }], guard := none }) (v := ?_) rfl (by kernel_rfl) (by kernel_rfl) (by kernel_rfl) (fun _ _ _ h => h) (Or.inl ⟨by rfl, ?_⟩) (by assumption) ?_
              rotate_left
              · intro w hSw
                (try dsimp only at hSw)
                go_simp
                try with_reducible rfl
              (try simp only [Act.put, List.setIfInBounds_toArray, List.set_cons_zero, List.set_cons_succ])
              refine wpAnyH_done (by kernel_rfl) ?_ _
              go_wp2
              go_roundw
              case rel => exact ⟨k + 1, by omega, by go_num, _, (by first | rfl | exact World.drewN_drewN _ _ _)⟩
              case measure => simp [intOf]; omega
          · have : n0 = k := by omega
            subst this
            have hcx := hc q0 HQ0.out
            rw [HNEW.out] at hcx
            have gq : (0 : Int) ≤ (q0 : Int) := Int.natCast_nonneg _
            have gq1 : (q0 : Int) < (n0 : Int) := by have := HQ0.out; omega
            have hbz := hb
            clear hc HC hc2 HD
            obtain ⟨c0', c1', c2', c3', c4', c5'⟩ := hcx
            have c0 : (w7.drewN m).cell? ⟨b, off + q0 * 6, none⟩ = some (.bool true) := c0'
            have c1 : (w7.drewN m).cell? ⟨b, off + q0 * 6 + 1, none⟩ = some (.int .i64 9) := c1'
            have c2 : (w7.drewN m).cell? ⟨b, off + q0 * 6 + 2, none⟩ = some (.int .u64 (M : Int)) := c2'
            have c3 : (w7.drewN m).cell? ⟨b, off + q0 * 6 + 3, none⟩ = some (.int .i64 5) := c3'
            have c4 : (w7.drewN m).cell? ⟨b, off + q0 * 6 + 4, none⟩ = some (.bool false) := c4'
            have c5 : (w7.drewN m).cell? ⟨b, off + q0 * 6 + 5, none⟩ = some (.int .u32 (a2 : Int)) := c5'
            clear c0' c1' c2' c3' c4' c5'
            have s0 : (w7.drewN m).cell? ⟨W.heap.size, 0, none⟩ = some (.int .i64 9) := s0
            have s1 : (w7.drewN m).cell? ⟨W.heap.size, 1, none⟩ = some (.int .u64 (M : Int)) := s1
            have HB := Lib.hid (below_drewN HB.out m)
            have hzd : (w7.drewN m).heap.size = w7.heap.size := rfl
            go_wp2_with fail
            refine wp_region_held_drew (S := fun w' => w'.cell? ⟨b, off + q0 * 6, none⟩ = some (.bool true) ∧ w'.cell? ⟨b, off + q0 * 6 + 1, none⟩ = some (.int .i64 9) ∧ w'.cell? ⟨b, off + q0 * 6 + 2, none⟩ = some (.int .u64 (M : Int)) ∧ w'.cell? ⟨b, off + q0 * 6 + 3, none⟩ = some (.int .i64 5) ∧ w'.cell? ⟨b, off + q0 * 6 + 4, none⟩ = some (.bool false) ∧ w'.cell? ⟨b, off + q0 * 6 + 5, none⟩ = some (.int .u32 (a2 : Int)) ∧ w'.cell? ⟨W.heap.size, 0, none⟩ = some (.int .i64 9) ∧ w'.cell? ⟨W.heap.size, 1, none⟩ = some (.int .u64 (M : Int))) (by kernel_rfl) ?_ (fun hHeld => ?_)
            · exact ⟨c0, c1, c2, c3, c4, c5, s0, s1⟩
            refine wpAnyH_ready (rs := [0]) (by kernel_rfl) (by simp) ?_
            refine AllReadyH.cons (o := { dst := some 96, op := Go.Op.call { callee := Go.Callee.value (Go.Operand.func 19), args := #[], argTypes := #[] }, type := 4, pos := "law.go:152", after := #[], guard := none }) rfl (fun K hK => ?_) AllReadyH.nil
            go_simp
            refine Calls.mono (told10 _) ?_
            intro e w8 hpost
            obtain ⟨rfl, hb8⟩ := hpost
            have hbd : Below (w7.drewN m).heap.size (w7.drewN m) w8 := ((Below.refl (w7.drewN m).heap.size (w7.drewN m)).drew).trans hb8
            have HB8 := Lib.hid (HB.out.trans (hbd.mono (by omega)))
            clear hbd
            refine hK.out _ _ ?_ (fun hHeld => ?_)
            · (try dsimp only)
              obtain ⟨c0, c1, c2, c3, c4, c5, s0, s1⟩ := hHeld
              obtain ⟨hcc, _⟩ := bcell hb8
              exact ⟨(hcc _ _ (by show b < w7.heap.size; omega)).trans c0, (hcc _ _ (by show b < w7.heap.size; omega)).trans c1, (hcc _ _ (by show b < w7.heap.size; omega)).trans c2, (hcc _ _ (by show b < w7.heap.size; omega)).trans c3, (hcc _ _ (by show b < w7.heap.size; omega)).trans c4, (hcc _ _ (by show b < w7.heap.size; omega)).trans c5, (hcc _ _ (by show W.heap.size < w7.heap.size; omega)).trans s0, (hcc _ _ (by show W.heap.size < w7.heap.size; omega)).trans s1⟩
            clear hK K
            (try simp only [Act.put, List.setIfInBounds_toArray, List.set_cons_zero, List.set_cons_succ])
            refine wpAnyH_take (i := 1) (oi := { dst := some 97, op := Go.Op.move (Go.Operand.tmp 96), type := 4, pos := "law.go:152", after := #[{ on := 0, ground := Go.Ground.data }, { on := 0, ground := Go.Ground.chain }], guard := none }) (v := ?_) rfl (by kernel_rfl) (by kernel_rfl) (by kernel_rfl) (fun _ _ _ h => h) (Or.inl ⟨by rfl, ?_⟩) (by assumption) ?_
            rotate_left
            · intro w hSw
              (try dsimp only at hSw)
              go_simp
              try with_reducible rfl
            (try simp only [Act.put, List.setIfInBounds_toArray, List.set_cons_zero, List.set_cons_succ])
            refine wpAnyH_take (i := 2) (oi := { dst := some 98, op := Go.Op.move (Go.Operand.tmp 13), type := 22, pos := "law.go:152", after := #[{ on := 1, ground := Go.Ground.guard }], guard := some (1, true) }) (v := ?_) rfl (by kernel_rfl) (by kernel_rfl) (by kernel_rfl) (fun _ _ _ h => h) (Or.inl ⟨by rfl, ?_⟩) (by assumption) ?_
            rotate_left
            · intro w hSw
              (try dsimp only at hSw)
              go_simp
              try with_reducible rfl
            (try simp only [Act.put, List.setIfInBounds_toArray, List.set_cons_zero, List.set_cons_succ])
            refine wpAnyH_take (i := 3) (oi := { dst := some 99, op := Go.Op.move (Go.Operand.tmp 12), type := 3, pos := "law.go:152", after := #[{ on := 1, ground := Go.Ground.guard }], guard := some (1, true) }) (v := ?_) rfl (by kernel_rfl) (by kernel_rfl) (by kernel_rfl) (fun _ _ _ h => h) (Or.inl ⟨by rfl, ?_⟩) (by assumption) ?_
            rotate_left
            · intro w hSw
              (try dsimp only at hSw)
              go_simp
              try with_reducible rfl
            (try simp only [Act.put, List.setIfInBounds_toArray, List.set_cons_zero, List.set_cons_succ])
            refine wpAnyH_take (i := 4) (oi := { dst := some 100, op := Go.Op.indexAddr 22 (Go.Operand.tmp 98) (Go.Operand.tmp 99), type := 0, pos := "law.go:152", after := #[{ on := 2, ground := Go.Ground.data }, { on := 3, ground := Go.Ground.data }, { on := 1, ground := Go.Ground.guard }], guard := some (1, true) }) (v := ?_) rfl (by kernel_rfl) (by kernel_rfl) (by kernel_rfl) (fun _ _ _ h => h) (Or.inl ⟨by rfl, ?_⟩) (by assumption) ?_
            rotate_left
            · intro w hSw
              (try dsimp only at hSw)
              go_simp
              try with_reducible rfl
            (try simp only [Act.put, List.setIfInBounds_toArray, List.set_cons_zero, List.set_cons_succ])
            refine wpAnyH_take (i := 5) (oi := { dst := some 101, op := Go.Op.fieldAddr 74 (Go.Operand.tmp 100) 0, type := 0, pos := "law.go:152", after := #[{ on := 4, ground := Go.Ground.data }, { on := 1, ground := Go.Ground.guard }], guard := some (1, true) }) (v := ?_) rfl (by kernel_rfl) (by kernel_rfl) (by kernel_rfl) (fun _ _ _ h => h) (Or.inl ⟨by rfl, ?_⟩) (by assumption) ?_
            rotate_left
            · intro w hSw
              (try dsimp only at hSw)
              go_simp
              try with_reducible rfl
            (try simp only [Act.put, List.setIfInBounds_toArray, List.set_cons_zero, List.set_cons_succ])
            refine wpAnyH_take (i := 6) (oi := { dst := some 102, op := Go.Op.load 4 (Go.Operand.tmp 101), type := 4, pos := "law.go:152", after := #[{ on := 5, ground := Go.Ground.data }, { on := 1, ground := Go.Ground.guard }], guard := some (1, true) }) (v := ?_) rfl (by kernel_rfl) (by kernel_rfl) (by kernel_rfl) (fun _ _ _ h => h) (Or.inl ⟨by rfl, ?_⟩) (by assumption) ?_
            rotate_left
            · intro w hSw
              (try dsimp only at hSw)
              go_simp
              try with_reducible rfl
            (try simp only [Act.put, List.setIfInBounds_toArray, List.set_cons_zero, List.set_cons_succ])
            refine wpAnyH_take (i := 7) (oi := { dst := some 103, op := Go.Op.pick (Go.Operand.tmp 97) (Go.Operand.tmp 102) (Go.Operand.const (Go.Value.bool false)), type := 4, pos := "law.go:152", after := #[{ on := 1, ground := Go.Ground.data }, { on := 6, ground := Go.Ground.data }], guard := none }) (v := ?_) rfl (by kernel_rfl) (by kernel_rfl) (by kernel_rfl) (fun _ _ _ h => h) (Or.inl ⟨by rfl, ?_⟩) (by assumption) ?_
            rotate_left
            · intro w hSw
              (try dsimp only at hSw)
              go_simp
              try with_reducible rfl
            (try simp only [Act.put, List.setIfInBounds_toArray, List.set_cons_zero, List.set_cons_succ])
            refine wpAnyH_take (i := 8) (oi := { dst := some 104, op := Go.Op.move (Go.Operand.tmp 103), type := 4, pos := "law.go:152", after := #[{ on := 7, ground := Go.Ground.data }, { on := 1, ground := Go.Ground.chain }], guard := none }) (v := ?_) rfl (by kernel_rfl) (by kernel_rfl) (by kernel_rfl) (fun _ _ _ h => h) (Or.inl ⟨by rfl, ?_⟩) (by assumption) ?_
            rotate_left
            · intro w hSw
              (try dsimp only at hSw)
              go_simp
              try with_reducible rfl
            (try simp only [Act.put, List.setIfInBounds_toArray, List.set_cons_zero, List.set_cons_succ])
            refine wpAnyH_take (i := 9) (oi := { dst := some 105, op := Go.Op.move (Go.Operand.tmp 13), type := 22, pos := "law.go:152", after := #[{ on := 8, ground := Go.Ground.guard }], guard := some (8, true) }) (v := ?_) rfl (by kernel_rfl) (by kernel_rfl) (by kernel_rfl) (fun _ _ _ h => h) (Or.inl ⟨by rfl, ?_⟩) (by assumption) ?_
            rotate_left
            · intro w hSw
              (try dsimp only at hSw)
              go_simp
              try with_reducible rfl
            (try simp only [Act.put, List.setIfInBounds_toArray, List.set_cons_zero, List.set_cons_succ])
            refine wpAnyH_take (i := 10) (oi := { dst := some 106, op := Go.Op.move (Go.Operand.tmp 12), type := 3, pos := "law.go:152", after := #[{ on := 8, ground := Go.Ground.guard }], guard := some (8, true) }) (v := ?_) rfl (by kernel_rfl) (by kernel_rfl) (by kernel_rfl) (fun _ _ _ h => h) (Or.inl ⟨by rfl, ?_⟩) (by assumption) ?_
            rotate_left
            · intro w hSw
              (try dsimp only at hSw)
              go_simp
              try with_reducible rfl
            (try simp only [Act.put, List.setIfInBounds_toArray, List.set_cons_zero, List.set_cons_succ])
            refine wpAnyH_take (i := 11) (oi := { dst := some 107, op := Go.Op.indexAddr 22 (Go.Operand.tmp 105) (Go.Operand.tmp 106), type := 0, pos := "law.go:152", after := #[{ on := 9, ground := Go.Ground.data }, { on := 10, ground := Go.Ground.data }, { on := 8, ground := Go.Ground.guard }], guard := some (8, true) }) (v := ?_) rfl (by kernel_rfl) (by kernel_rfl) (by kernel_rfl) (fun _ _ _ h => h) (Or.inl ⟨by rfl, ?_⟩) (by assumption) ?_
            rotate_left
            · intro w hSw
              (try dsimp only at hSw)
              go_simp
              try with_reducible rfl
            (try simp only [Act.put, List.setIfInBounds_toArray, List.set_cons_zero, List.set_cons_succ])
            refine wpAnyH_take (i := 12) (oi := { dst := some 108, op := Go.Op.fieldAddr 74 (Go.Operand.tmp 107) 1, type := 0, pos := "law.go:152", after := #[{ on := 11, ground := Go.Ground.data }, { on := 8, ground := Go.Ground.guard }], guard := some (8, true) }) (v := ?_) rfl (by kernel_rfl) (by kernel_rfl) (by kernel_rfl) (fun _ _ _ h => h) (Or.inl ⟨by rfl, ?_⟩) (by assumption) ?_
            rotate_left
            · intro w hSw
              (try dsimp only at hSw)
              go_simp
              try with_reducible rfl
            (try simp only [Act.put, List.setIfInBounds_toArray, List.set_cons_zero, List.set_cons_succ])
            refine wpAnyH_take (i := 13) (oi := { dst := some 109, op := Go.Op.load 72 (Go.Operand.tmp 108), type := 72, pos := "law.go:152", after := #[{ on := 12, ground := Go.Ground.data }, { on := 8, ground := Go.Ground.guard }], guard := some (8, true) }) (v := ?_) rfl (by kernel_rfl) (by kernel_rfl) (by kernel_rfl) (fun _ _ _ h => h) (Or.inl ⟨by rfl, ?_⟩) (by assumption) ?_
            rotate_left
            · intro w hSw
              (try dsimp only at hSw)
              go_simp
              try with_reducible rfl
            (try simp only [Act.put, List.setIfInBounds_toArray, List.set_cons_zero, List.set_cons_succ])
            refine wpAnyH_take (i := 14) (oi := { dst := some 110, op := Go.Op.load 25 (Go.Operand.tmp 4), type := 25, pos := "law.go:152", after := #[{ on := 8, ground := Go.Ground.guard }], guard := some (8, true) }) (v := ?_) rfl (by kernel_rfl) (by kernel_rfl) (by kernel_rfl) (fun _ _ _ h => h) (Or.inl ⟨by rfl, ?_⟩) (by assumption) ?_
            rotate_left
            · intro w hSw
              (try dsimp only at hSw)
              go_simp
              try with_reducible rfl
            (try simp only [Act.put, List.setIfInBounds_toArray, List.set_cons_zero, List.set_cons_succ])
            refine wpAnyH_take (i := 15) (oi := { dst := some 111, op := Go.Op.move (Go.Operand.tmp 2), type := 26, pos := "law.go:152", after := #[{ on := 8, ground := Go.Ground.guard }], guard := some (8, true) }) (v := ?_) rfl (by kernel_rfl) (by kernel_rfl) (by kernel_rfl) (fun _ _ _ h => h) (Or.inl ⟨by rfl, ?_⟩) (by assumption) ?_
            rotate_left
            · intro w hSw
              (try dsimp only at hSw)
              go_simp
              try with_reducible rfl
            (try simp only [Act.put, List.setIfInBounds_toArray, List.set_cons_zero, List.set_cons_succ])
            refine wpAnyH_take (i := 16) (oi := { dst := some 112, op := Go.Op.build 72 #[(0, Go.Operand.tmp 110), (1, Go.Operand.const (Go.Value.int Go.IntKind.i64 5)), (3, Go.Operand.tmp 111)], type := 72, pos := "law.go:152", after := #[{ on := 14, ground := Go.Ground.data }, { on := 15, ground := Go.Ground.data }, { on := 8, ground := Go.Ground.guard }], guard := some (8, true) }) (v := ?_) rfl (by kernel_rfl) (by kernel_rfl) (by kernel_rfl) (fun _ _ _ h => h) (Or.inl ⟨by rfl, ?_⟩) (by assumption) ?_
            rotate_left
            · intro w hSw
              (try dsimp only at hSw)
              go_simp
              try with_reducible rfl
            (try simp only [Act.put, List.setIfInBounds_toArray, List.set_cons_zero, List.set_cons_succ])
            refine wpAnyH_take (i := 17) (oi := { dst := some 113, op := Go.Op.binOp Go.BinOp.eql 72 (Go.Operand.tmp 109) (Go.Operand.tmp 112) 72, type := 4, pos := "law.go:152", after := #[{ on := 13, ground := Go.Ground.data }, { on := 16, ground := Go.Ground.data }, { on := 8, ground := Go.Ground.guard }], guard := some (8, true) }) (v := ?_) rfl (by kernel_rfl) (by kernel_rfl) (by kernel_rfl) (fun _ _ _ h => h) (Or.inl ⟨by rfl, ?_⟩) (by assumption) ?_
            rotate_left
            · intro w hSw
              (try dsimp only at hSw)
              go_simp
              try with_reducible rfl
            (try simp only [Act.put, List.setIfInBounds_toArray, List.set_cons_zero, List.set_cons_succ])
            refine wpAnyH_take (i := 18) (oi := { dst := some 114, op := Go.Op.pick (Go.Operand.tmp 104) (Go.Operand.tmp 113) (Go.Operand.const (Go.Value.bool false)), type := 4, pos := "law.go:152", after := #[{ on := 8, ground := Go.Ground.data }, { on := 17, ground := Go.Ground.data }], guard := none }) (v := ?_) rfl (by kernel_rfl) (by kernel_rfl) (by kernel_rfl) (fun _ _ _ h => h) (Or.inl ⟨by rfl, ?_⟩) (by assumption) ?_
            rotate_left
            · intro w hSw
              (try dsimp only at hSw)
              go_simp
              try with_reducible rfl
            (try simp only [Act.put, List.setIfInBounds_toArray, List.set_cons_zero, List.set_cons_succ])
            refine wpAnyH_take (i := 19) (oi := { dst := some 6, op := Go.Op.assign (Go.Operand.tmp 114), type := 4, pos := "law.go:152", after := #[{ on := 18, ground := Go.Ground.data }, { on := 8, ground := Go.Ground.chain }, { on := 0, ground := Go.Ground.phase }, { on := 1, ground := Go.Ground.phase }, { on := 2, ground := Go.Ground.phase }, { on := 3, ground := Go.Ground.phase }, { on := 4, ground := Go.Ground.phase }, { on := 5, ground := Go.Ground.phase }, { on := 6, ground := Go.Ground.phase }, { on := 7, ground := Go.Ground.phase }, { on := 8, ground := Go.Ground.phase }, { on := 9, ground := Go.Ground.phase }, { on := 10, ground := Go.Ground.phase }, { on := 11, ground := Go.Ground.phase }, { on := 12, ground := Go.Ground.phase }, { on := 13, ground := Go.Ground.phase }, { on := 14, ground := Go.Ground.phase }, { on := 15, ground := Go.Ground.phase }, { on := 16, ground := Go.Ground.phase }, { on := 17, ground := Go.Ground.phase }, { on := 18, ground := Go.Ground.phase }], guard := none }) (v := ?_) rfl (by kernel_rfl) (by kernel_rfl) (by kernel_rfl) (fun _ _ _ h => h) (Or.inl ⟨by rfl, ?_⟩) (by assumption) ?_
            rotate_left
            · intro w hSw
              (try dsimp only at hSw)
              go_simp
              try with_reducible rfl
            (try simp only [Act.put, List.setIfInBounds_toArray, List.set_cons_zero, List.set_cons_succ])
            refine wpAnyH_done (by kernel_rfl) ?_ _
            go_wp2
            go_ret
            exact ⟨by simp, HB8.out⟩
  · have hn8' : (8 : Int) < (n0 : Int) := by omega
    have HN : Hid (8 ≤ 1000000) := by show 8 ≤ _; omega
    have HL1 := Lib.hid (HL0.out 8 HN.out)
    obtain ⟨q0, hq0, hq1, hput⟩ := full_put (F := fullF S) (S := S) (n := 8) (m := M) (now := a2) (by omega) (fun i _ => rfl) HR9.out
    rw [hput] at HL1
    have HOLD := Lib.hid fun w h => HOL.out 8 w (by omega) h
    rw [hq1] at HOLD
    obtain ⟨r1, hr1⟩ : ∃ r1, r1 = updP (fun i => ownP (fullF S i)) q0 ⟨true, ⟨9, M, 5, false, a2⟩⟩ := ⟨_, rfl⟩
    have HPUT : Hid (∀ k, k < 8 → k ≠ q0 → r1 k = fullF S k) := fun k _ hk => by rw [hr1]; unfold updP; rw [if_neg hk]; rfl
    have HNEW : Hid (r1 q0 = ⟨true, ⟨9, M, 5, false, a2⟩⟩) := by rw [hr1]; show _ = _; unfold updP; rw [if_pos rfl]
    rw [← hr1] at HL1
    have HQ0 := Lib.hid hq0
    clear hput hr1 hq1 hq0 HL0 HOL
    go_enter Try.func7, Try.ntmps7
    go_wp2_with fail
    refine Calls.mono (HF8.out _) ?_
    intro e w1 hpost
    obtain ⟨rfl, hb⟩ := hpost
    have HB1 : Hid (Below W.heap.size W w1) := Below.trans ((Below.refl _ _).alloc (Nat.le_refl _) _) (hb.mono (by simp))
    have hz1 : W.heap.size + 1 ≤ w1.heap.size := by have := hb.size; simpa using this
    have k0 : w1.cell? ⟨W.heap.size, 0, none⟩ = some (.int .i64 a1) := by rw [(bcell hb).1 _ _ (by simp)]; simp [go_sem]
    have k1 : w1.cell? ⟨W.heap.size, 1, none⟩ = some (.int .u64 (e1 : Int)) := by rw [(bcell hb).1 _ _ (by simp)]; simp [go_sem]
    have kf : ∀ o, w1.frozen? ⟨W.heap.size, o, none⟩ = false := fun o => by rw [(bcell hb).2 _ _ (by simp)]; simp [go_sem]
    clear hb HF8
    obtain ⟨w2, hw2⟩ : ∃ w2, w2 = (((w1.setCell ⟨W.heap.size, 0, none⟩ (.int .i64 (fixV a1))).setCell ⟨W.heap.size, 1, none⟩ (.int .u64 (M : Int))).setCell ⟨W.heap.size, 0, none⟩ (.int .i64 9)) := ⟨_, rfl⟩
    have HB : Hid (Below W.heap.size W w2) := by rw [hw2]; exact ((HB1.out.setCell (Nat.le_refl _) _).setCell (Nat.le_refl _) _).setCell (Nat.le_refl _) _
    have hz : W.heap.size + 1 ≤ w2.heap.size := by rw [hw2]; simpa using hz1
    have s0 : w2.cell? ⟨W.heap.size, 0, none⟩ = some (.int .i64 9) := by rw [hw2]; simp [go_sem, k0, k1]
    have s1 : w2.cell? ⟨W.heap.size, 1, none⟩ = some (.int .u64 (M : Int)) := by rw [hw2]; simp [go_sem, k0, k1]
    go_wp2
    rw [← hw2]
    clear hw2 k0 k1 kf HB1 hz1
    go_loopw [8, 9] (fun out i wr => ∃ k : Nat, k ≤ 8 ∧ i = .int .i64 k ∧ Hid (wr.ownsRow w2.heap.size 74 6 out k (plc (listP (fullF S) k))) ∧ Hid (Below w2.heap.size w2 wr)) (fun _ i _ => 8 - (intOf i).toNat)
    case atStart => exact ⟨0, by omega, rfl, ⟨by simp [plc, listP], .inl ⟨rfl, rfl⟩⟩, Below.refl _ _⟩
    case round =>
      obtain ⟨k, hk, rfl, HO, HBL⟩ := hrel
      have hzw := HBL.out.size
      by_cases hlt : k < 8
      · obtain ⟨b, off, rfl, hb, hc⟩ := HST.out (by omega)
        have g0 : (0 : Int) ≤ (k : Int) := Int.natCast_nonneg _
        have g1 : (k : Int) < (8 : Int) := by omega
        have g2 : (k : Int) < (n0 : Int) := by omega
        have cs : wr.cell? ⟨b, off + k, none⟩ = some (.int .u32 (S k : Nat)) := ((HBL.out.cell (p := ⟨b, off + k, none⟩) (by show b < _; omega)).trans (HB.out.cell (p := ⟨b, off + k, none⟩) (by show b < _; omega))).trans (hc k (by omega))
        have HX : Hid (∀ sk, S k = sk → plc (listP (fullF S) (k + 1)) = plc (listP (fullF S) k) ++ [.bool true, .int .i64 1, .int .u64 ((2 * k + 2 : Nat) : Int), .int .i64 (k : Int), .bool false, .int .u32 (sk : Int)]) := fun sk hsk => by
          rw [listP_succ, plc_append, plc_one1]
          simp [Pl.cells, fullF, hsk]
        obtain ⟨sk, hsk⟩ : ∃ sk, S k = sk := ⟨_, rfl⟩
        have HX := Lib.hid (HX.out sk hsk)
        rw [hsk] at cs
        clear hc hsk
        have e1' : wrap64 (2 * (k : Int)) = 2 * (k : Int) := IntWalk.wrap64_in _ (by omega)
        have e2' : wrap64 (2 * (k : Int) + 2) = 2 * (k : Int) + 2 := IntWalk.wrap64_in _ (by omega)
        have e3' : IntKind.u64.wrap (2 * (k : Int) + 2) = ((2 * k + 2 : Nat) : Int) := by rw [IntKind.wrap_u64]; omega
        go_wp2_with (first
          | (at_builtin; refine wpList_apv _ rfl stPlacesR _ _ rfl w2.heap.size _ k _ rfl (own_below HO.out ((Below.refl wr.heap.size wr).alloc (Nat.le_refl _) (.cells #[.bool true, .int .i64 1, .int .u64 ((2 * k + 2 : Nat) : Int), .int .i64 (k : Int), .bool false, .int .u32 (sk : Int)] 74))) _ _ 1 [.bool true, .int .i64 1, .int .u64 ((2 * k + 2 : Nat) : Int), .int .i64 (k : Int), .bool false, .int .u32 (sk : Int)] rfl (litN6g (w := wr) (g := wr.heap.size) #[.bool true, .int .i64 1, .int .u64 ((2 * k + 2 : Nat) : Int), .int .i64 (k : Int), .bool false, .int .u32 (sk : Int)] _ rfl rfl) (by simp [Value.oneCell']) (by omega) (by go_size) ?_; intro A2 c2 w9 hown2 hgr2 hat2 hbel2; clear hgr2 hat2))
        have HO2 : Hid (w9.ownsRow w2.heap.size 74 6 (.slice A2 (k + 1) c2) (k + 1) (plc (listP (fullF S) (k + 1)))) := by
          rw [HX.out]; exact hown2
        have HB2 : Hid (Below w2.heap.size w2 w9) := Below.trans (HBL.out.trans (Below.mono ((Below.refl wr.heap.size wr).alloc (Nat.le_refl _) _) hzw)) hbel2
        clear hown2 hbel2
        go_wp2
        go_roundw
        case rel => exact ⟨k + 1, by omega, by go_num, HO2.out, HB2.out⟩
        case measure => simp [intOf]; omega
      · have : 8 = k := by omega
        subst this
        have RL : Hid (RowOf wr 74 w2.heap.size _ 8 (fullF S)) := RowOf.of_own HO.out
        have s0 := (HBL.out.cell (p := ⟨W.heap.size, 0, none⟩) (by show W.heap.size < _; omega)).trans s0
        have s1 := (HBL.out.cell (p := ⟨W.heap.size, 1, none⟩) (by show W.heap.size < _; omega)).trans s1
        have HB : Hid (Below W.heap.size W wr) := HB.out.trans (HBL.out.mono (by omega))
        have hz := Nat.le_trans hz hzw
        clear HO HBL hlt
        go_wp2_with fail
        refine wp_region_held_drew (S := fun w' => w'.cell? ⟨W.heap.size, 0, none⟩ = some (.int .i64 9) ∧ w'.cell? ⟨W.heap.size, 1, none⟩ = some (.int .u64 (M : Int))) (by kernel_rfl) ?_ (fun hHeld => ?_)
        · exact ⟨s0, s1⟩
        refine wpAnyH_take (i := 0) (oi := { dst := some 42, op := Go.Op.move (Go.Operand.tmp 8), type := 22, pos := "law.go:138", after := #[], guard := none }) (v := ?_) rfl (by kernel_rfl) (by kernel_rfl) (by kernel_rfl) (fun _ _ _ h => h) (Or.inl ⟨by rfl, ?_⟩) (by assumption) ?_
        rotate_left
        · intro w hSw
          (try dsimp only at hSw)
          go_simp
          try with_reducible rfl
        (try simp only [Act.put, List.setIfInBounds_toArray, List.set_cons_zero, List.set_cons_succ])
        refine wpAnyH_take (i := 2) (oi := { dst := some 44, op := Go.Op.load 25 (Go.Operand.tmp 4), type := 25, pos := "law.go:138", after := #[], guard := none }) (v := ?_) rfl (by kernel_rfl) (by kernel_rfl) (by kernel_rfl) (fun _ _ _ h => h) (Or.inl ⟨by rfl, ?_⟩) (by assumption) ?_
        rotate_left
        · intro w hSw
          (try dsimp only at hSw)
          go_simp
          try with_reducible rfl
        (try simp only [Act.put, List.setIfInBounds_toArray, List.set_cons_zero, List.set_cons_succ])
        refine wpAnyH_take (i := 4) (oi := { dst := some 46, op := Go.Op.move (Go.Operand.tmp 2), type := 26, pos := "law.go:138", after := #[], guard := none }) (v := ?_) rfl (by kernel_rfl) (by kernel_rfl) (by kernel_rfl) (fun _ _ _ h => h) (Or.inl ⟨by rfl, ?_⟩) (by assumption) ?_
        rotate_left
        · intro w hSw
          (try dsimp only at hSw)
          go_simp
          try with_reducible rfl
        (try simp only [Act.put, List.setIfInBounds_toArray, List.set_cons_zero, List.set_cons_succ])
        refine wpAnyH_ready (rs := [1]) (by kernel_rfl) (by simp) ?_
        refine AllReadyH.cons (o := { dst := some 43, op := Go.Op.call { callee := Go.Callee.value (Go.Operand.func 15), args := #[Go.Operand.tmp 42], argTypes := #[22] }, type := 30, pos := "law.go:138", after := #[{ on := 0, ground := Go.Ground.data }], guard := none }) rfl (fun K hK => ?_) AllReadyH.nil
        go_simp
        refine Calls.mono (law10_To HN.out (RL.out.row.below (by (repeat' (first | (with_reducible exact Below.refl _ _) | (with_reducible assumption) | (with_reducible refine Below.setCell ?_ ?_ _) | (with_reducible refine Below.alloc ?_ ?_ _) | (with_reducible refine below_drewN ?_ _) | (with_reducible refine Below.drew ?_) | go_size)))) (Nat.le_refl _)) ?_
        intro e w3 hpost
        obtain ⟨vo, he, hro, hb⟩ := hpost
        (try simp only [id] at he)
        subst he
        have hbd : Below wr.heap.size wr w3 := ((Below.refl wr.heap.size wr).drew).trans hb
        have HB := Lib.hid (HB.out.trans (hbd.mono (by omega)))
        have hz := Nat.le_trans hz hbd.size
        have RL := Lib.hid (RL.out.below hbd)
        have RO := Lib.hid hro
        clear hbd
        refine hK.out _ _ ?_ (fun hHeld => ?_)
        · (try dsimp only)
          obtain ⟨s0, s1⟩ := hHeld
          obtain ⟨hcc, _⟩ := bcell hb
          exact ⟨(hcc _ _ (by go_size)).trans s0, (hcc _ _ (by go_size)).trans s1⟩
        clear hK K
        (try simp only [Act.put, List.setIfInBounds_toArray, List.set_cons_zero, List.set_cons_succ])
        refine wpAnyH_ready (rs := [3]) (by kernel_rfl) (by simp) ?_
        refine AllReadyH.cons (o := { dst := some 45, op := Go.Op.call { callee := Go.Callee.value (Go.Operand.func 17), args := #[Go.Operand.tmp 44], argTypes := #[25] }, type := 36, pos := "law.go:138", after := #[{ on := 2, ground := Go.Ground.data }, { on := 1, ground := Go.Ground.chain }], guard := none }) rfl (fun K hK => ?_) AllReadyH.nil
        go_simp
        refine Calls.mono (HT8.out _) ?_
        intro e w4 hpost
        obtain ⟨rfl, hb⟩ := hpost
        have hbd : Below w3.heap.size w3 w4 := hb
        have HB := Lib.hid (HB.out.trans (hbd.mono (by omega)))
        have hz := Nat.le_trans hz hbd.size
        have RL := Lib.hid (RL.out.below hbd)
        have RO := Lib.hid (RO.out.below hbd)
        clear hbd
        refine hK.out _ _ ?_ (fun hHeld => ?_)
        · (try dsimp only)
          obtain ⟨s0, s1⟩ := hHeld
          obtain ⟨hcc, _⟩ := bcell hb
          exact ⟨(hcc _ _ (by go_size)).trans s0, (hcc _ _ (by go_size)).trans s1⟩
        clear hK K
        (try simp only [Act.put, List.setIfInBounds_toArray, List.set_cons_zero, List.set_cons_succ])
        refine wpAnyH_ready (rs := [5]) (by kernel_rfl) (by simp) ?_
        refine AllReadyH.cons (o := { dst := some 47, op := Go.Op.call { callee := Go.Callee.value (Go.Operand.func 16), args := #[Go.Operand.tmp 43, Go.Operand.tmp 45, Go.Operand.const (Go.Value.int Go.IntKind.i64 5), Go.Operand.tmp 46], argTypes := #[30, 36, 3, 26] }, type := 32, pos := "law.go:138", after := #[{ on := 1, ground := Go.Ground.data }, { on := 3, ground := Go.Ground.data }, { on := 4, ground := Go.Ground.data }, { on := 3, ground := Go.Ground.chain }], guard := none }) rfl (fun K hK => ?_) AllReadyH.nil
        go_simp
        refine Calls.mono (HL1.out _ _ RO.out.row) ?_
        intro e w5 hpost
        obtain ⟨va, he, hra, hb⟩ := hpost
        (try simp only [id] at he)
        subst he
        have hbd : Below w4.heap.size w4 w5 := hb
        have HB := Lib.hid (HB.out.trans (hbd.mono (by omega)))
        have hz := Nat.le_trans hz hbd.size
        have RL := Lib.hid (RL.out.below hbd)
        have RA := Lib.hid hra
        clear hbd
        refine hK.out _ _ ?_ (fun hHeld => ?_)
        · (try dsimp only)
          obtain ⟨s0, s1⟩ := hHeld
          obtain ⟨hcc, _⟩ := bcell hb
          exact ⟨(hcc _ _ (by go_size)).trans s0, (hcc _ _ (by go_size)).trans s1⟩
        clear hK K
        (try simp only [Act.put, List.setIfInBounds_toArray, List.set_cons_zero, List.set_cons_succ])
        refine wpAnyH_take (i := 6) (oi := { dst := some 41, op := Go.Op.move (Go.Operand.tmp 47), type := 32, pos := "law.go:138", after := #[{ on := 5, ground := Go.Ground.data }], guard := none }) (v := ?_) rfl (by kernel_rfl) (by kernel_rfl) (by kernel_rfl) (fun _ _ _ h => h) (Or.inl ⟨by rfl, ?_⟩) (by assumption) ?_
        rotate_left
        · intro w hSw
          (try dsimp only at hSw)
          go_simp
          try with_reducible rfl
        (try simp only [Act.put, List.setIfInBounds_toArray, List.set_cons_zero, List.set_cons_succ])
        refine wpAnyH_take (i := 7) (oi := { dst := some 48, op := Go.Op.extract (Go.Operand.tmp 41) 0, type := 30, pos := "law.go:138", after := #[{ on := 6, ground := Go.Ground.data }], guard := none }) (v := ?_) rfl (by kernel_rfl) (by kernel_rfl) (by kernel_rfl) (fun _ _ _ h => h) (Or.inl ⟨by rfl, ?_⟩) (by assumption) ?_
        rotate_left
        · intro w hSw
          (try dsimp only at hSw)
          go_simp
          try with_reducible rfl
        (try simp only [Act.put, List.setIfInBounds_toArray, List.set_cons_zero, List.set_cons_succ])
        refine wpAnyH_take (i := 8) (oi := { dst := some 49, op := Go.Op.extract (Go.Operand.tmp 41) 1, type := 3, pos := "law.go:138", after := #[{ on := 6, ground := Go.Ground.data }, { on := 9, ground := Go.Ground.gcOnly Go.Departure.lateStores }], guard := none }) (v := ?_) rfl (by kernel_rfl) (by kernel_rfl) (by kernel_rfl) (fun _ _ _ h => h) (Or.inl ⟨by rfl, ?_⟩) (by assumption) ?_
        rotate_left
        · intro w hSw
          (try dsimp only at hSw)
          go_simp
          try with_reducible rfl
        (try simp only [Act.put, List.setIfInBounds_toArray, List.set_cons_zero, List.set_cons_succ])
        refine wpAnyH_take (i := 9) (oi := { dst := some 10, op := Go.Op.assign (Go.Operand.tmp 48), type := 30, pos := "law.go:138", after := #[{ on := 7, ground := Go.Ground.data }, { on := 5, ground := Go.Ground.chain }, { on := 0, ground := Go.Ground.phase }, { on := 1, ground := Go.Ground.phase }, { on := 2, ground := Go.Ground.phase }, { on := 3, ground := Go.Ground.phase }, { on := 4, ground := Go.Ground.phase }, { on := 5, ground := Go.Ground.phase }, { on := 6, ground := Go.Ground.phase }, { on := 7, ground := Go.Ground.phase }, { on := 8, ground := Go.Ground.textOnly Go.Departure.lateStores }], guard := none }) (v := ?_) rfl (by kernel_rfl) (by kernel_rfl) (by kernel_rfl) (fun _ _ _ h => h) (Or.inl ⟨by rfl, ?_⟩) (by assumption) ?_
        rotate_left
        · intro w hSw
          (try dsimp only at hSw)
          go_simp
          try with_reducible rfl
        (try simp only [Act.put, List.setIfInBounds_toArray, List.set_cons_zero, List.set_cons_succ])
        refine wpAnyH_take (i := 10) (oi := { dst := some 11, op := Go.Op.assign (Go.Operand.tmp 49), type := 3, pos := "law.go:138", after := #[{ on := 8, ground := Go.Ground.data }, { on := 9, ground := Go.Ground.chain }, { on := 0, ground := Go.Ground.phase }, { on := 1, ground := Go.Ground.phase }, { on := 2, ground := Go.Ground.phase }, { on := 3, ground := Go.Ground.phase }, { on := 4, ground := Go.Ground.phase }, { on := 5, ground := Go.Ground.phase }, { on := 6, ground := Go.Ground.phase }, { on := 7, ground := Go.Ground.phase }, { on := 8, ground := Go.Ground.phase }, { on := 9, ground := Go.Ground.phase }], guard := none }) (v := ?_) rfl (by kernel_rfl) (by kernel_rfl) (by kernel_rfl) (fun _ _ _ h => h) (Or.inl ⟨by rfl, ?_⟩) (by assumption) ?_
        rotate_left
        · intro w hSw
          (try dsimp only at hSw)
          go_simp
          try with_reducible rfl
        (try simp only [Act.put, List.setIfInBounds_toArray, List.set_cons_zero, List.set_cons_succ])
        have hq := hHeld
        clear s0 s1
        obtain ⟨s0, s1⟩ := hq
        refine wpAnyH_done (by kernel_rfl) ?_ _
        clear RO hro hra HL1
        go_wp2_with fail
        refine Calls.mono (HOLD.out _ HB.out) ?_
        intro e w6 hpost
        obtain ⟨rfl, hq6⟩ := hpost
        have hb : Below w5.heap.size w5 w6 := by obtain ⟨mo, rfl⟩ := hq6; exact below_drewN (Below.refl _ _) _
        clear hq6
        have RL := Lib.hid (RL.out.below hb)
        have RA := Lib.hid (RA.out.below hb)
        have s0 := ((bcell hb).1 W.heap.size 0 (by go_size)).trans s0
        have s1 := ((bcell hb).1 W.heap.size 1 (by go_size)).trans s1
        have HB := Lib.hid (HB.out.trans (hb.mono (by omega)))
        have hz := Nat.le_trans hz hb.size
        clear hb HOLD
        go_wp2_with fail
        refine Calls.mono (law10_From HN.out RA.out.row (Nat.le_refl _)) ?_
        intro e w7 hpost
        obtain ⟨vx, he, hrx, hb⟩ := hpost
        (try simp only [id] at he)
        subst he
        have RL := Lib.hid (RL.out.below hb)
        have s0 := ((bcell hb).1 W.heap.size 0 (by go_size)).trans s0
        have s1 := ((bcell hb).1 W.heap.size 1 (by go_size)).trans s1
        have HB := Lib.hid (HB.out.trans (hb.mono (by omega)))
        have hz := Nat.le_trans hz hb.size
        have RX := Lib.hid hrx
        clear hrx RA
        clear hb
        obtain ⟨Ax, capx, rfl, x1, x2, x3⟩ := RX.out.row
        obtain ⟨Al, capl, rfl, l1, l2, l3⟩ := RL.out.row
        have HC := Lib.hid x3
        have HD := Lib.hid l3
        unfold maxLen at x2 l2
        have hne : ((8 : Int) != (8 : Int)) = false := by simp
        clear x3 l3 RX RL
        go_wp2
        clear hne
        go_loopw [14] (fun i wr => ∃ k : Nat, k ≤ 8 ∧ i = .int .i64 k ∧ ∃ m, wr = w7.drewN m) (fun i _ => 8 - (intOf i).toNat)
        case atStart => exact ⟨0, by omega, rfl, 0, rfl⟩
        case round =>
          obtain ⟨k, hk, rfl, m, rfl⟩ := hrel
          obtain ⟨b, off, rfl, hb, hc⟩ := HC.out (by omega)
          obtain ⟨b2, off2, rfl, hb2, hc2⟩ := HD.out (by omega)
          by_cases hlt : k < 8
          · have g0 : (0 : Int) ≤ (k : Int) := Int.natCast_nonneg _
            have g1' : (k : Int) < (8 : Int) := by omega
            have hcx := hc k hlt
            have hdx := hc2 k hlt
            by_cases hka : k = q0
            · have qn : ((k : Int) != (q0 : Int)) = false := by simp [hka]
              clear hc HC hc2 HD hcx hdx hka
              go_wp2_with fail
              refine wp_region_held_drew (S := fun w' => w'.cell? ⟨W.heap.size, 0, none⟩ = some (.int .i64 9)) (by kernel_rfl) ?_ (fun hHeld => ?_)
              · exact s0
              refine wpAnyH_take (i := 0) (oi := { dst := some 82, op := Go.Op.move (Go.Operand.tmp 14), type := 3, pos := "law.go:148", after := #[], guard := none }) (v := ?_) rfl (by kernel_rfl) (by kernel_rfl) (by kernel_rfl) (fun _ _ _ h => h) (Or.inl ⟨by rfl, ?_⟩) (by assumption) ?_
              rotate_left
              · intro w hSw
                (try dsimp only at hSw)
                go_simp
                try with_reducible rfl
              (try simp only [Act.put, List.setIfInBounds_toArray, List.set_cons_zero, List.set_cons_succ])
              refine wpAnyH_take (i := 1) (oi := { dst := some 83, op := Go.Op.move (Go.Operand.tmp 12), type := 3, pos := "law.go:148", after := #[], guard := none }) (v := ?_) rfl (by kernel_rfl) (by kernel_rfl) (by kernel_rfl) (fun _ _ _ h => h) (Or.inl ⟨by rfl, ?_⟩) (by assumption) ?_
              rotate_left
              · intro w hSw
                (try dsimp only at hSw)
                go_simp
                try with_reducible rfl
              (try simp only [Act.put, List.setIfInBounds_toArray, List.set_cons_zero, List.set_cons_succ])
              refine wpAnyH_take (i := 2) (oi := { dst := some 84, op := Go.Op.binOp Go.BinOp.neq 3 (Go.Operand.tmp 82) (Go.Operand.tmp 83) 3, type := 4, pos := "law.go:148", after := #[{ on := 0, ground := Go.Ground.data }, { on := 1, ground := Go.Ground.data }], guard := none }) (v := ?_) rfl (by kernel_rfl) (by kernel_rfl) (by kernel_rfl) (fun _ _ _ h => h) (Or.inl ⟨by rfl, ?_⟩) (by assumption) ?_
              rotate_left
              · intro w hSw
                (try dsimp only at hSw)
                go_simp
                try with_reducible rfl
              (try simp only [Act.put, List.setIfInBounds_toArray, List.set_cons_zero, List.set_cons_succ])
              refine wpAnyH_take (i := 3) (oi := { dst := some 85, op := Go.Op.move (Go.Operand.tmp 84), type := 4, pos := "law.go:148", after := #[{ on := 2, ground := Go.Ground.data }], guard := none }) (v := ?_) rfl (by kernel_rfl) (by kernel_rfl) (by kernel_rfl) (fun _ _ _ h => h) (Or.inl ⟨by rfl, ?_⟩) (by assumption) ?_
              rotate_left
              · intro w hSw
                (try dsimp only at hSw)
                go_simp
                try with_reducible rfl
              (try simp only [Act.put, List.setIfInBounds_toArray, List.set_cons_zero, List.set_cons_succ])
              refine wpAnyH_take (i := 4) (oi := { dst := some 86, op := Go.Op.move (Go.Operand.tmp 13), type := 22, pos := "law.go:148", after := #[{ on := 3, ground := Go.Ground.guard }], guard := some (3, true) }) (v := undef) rfl (by kernel_rfl) (by kernel_rfl) (by kernel_rfl) (fun _ _ _ h => h) (Or.inr ⟨by rfl, rfl⟩) (by assumption) ?_
              (try simp only [Act.put, List.setIfInBounds_toArray, List.set_cons_zero, List.set_cons_succ])
              refine wpAnyH_take (i := 5) (oi := { dst := some 87, op := Go.Op.move (Go.Operand.tmp 14), type := 3, pos := "law.go:148", after := #[{ on := 3, ground := Go.Ground.guard }], guard := some (3, true) }) (v := undef) rfl (by kernel_rfl) (by kernel_rfl) (by kernel_rfl) (fun _ _ _ h => h) (Or.inr ⟨by rfl, rfl⟩) (by assumption) ?_
              (try simp only [Act.put, List.setIfInBounds_toArray, List.set_cons_zero, List.set_cons_succ])
              refine wpAnyH_take (i := 6) (oi := { dst := some 88, op := Go.Op.indexAddr 22 (Go.Operand.tmp 86) (Go.Operand.tmp 87), type := 0, pos := "law.go:148", after := #[{ on := 4, ground := Go.Ground.data }, { on := 5, ground := Go.Ground.data }, { on := 3, ground := Go.Ground.guard }], guard := some (3, true) }) (v := undef) rfl (by kernel_rfl) (by kernel_rfl) (by kernel_rfl) (fun _ _ _ h => h) (Or.inr ⟨by rfl, rfl⟩) (by assumption) ?_
              (try simp only [Act.put, List.setIfInBounds_toArray, List.set_cons_zero, List.set_cons_succ])
              refine wpAnyH_take (i := 7) (oi := { dst := some 89, op := Go.Op.load 74 (Go.Operand.tmp 88), type := 74, pos := "law.go:148", after := #[{ on := 6, ground := Go.Ground.data }, { on := 3, ground := Go.Ground.guard }], guard := some (3, true) }) (v := undef) rfl (by kernel_rfl) (by kernel_rfl) (by kernel_rfl) (fun _ _ _ h => h) (Or.inr ⟨by rfl, rfl⟩) (by assumption) ?_
              (try simp only [Act.put, List.setIfInBounds_toArray, List.set_cons_zero, List.set_cons_succ])
              refine wpAnyH_take (i := 8) (oi := { dst := some 90, op := Go.Op.move (Go.Operand.tmp 8), type := 22, pos := "law.go:148", after := #[{ on := 3, ground := Go.Ground.guard }], guard := some (3, true) }) (v := undef) rfl (by kernel_rfl) (by kernel_rfl) (by kernel_rfl) (fun _ _ _ h => h) (Or.inr ⟨by rfl, rfl⟩) (by assumption) ?_
              (try simp only [Act.put, List.setIfInBounds_toArray, List.set_cons_zero, List.set_cons_succ])
              refine wpAnyH_take (i := 9) (oi := { dst := some 91, op := Go.Op.move (Go.Operand.tmp 14), type := 3, pos := "law.go:148", after := #[{ on := 3, ground := Go.Ground.guard }], guard := some (3, true) }) (v := undef) rfl (by kernel_rfl) (by kernel_rfl) (by kernel_rfl) (fun _ _ _ h => h) (Or.inr ⟨by rfl, rfl⟩) (by assumption) ?_
              (try simp only [Act.put, List.setIfInBounds_toArray, List.set_cons_zero, List.set_cons_succ])
              refine wpAnyH_take (i := 10) (oi := { dst := some 92, op := Go.Op.indexAddr 22 (Go.Operand.tmp 90) (Go.Operand.tmp 91), type := 0, pos := "law.go:148", after := #[{ on := 8, ground := Go.Ground.data }, { on := 9, ground := Go.Ground.data }, { on := 3, ground := Go.Ground.guard }], guard := some (3, true) }) (v := undef) rfl (by kernel_rfl) (by kernel_rfl) (by kernel_rfl) (fun _ _ _ h => h) (Or.inr ⟨by rfl, rfl⟩) (by assumption) ?_
              (try simp only [Act.put, List.setIfInBounds_toArray, List.set_cons_zero, List.set_cons_succ])
              refine wpAnyH_take (i := 11) (oi := { dst := some 93, op := Go.Op.load 74 (Go.Operand.tmp 92), type := 74, pos := "law.go:148", after := #[{ on := 10, ground := Go.Ground.data }, { on := 3, ground := Go.Ground.guard }], guard := some (3, true) }) (v := undef) rfl (by kernel_rfl) (by kernel_rfl) (by kernel_rfl) (fun _ _ _ h => h) (Or.inr ⟨by rfl, rfl⟩) (by assumption) ?_
              (try simp only [Act.put, List.setIfInBounds_toArray, List.set_cons_zero, List.set_cons_succ])
              refine wpAnyH_take (i := 12) (oi := { dst := some 94, op := Go.Op.binOp Go.BinOp.neq 74 (Go.Operand.tmp 89) (Go.Operand.tmp 93) 74, type := 4, pos := "law.go:148", after := #[{ on := 7, ground := Go.Ground.data }, { on := 11, ground := Go.Ground.data }, { on := 3, ground := Go.Ground.guard }], guard := some (3, true) }) (v := undef) rfl (by kernel_rfl) (by kernel_rfl) (by kernel_rfl) (fun _ _ _ h => h) (Or.inr ⟨by rfl, rfl⟩) (by assumption) ?_
              (try simp only [Act.put, List.setIfInBounds_toArray, List.set_cons_zero, List.set_cons_succ])
              refine wpAnyH_take (i := 13) (oi := { dst := some 95, op := Go.Op.pick (Go.Operand.tmp 85) (Go.Operand.tmp 94) (Go.Operand.const (Go.Value.bool false)), type := 4, pos := "law.go:148", after := #[{ on := 3, ground := Go.Ground.data }, { on := 12, ground := Go.Ground.data }], guard := none }) (v := ?_) rfl (by kernel_rfl) (by kernel_rfl) (by kernel_rfl) (fun _ _ _ h => h) (Or.inl ⟨by rfl, ?_⟩) (by assumption) ?_
              rotate_left
              · intro w hSw
                (try dsimp only at hSw)
                go_simp
                try with_reducible rfl
              (try simp only [Act.put, List.setIfInBounds_toArray, List.set_cons_zero, List.set_cons_succ])
              refine wpAnyH_done (by kernel_rfl) ?_ _
              go_wp2
              go_roundw
              case rel => exact ⟨k + 1, by omega, by go_num, _, (by first | rfl | exact World.drewN_drewN _ _ _)⟩
              case measure => simp [intOf]; omega
            · have qn : ((k : Int) != (q0 : Int)) = true := by simp; omega
              rw [HPUT.out k hlt hka] at hcx
              clear hc HC hc2 HD hka
              obtain ⟨sk, hsk⟩ : ∃ sk, S k = sk := ⟨_, rfl⟩
              unfold fullF at hcx hdx
              rw [hsk] at hcx hdx
              clear hsk
              obtain ⟨c0', c1', c2', c3', c4', c5'⟩ := hcx
              have c0 : (w7.drewN m).cell? ⟨b, off + k * 6, none⟩ = some (.bool true) := c0'
              have c1 : (w7.drewN m).cell? ⟨b, off + k * 6 + 1, none⟩ = some (.int .i64 1) := c1'
              have c2 : (w7.drewN m).cell? ⟨b, off + k * 6 + 2, none⟩ = some (.int .u64 ((2 * k + 2 : Nat) : Int)) := c2'
              have c3 : (w7.drewN m).cell? ⟨b, off + k * 6 + 3, none⟩ = some (.int .i64 (k : Int)) := c3'
              have c4 : (w7.drewN m).cell? ⟨b, off + k * 6 + 4, none⟩ = some (.bool false) := c4'
              have c5 : (w7.drewN m).cell? ⟨b, off + k * 6 + 5, none⟩ = some (.int .u32 (sk : Int)) := c5'
              clear c0' c1' c2' c3' c4' c5'
              obtain ⟨d0', d1', d2', d3', d4', d5'⟩ := hdx
              have d0 : (w7.drewN m).cell? ⟨b2, off2 + k * 6, none⟩ = some (.bool true) := d0'
              have d1 : (w7.drewN m).cell? ⟨b2, off2 + k * 6 + 1, none⟩ = some (.int .i64 1) := d1'
              have d2 : (w7.drewN m).cell? ⟨b2, off2 + k * 6 + 2, none⟩ = some (.int .u64 ((2 * k + 2 : Nat) : Int)) := d2'
              have d3 : (w7.drewN m).cell? ⟨b2, off2 + k * 6 + 3, none⟩ = some (.int .i64 (k : Int)) := d3'
              have d4 : (w7.drewN m).cell? ⟨b2, off2 + k * 6 + 4, none⟩ = some (.bool false) := d4'
              have d5 : (w7.drewN m).cell? ⟨b2, off2 + k * 6 + 5, none⟩ = some (.int .u32 (sk : Int)) := d5'
              clear d0' d1' d2' d3' d4' d5'
              go_wp2_with fail
              refine wp_region_held_drew (S := fun w' => w'.cell? ⟨b, off + k * 6, none⟩ = some (.bool true) ∧ w'.cell? ⟨b, off + k * 6 + 1, none⟩ = some (.int .i64 1) ∧ w'.cell? ⟨b, off + k * 6 + 2, none⟩ = some (.int .u64 ((2 * k + 2 : Nat) : Int)) ∧ w'.cell? ⟨b, off + k * 6 + 3, none⟩ = some (.int .i64 (k : Int)) ∧ w'.cell? ⟨b, off + k * 6 + 4, none⟩ = some (.bool false) ∧ w'.cell? ⟨b, off + k * 6 + 5, none⟩ = some (.int .u32 (sk : Int)) ∧ w'.cell? ⟨b2, off2 + k * 6, none⟩ = some (.bool true) ∧ w'.cell? ⟨b2, off2 + k * 6 + 1, none⟩ = some (.int .i64 1) ∧ w'.cell? ⟨b2, off2 + k * 6 + 2, none⟩ = some (.int .u64 ((2 * k + 2 : Nat) : Int)) ∧ w'.cell? ⟨b2, off2 + k * 6 + 3, none⟩ = some (.int .i64 (k : Int)) ∧ w'.cell? ⟨b2, off2 + k * 6 + 4, none⟩ = some (.bool false) ∧ w'.cell? ⟨b2, off2 + k * 6 + 5, none⟩ = some (.int .u32 (sk : Int))) (by kernel_rfl) ?_ (fun hHeld => ?_)
              · exact ⟨c0, c1, c2, c3, c4, c5, d0, d1, d2, d3, d4, d5⟩
              refine wpAnyH_take (i := 0) (oi := { dst := some 82, op := Go.Op.move (Go.Operand.tmp 14), type := 3, pos := "law.go:148", after := #[], guard := none }) (v := ?_) rfl (by kernel_rfl) (by kernel_rfl) (by kernel_rfl) (fun _ _ _ h => h) (Or.inl ⟨by rfl, ?_⟩) (by assumption) ?_
              rotate_left
              · intro w hSw
                (try dsimp only at hSw)
                go_simp
                try with_reducible rfl
              (try simp only [Act.put, List.setIfInBounds_toArray, List.set_cons_zero, List.set_cons_succ])
              refine wpAnyH_take (i := 1) (oi := { dst := some 83, op := Go.Op.move (Go.Operand.tmp 12), type := 3, pos := "law.go:148", after := #[], guard := none }) (v := ?_) rfl (by kernel_rfl) (by kernel_rfl) (by kernel_rfl) (fun _ _ _ h => h) (Or.inl ⟨by rfl, ?_⟩) (by assumption) ?_
              rotate_left
              · intro w hSw
                (try dsimp only at hSw)
                go_simp
                try with_reducible rfl
              (try simp only [Act.put, List.setIfInBounds_toArray, List.set_cons_zero, List.set_cons_succ])
              refine wpAnyH_take (i := 2) (oi := { dst := some 84, op := Go.Op.binOp Go.BinOp.neq 3 (Go.Operand.tmp 82) (Go.Operand.tmp 83) 3, type := 4, pos := "law.go:148", after := #[{ on := 0, ground := Go.Ground.data }, { on := 1, ground := Go.Ground.data }], guard := none }) (v := ?_) rfl (by kernel_rfl) (by kernel_rfl) (by kernel_rfl) (fun _ _ _ h => h) (Or.inl ⟨by rfl, ?_⟩) (by assumption) ?_
              rotate_left
              · intro w hSw
                (try dsimp only at hSw)
                go_simp
                try with_reducible rfl
              (try simp only [Act.put, List.setIfInBounds_toArray, List.set_cons_zero, List.set_cons_succ])
              refine wpAnyH_take (i := 3) (oi := { dst := some 85, op := Go.Op.move (Go.Operand.tmp 84), type := 4, pos := "law.go:148", after := #[{ on := 2, ground := Go.Ground.data }], guard := none }) (v := ?_) rfl (by kernel_rfl) (by kernel_rfl) (by kernel_rfl) (fun _ _ _ h => h) (Or.inl ⟨by rfl, ?_⟩) (by assumption) ?_
              rotate_left
              · intro w hSw
                (try dsimp only at hSw)
                go_simp
                try with_reducible rfl
              (try simp only [Act.put, List.setIfInBounds_toArray, List.set_cons_zero, List.set_cons_succ])
              refine wpAnyH_take (i := 4) (oi := { dst := some 86, op := Go.Op.move (Go.Operand.tmp 13), type := 22, pos := "law.go:148", after := #[{ on := 3, ground := Go.Ground.guard }], guard := some (3, true) }) (v := ?_) rfl (by kernel_rfl) (by kernel_rfl) (by kernel_rfl) (fun _ _ _ h => h) (Or.inl ⟨by rfl, ?_⟩) (by assumption) ?_
              rotate_left
              · intro w hSw
                (try dsimp only at hSw)
                go_simp
                try with_reducible rfl
              (try simp only [Act.put, List.setIfInBounds_toArray, List.set_cons_zero, List.set_cons_succ])
              refine wpAnyH_take (i := 5) (oi := { dst := some 87, op := Go.Op.move (Go.Operand.tmp 14), type := 3, pos := "law.go:148", after := #[{ on := 3, ground := Go.Ground.guard }], guard := some (3, true) }) (v := ?_) rfl (by kernel_rfl) (by kernel_rfl) (by kernel_rfl) (fun _ _ _ h => h) (Or.inl ⟨by rfl, ?_⟩) (by assumption) ?_
              rotate_left
              · intro w hSw
                (try dsimp only at hSw)
                go_simp
                try with_reducible rfl
              (try simp only [Act.put, List.setIfInBounds_toArray, List.set_cons_zero, List.set_cons_succ])
              refine wpAnyH_take (i := 6) (oi := { dst := some 88, op := Go.Op.indexAddr 22 (Go.Operand.tmp 86) (Go.Operand.tmp 87), type := 0, pos := "law.go:148", after := #[{ on := 4, ground := Go.Ground.data }, { on := 5, ground := Go.Ground.data }, { on := 3, ground := Go.Ground.guard }], guard := some (3, true) }) (v := ?_) rfl (by kernel_rfl) (by kernel_rfl) (by kernel_rfl) (fun _ _ _ h => h) (Or.inl ⟨by rfl, ?_⟩) (by assumption) ?_
              rotate_left
              · intro w hSw
                (try dsimp only at hSw)
                go_simp
                try with_reducible rfl
              (try simp only [Act.put, List.setIfInBounds_toArray, List.set_cons_zero, List.set_cons_succ])
              refine wpAnyH_take (i := 7) (oi := { dst := some 89, op := Go.Op.load 74 (Go.Operand.tmp 88), type := 74, pos := "law.go:148", after := #[{ on := 6, ground := Go.Ground.data }, { on := 3, ground := Go.Ground.guard }], guard := some (3, true) }) (v := ?_) rfl (by kernel_rfl) (by kernel_rfl) (by kernel_rfl) (fun _ _ _ h => h) (Or.inl ⟨by rfl, ?_⟩) (by assumption) ?_
              rotate_left
              · intro w hSw
                (try dsimp only at hSw)
                go_simp
                try with_reducible rfl
              (try simp only [Act.put, List.setIfInBounds_toArray, List.set_cons_zero, List.set_cons_succ])
              refine wpAnyH_take (i := 8) (oi := { dst := some 90, op := Go.Op.move (Go.Operand.tmp 8), type := 22, pos := "law.go:148", after := #[{ on := 3, ground := Go.Ground.guard }], guard := some (3, true) }) (v := ?_) rfl (by kernel_rfl) (by kernel_rfl) (by kernel_rfl) (fun _ _ _ h => h) (Or.inl ⟨by rfl, ?_⟩) (by assumption) ?_
              rotate_left
              · intro w hSw
                (try dsimp only at hSw)
                go_simp
                try with_reducible rfl
              (try simp only [Act.put, List.setIfInBounds_toArray, List.set_cons_zero, List.set_cons_succ])
              refine wpAnyH_take (i := 9) (oi := { dst := some 91, op := Go.Op.move (Go.Operand.tmp 14), type := 3, pos := "law.go:148", after := #[{ on := 3, ground := Go.Ground.guard }], guard := some (3, true) }) (v := ?_) rfl (by kernel_rfl) (by kernel_rfl) (by kernel_rfl) (fun _ _ _ h => h) (Or.inl ⟨by rfl, ?_⟩) (by assumption) ?_
              rotate_left
              · intro w hSw
                (try dsimp only at hSw)
                go_simp
                try with_reducible rfl
              (try simp only [Act.put, List.setIfInBounds_toArray, List.set_cons_zero, List.set_cons_succ])
              refine wpAnyH_take (i := 10) (oi := { dst := some 92, op := Go.Op.indexAddr 22 (Go.Operand.tmp 90) (Go.Operand.tmp 91), type := 0, pos := "law.go:148", after := #[{ on := 8, ground := Go.Ground.data }, { on := 9, ground := Go.Ground.data }, { on := 3, ground := Go.Ground.guard }], guard := some (3, true) }) (v := ?_) rfl (by kernel_rfl) (by kernel_rfl) (by kernel_rfl) (fun _ _ _ h => h) (Or.inl ⟨by rfl, ?_⟩) (by assumption) ?_
              rotate_left
              · intro w hSw
                (try dsimp only at hSw)
                go_simp
                try with_reducible rfl
              (try simp only [Act.put, List.setIfInBounds_toArray, List.set_cons_zero, List.set_cons_succ])
              refine wpAnyH_take (i := 11) (oi := { dst := some 93, op := Go.Op.load 74 (Go.Operand.tmp 92), type := 74, pos := "law.go:148", after := #[{ on := 10, ground := Go.Ground.data }, { on := 3, ground := Go.Ground.guard }], guard := some (3, true) }) (v := ?_) rfl (by kernel_rfl) (by kernel_rfl) (by kernel_rfl) (fun _ _ _ h => h) (Or.inl ⟨by rfl, ?_⟩) (by assumption) ?_
              rotate_left
              · intro w hSw
                (try dsimp only at hSw)
                go_simp
                try with_reducible rfl
              (try simp only [Act.put, List.setIfInBounds_toArray, List.set_cons_zero, List.set_cons_succ])
              refine wpAnyH_take (i := 12) (oi := { dst := some 94, op := Go.Op.binOp Go.BinOp.neq 74 (Go.Operand.tmp 89) (Go.Operand.tmp 93) 74, type := 4, pos := "law.go:148", after := #[{ on := 7, ground := Go.Ground.data }, { on := 11, ground := Go.Ground.data }, { on := 3, ground := Go.Ground.guard }], guard := some (3, true) }) (v := ?_) rfl (by kernel_rfl) (by kernel_rfl) (by kernel_rfl) (fun _ _ _ h => h) (Or.inl ⟨by rfl, ?_⟩) (by assumption) ?_
              rotate_left
              · intro w hSw
                (try dsimp only at hSw)
                go_simp
                try with_reducible rfl
              (try simp only [Act.put, List.setIfInBounds_toArray, List.set_cons_zero, List.set_cons_succ])
              refine wpAnyH_take (i := 13) (oi := { dst := some 95, op := Go.Op.pick (Go.Operand.tmp 85) (Go.Operand.tmp 94) (Go.Operand.const (Go.Value.bool false)), type := 4, pos := "law.go:148", after := #[{ on := 3, ground := Go.Ground.data }, { on := 12, ground := Go.Ground.data }], guard := none }) (v := ?_) rfl (by kernel_rfl) (by kernel_rfl) (by kernel_rfl) (fun _ _ _ h => h) (Or.inl ⟨by rfl, ?_⟩) (by assumption) ?_
              rotate_left
              · intro w hSw
                (try dsimp only at hSw)
                go_simp
                try with_reducible rfl
              (try simp only [Act.put, List.setIfInBounds_toArray, List.set_cons_zero, List.set_cons_succ])
              refine wpAnyH_done (by kernel_rfl) ?_ _
              go_wp2
              go_roundw
              case rel => exact ⟨k + 1, by omega, by go_num, _, (by first | rfl | exact World.drewN_drewN _ _ _)⟩
              case measure => simp [intOf]; omega
          · have : 8 = k := by omega
            subst this
            have hcx := hc q0 HQ0.out
            rw [HNEW.out] at hcx
            have gq : (0 : Int) ≤ (q0 : Int) := Int.natCast_nonneg _
            have gq1 : (q0 : Int) < (8 : Int) := by have := HQ0.out; omega
            have hbz := hb
            clear hc HC hc2 HD
            obtain ⟨c0', c1', c2', c3', c4', c5'⟩ := hcx
            have c0 : (w7.drewN m).cell? ⟨b, off + q0 * 6, none⟩ = some (.bool true) := c0'
            have c1 : (w7.drewN m).cell? ⟨b, off + q0 * 6 + 1, none⟩ = some (.int .i64 9) := c1'
            have c2 : (w7.drewN m).cell? ⟨b, off + q0 * 6 + 2, none⟩ = some (.int .u64 (M : Int)) := c2'
            have c3 : (w7.drewN m).cell? ⟨b, off + q0 * 6 + 3, none⟩ = some (.int .i64 5) := c3'
            have c4 : (w7.drewN m).cell? ⟨b, off + q0 * 6 + 4, none⟩ = some (.bool false) := c4'
            have c5 : (w7.drewN m).cell? ⟨b, off + q0 * 6 + 5, none⟩ = some (.int .u32 (a2 : Int)) := c5'
            clear c0' c1' c2' c3' c4' c5'
            have s0 : (w7.drewN m).cell? ⟨W.heap.size, 0, none⟩ = some (.int .i64 9) := s0
            have s1 : (w7.drewN m).cell? ⟨W.heap.size, 1, none⟩ = some (.int .u64 (M : Int)) := s1
            have HB := Lib.hid (below_drewN HB.out m)
            have hzd : (w7.drewN m).heap.size = w7.heap.size := rfl
            go_wp2_with fail
            refine wp_region_held_drew (S := fun w' => w'.cell? ⟨b, off + q0 * 6, none⟩ = some (.bool true) ∧ w'.cell? ⟨b, off + q0 * 6 + 1, none⟩ = some (.int .i64 9) ∧ w'.cell? ⟨b, off + q0 * 6 + 2, none⟩ = some (.int .u64 (M : Int)) ∧ w'.cell? ⟨b, off + q0 * 6 + 3, none⟩ = some (.int .i64 5) ∧ w'.cell? ⟨b, off + q0 * 6 + 4, none⟩ = some (.bool false) ∧ w'.cell? ⟨b, off + q0 * 6 + 5, none⟩ = some (.int .u32 (a2 : Int)) ∧ w'.cell? ⟨W.heap.size, 0, none⟩ = some (.int .i64 9) ∧ w'.cell? ⟨W.heap.size, 1, none⟩ = some (.int .u64 (M : Int))) (by kernel_rfl) ?_ (fun hHeld => ?_)
            · exact ⟨c0, c1, c2, c3, c4, c5, s0, s1⟩
            refine wpAnyH_ready (rs := [0]) (by kernel_rfl) (by simp) ?_
            refine AllReadyH.cons (o := { dst := some 96, op := Go.Op.call { callee := Go.Callee.value (Go.Operand.func 19), args := #[], argTypes := #[] }, type := 4, pos := "law.go:152", after := #[], guard := none }) rfl (fun K hK => ?_) AllReadyH.nil
            go_simp
            refine Calls.mono (told10 _) ?_
            intro e w8 hpost
            obtain ⟨rfl, hb8⟩ := hpost
            have hbd : Below (w7.drewN m).heap.size (w7.drewN m) w8 := ((Below.refl (w7.drewN m).heap.size (w7.drewN m)).drew).trans hb8
            have HB8 := Lib.hid (HB.out.trans (hbd.mono (by omega)))
            clear hbd
            refine hK.out _ _ ?_ (fun hHeld => ?_)
            · (try dsimp only)
              obtain ⟨c0, c1, c2, c3, c4, c5, s0, s1⟩ := hHeld
              obtain ⟨hcc, _⟩ := bcell hb8
              exact ⟨(hcc _ _ (by show b < w7.heap.size; omega)).trans c0, (hcc _ _ (by show b < w7.heap.size; omega)).trans c1, (hcc _ _ (by show b < w7.heap.size; omega)).trans c2, (hcc _ _ (by show b < w7.heap.size; omega)).trans c3, (hcc _ _ (by show b < w7.heap.size; omega)).trans c4, (hcc _ _ (by show b < w7.heap.size; omega)).trans c5, (hcc _ _ (by show W.heap.size < w7.heap.size; omega)).trans s0, (hcc _ _ (by show W.heap.size < w7.heap.size; omega)).trans s1⟩
            clear hK K
            (try simp only [Act.put, List.setIfInBounds_toArray, List.set_cons_zero, List.set_cons_succ])
            refine wpAnyH_take (i := 1) (oi := { dst := some 97, op := Go.Op.move (Go.Operand.tmp 96), type := 4, pos := "law.go:152", after := #[{ on := 0, ground := Go.Ground.data }, { on := 0, ground := Go.Ground.chain }], guard := none }) (v := ?_) rfl (by kernel_rfl) (by kernel_rfl) (by kernel_rfl) (fun _ _ _ h => h) (Or.inl ⟨by rfl, ?_⟩) (by assumption) ?_
            rotate_left
            · intro w hSw
              (try dsimp only at hSw)
              go_simp
              try with_reducible rfl
            (try simp only [Act.put, List.setIfInBounds_toArray, List.set_cons_zero, List.set_cons_succ])
            refine wpAnyH_take (i := 2) (oi := { dst := some 98, op := Go.Op.move (Go.Operand.tmp 13), type := 22, pos := "law.go:152", after := #[{ on := 1, ground := Go.Ground.guard }], guard := some (1, true) }) (v := ?_) rfl (by kernel_rfl) (by kernel_rfl) (by kernel_rfl) (fun _ _ _ h => h) (Or.inl ⟨by rfl, ?_⟩) (by assumption) ?_
            rotate_left
            · intro w hSw
              (try dsimp only at hSw)
              go_simp
              try with_reducible rfl
            (try simp only [Act.put, List.setIfInBounds_toArray, List.set_cons_zero, List.set_cons_succ])
            refine wpAnyH_take (i := 3) (oi := { dst := some 99, op := Go.Op.move (Go.Operand.tmp 12), type := 3, pos := "law.go:152", after := #[{ on := 1, ground := Go.Ground.guard }], guard := some (1, true) }) (v := ?_) rfl (by kernel_rfl) (by kernel_rfl) (by kernel_rfl) (fun _ _ _ h => h) (Or.inl ⟨by rfl, ?_⟩) (by assumption) ?_
            rotate_left
            · intro w hSw
              (try dsimp only at hSw)
              go_simp
              try with_reducible rfl
            (try simp only [Act.put, List.setIfInBounds_toArray, List.set_cons_zero, List.set_cons_succ])
            refine wpAnyH_take (i := 4) (oi := { dst := some 100, op := Go.Op.indexAddr 22 (Go.Operand.tmp 98) (Go.Operand.tmp 99), type := 0, pos := "law.go:152", after := #[{ on := 2, ground := Go.Ground.data }, { on := 3, ground := Go.Ground.data }, { on := 1, ground := Go.Ground.guard }], guard := some (1, true) }) (v := ?_) rfl (by kernel_rfl) (by kernel_rfl) (by kernel_rfl) (fun _ _ _ h => h) (Or.inl ⟨by rfl, ?_⟩) (by assumption) ?_
            rotate_left
            · intro w hSw
              (try dsimp only at hSw)
              go_simp
              try with_reducible rfl
            (try simp only [Act.put, List.setIfInBounds_toArray, List.set_cons_zero, List.set_cons_succ])
            refine wpAnyH_take (i := 5) (oi := { dst := some 101, op := Go.Op.fieldAddr 74 (Go.Operand.tmp 100) 0, type := 0, pos := "law.go:152", after := #[{ on := 4, ground := Go.Ground.data }, { on := 1, ground := Go.Ground.guard }], guard := some (1, true) }) (v := ?_) rfl (by kernel_rfl) (by kernel_rfl) (by kernel_rfl) (fun _ _ _ h => h) (Or.inl ⟨by rfl, ?_⟩) (by assumption) ?_
            rotate_left
            · intro w hSw
              (try dsimp only at hSw)
              go_simp
              try with_reducible rfl
            (try simp only [Act.put, List.setIfInBounds_toArray, List.set_cons_zero, List.set_cons_succ])
            refine wpAnyH_take (i := 6) (oi := { dst := some 102, op := Go.Op.load 4 (Go.Operand.tmp 101), type := 4, pos := "law.go:152", after := #[{ on := 5, ground := Go.Ground.data }, { on := 1, ground := Go.Ground.guard }], guard := some (1, true) }) (v := ?_) rfl (by kernel_rfl) (by kernel_rfl) (by kernel_rfl) (fun _ _ _ h => h) (Or.inl ⟨by rfl, ?_⟩) (by assumption) ?_
            rotate_left
            · intro w hSw
              (try dsimp only at hSw)
              go_simp
              try with_reducible rfl
            (try simp only [Act.put, List.setIfInBounds_toArray, List.set_cons_zero, List.set_cons_succ])
            refine wpAnyH_take (i := 7) (oi := { dst := some 103, op := Go.Op.pick (Go.Operand.tmp 97) (Go.Operand.tmp 102) (Go.Operand.const (Go.Value.bool false)), type := 4, pos := "law.go:152", after := #[{ on := 1, ground := Go.Ground.data }, { on := 6, ground := Go.Ground.data }], guard := none }) (v := ?_) rfl (by kernel_rfl) (by kernel_rfl) (by kernel_rfl) (fun _ _ _ h => h) (Or.inl ⟨by rfl, ?_⟩) (by assumption) ?_
            rotate_left
            · intro w hSw
              (try dsimp only at hSw)
              go_simp
              try with_reducible rfl
            (try simp only [Act.put, List.setIfInBounds_toArray, List.set_cons_zero, List.set_cons_succ])
            refine wpAnyH_take (i := 8) (oi := { dst := some 104, op := Go.Op.move (Go.Operand.tmp 103), type := 4, pos := "law.go:152", after := #[{ on := 7, ground := Go.Ground.data }, { on := 1, ground := Go.Ground.chain }], guard := none }) (v := ?_) rfl (by kernel_rfl) (by kernel_rfl) (by kernel_rfl) (fun _ _ _ h => h) (Or.inl ⟨by rfl, ?_⟩) (by assumption) ?_
            rotate_left
            · intro w hSw
              (try dsimp only at hSw)
              go_simp
              try with_reducible rfl
            (try simp only [Act.put, List.setIfInBounds_toArray, List.set_cons_zero, List.set_cons_succ])
            refine wpAnyH_take (i := 9) (oi := { dst := some 105, op := Go.Op.move (Go.Operand.tmp 13), type := 22, pos := "law.go:152", after := #[{ on := 8, ground := Go.Ground.guard }], guard := some (8, true) }) (v := ?_) rfl (by kernel_rfl) (by kernel_rfl) (by kernel_rfl) (fun _ _ _ h => h) (Or.inl ⟨by rfl, ?_⟩) (by assumption) ?_
            rotate_left
            · intro w hSw
              (try dsimp only at hSw)
              go_simp
              try with_reducible rfl
            (try simp only [Act.put, List.setIfInBounds_toArray, List.set_cons_zero, List.set_cons_succ])
            refine wpAnyH_take (i := 10) (oi := { dst := some 106, op := Go.Op.move (Go.Operand.tmp 12), type := 3, pos := "law.go:152", after := #[{ on := 8, ground := Go.Ground.guard }], guard := some (8, true) }) (v := ?_) rfl (by kernel_rfl) (by kernel_rfl) (by kernel_rfl) (fun _ _ _ h => h) (Or.inl ⟨by rfl, ?_⟩) (by assumption) ?_
            rotate_left
            · intro w hSw
              (try dsimp only at hSw)
              go_simp
              try with_reducible rfl
            (try simp only [Act.put, List.setIfInBounds_toArray, List.set_cons_zero, List.set_cons_succ])
            refine wpAnyH_take (i := 11) (oi := { dst := some 107, op := Go.Op.indexAddr 22 (Go.Operand.tmp 105) (Go.Operand.tmp 106), type := 0, pos := "law.go:152", after := #[{ on := 9, ground := Go.Ground.data }, { on := 10, ground := Go.Ground.data }, { on := 8, ground := Go.Ground.guard }], guard := some (8, true) }) (v := ?_) rfl (by kernel_rfl) (by kernel_rfl) (by kernel_rfl) (fun _ _ _ h => h) (Or.inl ⟨by rfl, ?_⟩) (by assumption) ?_
            rotate_left
            · intro w hSw
              (try dsimp only at hSw)
              go_simp
              try with_reducible rfl
            (try simp only [Act.put, List.setIfInBounds_toArray, List.set_cons_zero, List.set_cons_succ])
            refine wpAnyH_take (i := 12) (oi := { dst := some 108, op := Go.Op.fieldAddr 74 (Go.Operand.tmp 107) 1, type := 0, pos := "law.go:152", after := #[{ on := 11, ground := Go.Ground.data }, { on := 8, ground := Go.Ground.guard }], guard := some (8, true) }) (v := ?_) rfl (by kernel_rfl) (by kernel_rfl) (by kernel_rfl) (fun _ _ _ h => h) (Or.inl ⟨by rfl, ?_⟩) (by assumption) ?_
            rotate_left
            · intro w hSw
              (try dsimp only at hSw)
              go_simp
              try with_reducible rfl
            (try simp only [Act.put, List.setIfInBounds_toArray, List.set_cons_zero, List.set_cons_succ])
            refine wpAnyH_take (i := 13) (oi := { dst := some 109, op := Go.Op.load 72 (Go.Operand.tmp 108), type := 72, pos := "law.go:152", after := #[{ on := 12, ground := Go.Ground.data }, { on := 8, ground := Go.Ground.guard }], guard := some (8, true) }) (v := ?_) rfl (by kernel_rfl) (by kernel_rfl) (by kernel_rfl) (fun _ _ _ h => h) (Or.inl ⟨by rfl, ?_⟩) (by assumption) ?_
            rotate_left
            · intro w hSw
              (try dsimp only at hSw)
              go_simp
              try with_reducible rfl
            (try simp only [Act.put, List.setIfInBounds_toArray, List.set_cons_zero, List.set_cons_succ])
            refine wpAnyH_take (i := 14) (oi := { dst := some 110, op := Go.Op.load 25 (Go.Operand.tmp 4), type := 25, pos := "law.go:152", after := #[{ on := 8, ground := Go.Ground.guard }], guard := some (8, true) }) (v := ?_) rfl (by kernel_rfl) (by kernel_rfl) (by kernel_rfl) (fun _ _ _ h => h) (Or.inl ⟨by rfl, ?_⟩) (by assumption) ?_
            rotate_left
            · intro w hSw
              (try dsimp only at hSw)
              go_simp
              try with_reducible rfl
            (try simp only [Act.put, List.setIfInBounds_toArray, List.set_cons_zero, List.set_cons_succ])
            refine wpAnyH_take (i := 15) (oi := { dst := some 111, op := Go.Op.move (Go.Operand.tmp 2), type := 26, pos := "law.go:152", after := #[{ on := 8, ground := Go.Ground.guard }], guard := some (8, true) }) (v := ?_) rfl (by kernel_rfl) (by kernel_rfl) (by kernel_rfl) (fun _ _ _ h => h) (Or.inl ⟨by rfl, ?_⟩) (by assumption) ?_
            rotate_left
            · intro w hSw
              (try dsimp only at hSw)
              go_simp
              try with_reducible rfl
            (try simp only [Act.put, List.setIfInBounds_toArray, List.set_cons_zero, List.set_cons_succ])
            refine wpAnyH_take (i := 16) (oi := { dst := some 112, op := Go.Op.build 72 #[(0, Go.Operand.tmp 110), (1, Go.Operand.const (Go.Value.int Go.IntKind.i64 5)), (3, Go.Operand.tmp 111)], type := 72, pos := "law.go:152", after := #[{ on := 14, ground := Go.Ground.data }, { on := 15, ground := Go.Ground.data }, { on := 8, ground := Go.Ground.guard }], guard := some (8, true) }) (v := ?_) rfl (by kernel_rfl) (by kernel_rfl) (by kernel_rfl) (fun _ _ _ h => h) (Or.inl ⟨by rfl, ?_⟩) (by assumption) ?_
            rotate_left
            · intro w hSw
              (try dsimp only at hSw)
              go_simp
              try with_reducible rfl
            (try simp only [Act.put, List.setIfInBounds_toArray, List.set_cons_zero, List.set_cons_succ])
            refine wpAnyH_take (i := 17) (oi := { dst := some 113, op := Go.Op.binOp Go.BinOp.eql 72 (Go.Operand.tmp 109) (Go.Operand.tmp 112) 72, type := 4, pos := "law.go:152", after := #[{ on := 13, ground := Go.Ground.data }, { on := 16, ground := Go.Ground.data }, { on := 8, ground := Go.Ground.guard }], guard := some (8, true) }) (v := ?_) rfl (by kernel_rfl) (by kernel_rfl) (by kernel_rfl) (fun _ _ _ h => h) (Or.inl ⟨by rfl, ?_⟩) (by assumption) ?_
            rotate_left
            · intro w hSw
              (try dsimp only at hSw)
              go_simp
              try with_reducible rfl
            (try simp only [Act.put, List.setIfInBounds_toArray, List.set_cons_zero, List.set_cons_succ])
            refine wpAnyH_take (i := 18) (oi := { dst := some 114, op := Go.Op.pick (Go.Operand.tmp 104) (Go.Operand.tmp 113) (Go.Operand.const (Go.Value.bool false)), type := 4, pos := "law.go:152", after := #[{ on := 8, ground := Go.Ground.data }, { on := 17, ground := Go.Ground.data }], guard := none }) (v := ?_) rfl (by kernel_rfl) (by kernel_rfl) (by kernel_rfl) (fun _ _ _ h => h) (Or.inl ⟨by rfl, ?_⟩) (by assumption) ?_
            rotate_left
            · intro w hSw
              (try dsimp only at hSw)
              go_simp
              try with_reducible rfl
            (try simp only [Act.put, List.setIfInBounds_toArray, List.set_cons_zero, List.set_cons_succ])
            refine wpAnyH_take (i := 19) (oi := { dst := some 6, op := Go.Op.assign (Go.Operand.tmp 114), type := 4, pos := "law.go:152", after := #[{ on := 18, ground := Go.Ground.data }, { on := 8, ground := Go.Ground.chain }, { on := 0, ground := Go.Ground.phase }, { on := 1, ground := Go.Ground.phase }, { on := 2, ground := Go.Ground.phase }, { on := 3, ground := Go.Ground.phase }, { on := 4, ground := Go.Ground.phase }, { on := 5, ground := Go.Ground.phase }, { on := 6, ground := Go.Ground.phase }, { on := 7, ground := Go.Ground.phase }, { on := 8, ground := Go.Ground.phase }, { on := 9, ground := Go.Ground.phase }, { on := 10, ground := Go.Ground.phase }, { on := 11, ground := Go.Ground.phase }, { on := 12, ground := Go.Ground.phase }, { on := 13, ground := Go.Ground.phase }, { on := 14, ground := Go.Ground.phase }, { on := 15, ground := Go.Ground.phase }, { on := 16, ground := Go.Ground.phase }, { on := 17, ground := Go.Ground.phase }, { on := 18, ground := Go.Ground.phase }], guard := none }) (v := ?_) rfl (by kernel_rfl) (by kernel_rfl) (by kernel_rfl) (fun _ _ _ h => h) (Or.inl ⟨by rfl, ?_⟩) (by assumption) ?_
            rotate_left
            · intro w hSw
              (try dsimp only at hSw)
              go_simp
              try with_reducible rfl
            (try simp only [Act.put, List.setIfInBounds_toArray, List.set_cons_zero, List.set_cons_succ])
            refine wpAnyH_done (by kernel_rfl) ?_ _
            go_wp2
            go_ret
            exact ⟨by simp, HB8.out⟩

set_option maxRecDepth 100000 in
/-- What the walk gives, for every argument: the row's own words. -/
theorem contract (H : Type) (enc : TypeId × Value → H) (W : World) (base : Nat) (args : Array Value) (ds gs : List (DataW H)) (before : List MemPlace)
    (hval : ∀ (j : Nat) t v, Try.f7.params[j]? = some t → args[j]? = some v → Value.okWide Try.prog W .any base t v)
    (hW : DataW.Whole enc Try.prog Try.f7.params.toList Rows.bucketEvictsSpec.vars false W args.toList ds gs before) :
    Calls Try.prog 7 args W fun e W' => ∃ v, e = .returned v ∧ Rows.bucketEvictsSpec.post enc Try.prog Try.f7 false true false false W args v W' := by
  have hW' := hW
  obtain ⟨p, q, hA0, hV, rfl, hfz, hnd⟩ := hW
  have hA : DataW.TrodAll enc Try.prog W 0 (fun _ => true) true Try.f7.params.toList args.toList ds p := hA0
  rw [Try.params7] at hA hval
  obtain ⟨v0, vs0, d0, ds0, p0, q0, hargs, rfl, rfl, h0, r0⟩ := trodAll_cons hA
  obtain ⟨v1, vs1, d1, ds1, p1, q1, rfl, rfl, rfl, h1, r1⟩ := trodAll_cons r0
  obtain ⟨v2, vs2, d2, ds2, p2, q2, rfl, rfl, rfl, h2, r2⟩ := trodAll_cons r1
  obtain ⟨rfl, rfl, rfl⟩ := trodAll_nil r2
  obtain rfl : args = #[v0, v1, v2] := by cases args; simp_all
  obtain ⟨l0, b0, c0⟩ := open_u32s Try.underlying70 Try.underlying26 (by kernel_rfl) (hval 0 70 v0 rfl rfl) h0
  obtain ⟨a1, e1, rfl, b1, c1⟩ := open_key Try.underlying25 (t0 := 3) (t1 := 23) (by kernel_rfl) (by kernel_rfl) (by kernel_rfl) (by kernel_rfl) (hval 1 25 v1 rfl rfl) h1
  obtain ⟨a2, rfl, b2⟩ := open_u32 Try.underlying26 (hval 2 26 v2 rfl rfl) h2
  refine (walk W v0 l0 b0 c0 a1 e1 b1 c1 a2 b2).mono fun e W' ⟨he, hb⟩ => ?_
  subst he
  exact close_true (by kernel_rfl) Try.underlying4 (by kernel_rfl) (by kernel_rfl) rfl rfl hW' hb

set_option maxRecDepth 100000 in
theorem lifted (os : Os) (started : os.Started) (H : Type) (enc : TypeId × Value → H) :
    ReturnsInHanded {} Try.checked os 7 .any (Rows.bucketEvictsSpec.pre6 enc Try.prog Try.f7 Rows.bucketEvictsRow.domain false) (Rows.bucketEvictsSpec.post enc Try.prog Try.f7 false true false false) := by
  refine returnsInHanded_of_change (C := Try.checked) own started (by kernel_rfl) Try.func7
    (ChangeSpec.witness6 (enc := enc) (C := Try.checked) false ⟨#[], #[.slice none 0 0, .agg #[.int .i64 0, .int .u64 0], .int .u32 0], []⟩ 8 (by kernel_rfl) (by kernel_rfl) (by kernel_rfl) (by kernel_rfl)) ?_
  intro W base args ds gs before hval hW _ _
  exact contract H enc W base args ds gs before hval hW

theorem proved : Rows.BucketEvictsSaid :=
  OpenClaim.holds_of_wide 7 Try.f7 rfl rfl rfl rfl rfl rfl rfl ⟨rfl, rfl, rfl, rfl, rfl⟩ rfl rfl rfl rfl rfl (by kernel_rfl) Try.func7 (by kernel_rfl)
    (of_decide_eq_true (by kernel_rfl)) (by unfold Func.isWrapper; first | (rw [if_pos (by decide +kernel)]; kernel_rfl) | (rw [if_neg (by decide +kernel)]; exact ⟨rfl, rfl⟩))
    (fun os started H enc _ => lifted os started H enc)
#print axioms proved
end Go.Proofs.Ytocdljhjmhmfkaa.bucketEvicts
