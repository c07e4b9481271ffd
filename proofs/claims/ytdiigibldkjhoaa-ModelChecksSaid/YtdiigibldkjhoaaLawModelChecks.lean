/-
  Of all plans it is told whether they may be, and why not first: for every plan. No condition.
-/
import Derived.Test.YtdiigibldkjhoaaRows
import Derived.Test.YtdiigibldkjhoaaMoZ
import Derived.WalkKit
import Derived.ProofKit
import Derived.OpenShut
namespace Go.Proofs.Ytdiigibldkjhoaa.modelChecks
open Go.ChangeShapes Go.WideShapes Go.ChangeAt Go.RowKit
open Go.ChangeMaps (open_string)
set_option linter.unusedVariables false

theorem own : ownKnob Try.prog.godebug = none := by kernel_rfl
theorem planK_zero {c : Nat} {x y z : Bool} (h : planK c x y z = 0) : c = 0 ∧ x = true ∧ y = true ∧ z = true := by
  unfold planK at h
  by_cases hc : c = 0
  · subst hc
    cases x <;> cases y <;> cases z <;> simp_all
  · rw [if_pos hc] at h
    exact absurd h hc
theorem checkN_zero {l : List Vl} {P : Int} {n : Nat} (h : checkN l P n = 0) : 2 ≤ P ∧ P ≤ 64 := by
  rcases (show (P < 2 ∨ 64 < P) ∨ (2 ≤ P ∧ P ≤ 64) by omega) with hp | hp
  · rw [check5 hp] at h
    omega
  · exact hp
theorem right_zero {S B n t r : Int} (h : (rightS S B n && (withinI t 8 && withinI r 64)) = true) : (1 ≤ S ∧ S ≤ 8) ∧ (1 ≤ B ∧ B ≤ 16) ∧ (1 ≤ n ∧ n ≤ 8) ∧ (1 ≤ t ∧ t ≤ 8) ∧ (1 ≤ r ∧ r ≤ 64) := by
  unfold rightS inB withinI at h
  simp only [Bool.and_eq_true, decide_eq_true_eq] at h
  omega
theorem rlc_take : ∀ (l : List Rl) (k : Nat), (rlc l).take (k * 2) = rlc (l.take k)
  | [], k => by simp [rlc]
  | x :: l, 0 => by simp [rlc]
  | x :: l, k + 1 => by
    have h := rlc_take l k
    have e : (k + 1) * 2 = k * 2 + 1 + 1 := by omega
    show (Value.int .i64 x.pv :: Value.int .i64 x.ac :: rlc l).take ((k + 1) * 2) = _
    rw [e, List.take_succ_cons, List.take_succ_cons, h]
    rfl

set_option maxRecDepth 20000 in
set_option maxHeartbeats 6400000 in
theorem walk (W : World) (P0 : Int) (vr0 vv0 : Value) (a0 b0 c0 T0 R0 : Int) (nm0 sh0 : Nat) (lr0 : List Rl) (lv0 : List Vl) (hr0 : Sl W W.heap.size 2 vr0 lr0.length (rlc lr0)) (hv0 : Sl W W.heap.size 3 vv0 lv0.length (vlc lv0)) (ho0 : ∀ x ∈ lv0, x.ok) :
    Calls Try.prog 3 #[planV P0 vr0 vv0 a0 b0 c0 T0 R0 nm0 sh0] W (Says (.bool true) W) := by
  obtain ⟨Ar, cr, rfl, hcr, hcm⟩ := hr0.form
  obtain ⟨Av, cv, rfl, hcv, hcw⟩ := hv0.form
  obtain ⟨nr, hnr⟩ : ∃ x, x = lr0.length := ⟨_, rfl⟩
  obtain ⟨nv, hnv⟩ : ∃ x, x = lv0.length := ⟨_, rfl⟩
  rw [← hnr] at hr0 hcr ⊢
  rw [← hnv] at hv0 hcv ⊢
  have hfew := fun w => law3_Few (A := Av) (w := w) hcv hcw
  obtain ⟨NV, hNV⟩ : ∃ x, x = min nv 20 := ⟨_, rfl⟩
  obtain ⟨NR, hNR⟩ : ∃ x, x = min nr 70 := ⟨_, rfl⟩
  have hs1 := hv0.cutTo (k := NV) (by omega)
  have hs2 := hr0.cutTo (k := NR) (by omega)
  rw [vlc_take] at hs1
  rw [rlc_take] at hs2
  have hok : ∀ x ∈ lv0.take NV, x.ok := fun x hx => ho0 x (List.mem_of_mem_take hx)
  generalize lv0.take NV = LV at *
  generalize lr0.take NR = LR at *
  rw [← hNV] at hfew
  have hNV20 : NV ≤ 20 := by omega
  have hNR70 : NR ≤ 70 := by omega
  have hif : (if (70 : Int) < (nr : Int) then (70 : Int) else (nr : Int)) = (NR : Int) := by split <;> omega
  have hcut := fun u => run_cutTo (P := Try.prog) u stRules3 Ar nr cr NR (by omega)
  obtain ⟨m, hm⟩ := firstBad_ex LR NR
  have HS1 := Lib.hid hs1
  have HS2 := Lib.hid hs2
  have HFEW := Lib.hid hfew
  have HOK := Lib.hid hok
  have HFB := Lib.hid hm
  have HN := Lib.hid (And.intro hNV20 hNR70)
  clear hr0 hv0 ho0 hnr hnv hNV hNR hs1 hs2 hfew hok hm hNV20 hNR70 hcw hcv
  obtain ⟨K, hK⟩ : ∃ K, planK (checkN LV P0 NV) (decide ((NR : Int) = P0)) (!decide (m < NR)) (rightS a0 b0 c0 && (withinI T0 8 && withinI R0 64)) = K := ⟨_, rfl⟩
  by_cases hK0 : K = 0
  · subst hK0
    obtain ⟨k1, k2, k3, k4⟩ := planK_zero hK
    obtain ⟨hp1, hp2⟩ := checkN_zero k1
    obtain ⟨hr1, hr2, hr3, hr4, hr5⟩ := right_zero k4
    obtain ⟨P, rfl⟩ : ∃ x : Nat, P0 = x := ⟨P0.toNat, by omega⟩
    obtain ⟨S, rfl⟩ : ∃ x : Nat, a0 = x := ⟨a0.toNat, by omega⟩
    obtain ⟨B, rfl⟩ : ∃ x : Nat, b0 = x := ⟨b0.toNat, by omega⟩
    obtain ⟨n, rfl⟩ : ∃ x : Nat, c0 = x := ⟨c0.toNat, by omega⟩
    obtain ⟨T, rfl⟩ : ∃ x : Nat, T0 = x := ⟨T0.toNat, by omega⟩
    obtain ⟨R, rfl⟩ : ∃ x : Nat, R0 = x := ⟨R0.toNat, by omega⟩
    have hb1 : 2 ≤ P ∧ P ≤ 64 := by omega
    have hb2 : 1 ≤ S ∧ S ≤ 8 := by omega
    have hb3 : 1 ≤ B ∧ B ≤ 16 := by omega
    have hb4 : 1 ≤ n ∧ n ≤ 8 := by omega
    unfold planV
    clear k1 k2 k3 k4 hp1 hp2 hr1 hr2 hr3 hr4 hr5
    have HCK := Lib.hid fun w' (hb : Below W.heap.size W w') => ref17_Check (HS2.out.below hb) (HS1.out.below hb) HOK.out hb.size HFB.out (P : Nat) (S : Nat) (B : Nat) (n : Nat) (T : Nat) (R : Nat) nm0 sh0
    have HTO := Lib.hid fun w' (hb : Below W.heap.size W w') => law17_To (HS2.out.below hb) (HS1.out.below hb) hb.size HN.out.1 (by have := HN.out.2; omega) (P : Nat) (S : Nat) (B : Nat) (n : Nat) (T : Nat) (R : Nat) nm0 sh0
    have HMC := Lib.hid fun (w' : World) (Bo : Nat) (vr vv : Value) (h1 : Sl w' Bo 2 vr NR (rlc LR)) (h2 : Sl w' Bo 3 vv NV (vlc LV)) (hB : Bo ≤ w'.heap.size) => model_Check h1 h2 HOK.out hB HFB.out (P : Nat) (S : Nat) (B : Nat) (n : Nat) (T : Nat) (R : Nat) nm0 sh0
    have HNW := Lib.hid fun (w' : World) (Bo : Nat) (vr vv : Value) (h1 : Sl w' Bo 2 vr NR (rlc LR)) (h2 : Sl w' Bo 3 vv NV (vlc LV)) (hB : Bo ≤ w'.heap.size) => model_New h1 h2 HOK.out hB HFB.out P S B n R T nm0 sh0 hb1 hb2 hb3 hb4 (by have := HN.out.1; omega) hK
    rw [hK] at HCK HMC
    have HTD := Lib.hid fun w => law17_told w
    have hdo := fun w => model_Do0 0 0 0 0 0 0 0 0 0 0 0 0 0 0 w
    unfold opV at hdo
    have HDO := Lib.hid hdo
    have HCP := Lib.hid fun w => model_Copy0 w
    have HVL := Lib.hid fun w => model_Vlans0 w
    have HLI := Lib.hid fun w => model_List0 w
    have HBU := Lib.hid fun w => model_Bucket0 0 0 w
    have HQU := Lib.hid fun w => model_Queue0 0 0 w
    have HSH := Lib.hid fun w => model_Shape0 w
    have HSD := Lib.hid fun w => model_Stand0 0 w
    have hf1 : ∀ w, (Instr.field 63 (.agg #[.slice none 0 0, .slice none 0 0, .slice none 0 0, .slice none 0 0]) 3).run Try.prog w = .ok (.slice none 0 0) w := fun _ => by kernel_rfl
    have hf2 : ∀ w, (Instr.field 66 (.agg #[.int .i64 0, .int .u32 0]) 0).run Try.prog w = .ok (.int .i64 0) w := fun _ => by kernel_rfl
    unfold planV at HCK HTO HMC HNW
    have HBOX : Hid (∀ w', Below (W.heap.size + 1) (W.alloc (.cells #[.int .i64 (P : Nat), .slice Ar NR cr, .slice Av NV cv, .int .i64 (S : Nat), .int .i64 (B : Nat), .int .i64 (n : Nat), .int .i64 (T : Nat), .int .i64 (R : Nat), .int .u32 (nm0 : Int), .int .u32 (sh0 : Int)] 28)) w' → w'.cell? ⟨W.heap.size, 0, none⟩ = some (.int .i64 (P : Nat)) ∧ w'.cell? ⟨W.heap.size, 1, none⟩ = some (.slice Ar NR cr) ∧ w'.cell? ⟨W.heap.size, 2, none⟩ = some (.slice Av NV cv) ∧ w'.cell? ⟨W.heap.size, 3, none⟩ = some (.int .i64 (S : Nat)) ∧ w'.cell? ⟨W.heap.size, 4, none⟩ = some (.int .i64 (B : Nat)) ∧ w'.cell? ⟨W.heap.size, 5, none⟩ = some (.int .i64 (n : Nat)) ∧ w'.cell? ⟨W.heap.size, 6, none⟩ = some (.int .i64 (T : Nat)) ∧ w'.cell? ⟨W.heap.size, 7, none⟩ = some (.int .i64 (R : Nat)) ∧ w'.cell? ⟨W.heap.size, 8, none⟩ = some (.int .u32 (nm0 : Int)) ∧ w'.cell? ⟨W.heap.size, 9, none⟩ = some (.int .u32 (sh0 : Int))) := fun w' hb => by
      refine ⟨?_, ?_, ?_, ?_, ?_, ?_, ?_, ?_, ?_, ?_⟩ <;>
      · rw [hb.cell (by show W.heap.size < _; omega)]
        simp [go_sem]
    have HLOW : Hid (∀ w', Below (W.heap.size + 1) (W.alloc (.cells #[.int .i64 (P : Nat), .slice Ar NR cr, .slice Av NV cv, .int .i64 (S : Nat), .int .i64 (B : Nat), .int .i64 (n : Nat), .int .i64 (T : Nat), .int .i64 (R : Nat), .int .u32 (nm0 : Int), .int .u32 (sh0 : Int)] 28)) w' → Below W.heap.size W w') := fun w' hb => ((Below.refl W.heap.size W).alloc (Nat.le_refl _) _).trans (hb.mono (by omega))
    have HUP : Hid (∀ w' w'', Below (W.heap.size + 1) (W.alloc (.cells #[.int .i64 (P : Nat), .slice Ar NR cr, .slice Av NV cv, .int .i64 (S : Nat), .int .i64 (B : Nat), .int .i64 (n : Nat), .int .i64 (T : Nat), .int .i64 (R : Nat), .int .u32 (nm0 : Int), .int .u32 (sh0 : Int)] 28)) w' → Below w'.heap.size w' w'' → Below (W.heap.size + 1) (W.alloc (.cells #[.int .i64 (P : Nat), .slice Ar NR cr, .slice Av NV cv, .int .i64 (S : Nat), .int .i64 (B : Nat), .int .i64 (n : Nat), .int .i64 (T : Nat), .int .i64 (R : Nat), .int .u32 (nm0 : Int), .int .u32 (sh0 : Int)] 28)) w'') := fun w' w'' h1 h2 => h1.trans (h2.mono (by have := h1.size; simp at this; omega))
    have hq : Below (W.heap.size + 1) (W.alloc (.cells #[.int .i64 (P : Nat), .slice Ar NR cr, .slice Av NV cv, .int .i64 (S : Nat), .int .i64 (B : Nat), .int .i64 (n : Nat), .int .i64 (T : Nat), .int .i64 (R : Nat), .int .u32 (nm0 : Int), .int .u32 (sh0 : Int)] 28)) (W.alloc (.cells #[.int .i64 (P : Nat), .slice Ar NR cr, .slice Av NV cv, .int .i64 (S : Nat), .int .i64 (B : Nat), .int .i64 (n : Nat), .int .i64 (T : Nat), .int .i64 (R : Nat), .int .u32 (nm0 : Int), .int .u32 (sh0 : Int)] 28)) := Below.refl _ _
    clear hb1 hb2 hb3 hb4 hdo hK
    go_enter Try.func3, Try.ntmps3
    go_upto_region 3 with (first
      | (go_at_call 8; (with_reducible refine Calls.mono (HFEW.out _) ?_); rintro e wx ⟨rfl, rfl⟩))
    clear hif hcut
    go_wp2_with (first
      | (go_at_call 9; (with_reducible refine Calls.mono (HCK.out _ (HLOW.out _ hq)) ?_); rintro e wa ⟨rfl, hba⟩; (have hq := HUP.out _ _ hq hba); (obtain ⟨q0, q1, q2, q3, q4, q5, q6, q7, q8, q9⟩ := HBOX.out _ hq); clear hba)
      | (go_at_call 11; (with_reducible refine Calls.mono (HTO.out _ (HLOW.out _ hq)) ?_); rintro e wa ⟨ur, uw, rfl, h1, h2, hba⟩; (obtain ⟨Ax, cx, hx, _, _⟩ := (Sl.of_own h1).form); (obtain ⟨Ay, cy, hy, _, _⟩ := (Sl.of_own h2).form); subst hx; subst hy; (have HT1 := Lib.hid (Sl.of_own h1)); (have HT2 := Lib.hid (Sl.of_own h2)); (have hq := HUP.out _ _ hq hba); (obtain ⟨q0, q1, q2, q3, q4, q5, q6, q7, q8, q9⟩ := HBOX.out _ hq); clear h1 h2 hba)
      | (go_at_call 10; (with_reducible refine Calls.mono (HNW.out _ _ _ _ HT1.out HT2.out (Nat.le_refl _)) ?_); rintro e wa ⟨A, S1, Q, bp, bq, hN, uv, Rf, G, rfl, hrest⟩; (have hba := hrest.2.2.2.2.2.2.2.2); (have hq := HUP.out _ _ hq hba); (obtain ⟨q0, q1, q2, q3, q4, q5, q6, q7, q8, q9⟩ := HBOX.out _ hq); clear hba)
      | (go_at_call 13; (with_reducible refine Calls.mono (HMC.out _ _ _ _ HT1.out HT2.out (Nat.le_refl _)) ?_); rintro e wa ⟨rfl, hba⟩; (have hq := HUP.out _ _ hq hba); (obtain ⟨q0, q1, q2, q3, q4, q5, q6, q7, q8, q9⟩ := HBOX.out _ hq); clear hba)
      | (go_at_call 12; (with_reducible refine Calls.mono (HTD.out _) ?_); rintro e wa ⟨rfl, hba⟩; (have hq := HUP.out _ _ hq hba); (obtain ⟨q0, q1, q2, q3, q4, q5, q6, q7, q8, q9⟩ := HBOX.out _ hq); clear hba)
      | (go_at_call 14; (with_reducible refine Calls.mono (HDO.out _) ?_); rintro e wa ⟨rfl, hba⟩; (have hq := HUP.out _ _ hq hba); (obtain ⟨q0, q1, q2, q3, q4, q5, q6, q7, q8, q9⟩ := HBOX.out _ hq); clear hba)
      | (go_at_call 15; (with_reducible refine Calls.mono (HCP.out _) ?_); rintro e wa ⟨rfl, hba⟩; (have hq := HUP.out _ _ hq hba); (obtain ⟨q0, q1, q2, q3, q4, q5, q6, q7, q8, q9⟩ := HBOX.out _ hq); clear hba)
      | (go_at_call 16; (with_reducible refine Calls.mono (HVL.out _) ?_); rintro e wa ⟨rfl, hba⟩; (have hq := HUP.out _ _ hq hba); (obtain ⟨q0, q1, q2, q3, q4, q5, q6, q7, q8, q9⟩ := HBOX.out _ hq); clear hba)
      | (go_at_call 17; (with_reducible refine Calls.mono (HLI.out _) ?_); rintro e wa ⟨rfl, hba⟩; (have hq := HUP.out _ _ hq hba); (obtain ⟨q0, q1, q2, q3, q4, q5, q6, q7, q8, q9⟩ := HBOX.out _ hq); clear hba)
      | (go_at_call 19; (with_reducible refine Calls.mono (HBU.out _) ?_); rintro e wa ⟨rfl, hba⟩; (have hq := HUP.out _ _ hq hba); (obtain ⟨q0, q1, q2, q3, q4, q5, q6, q7, q8, q9⟩ := HBOX.out _ hq); clear hba)
      | (go_at_call 18; (with_reducible refine Calls.mono (HQU.out _) ?_); rintro e wa ⟨rfl, hba⟩; (have hq := HUP.out _ _ hq hba); (obtain ⟨q0, q1, q2, q3, q4, q5, q6, q7, q8, q9⟩ := HBOX.out _ hq); clear hba)
      | (go_at_call 20; (with_reducible refine Calls.mono (HSH.out _) ?_); rintro e wa ⟨rfl, hba⟩; (have hq := HUP.out _ _ hq hba); (obtain ⟨q0, q1, q2, q3, q4, q5, q6, q7, q8, q9⟩ := HBOX.out _ hq); clear hba)
      | (go_at_call 21; (with_reducible refine Calls.mono (HSD.out _) ?_); rintro e wa ⟨rfl, hba⟩; (have hq := HUP.out _ _ hq hba); (obtain ⟨q0, q1, q2, q3, q4, q5, q6, q7, q8, q9⟩ := HBOX.out _ hq); clear hba)
    )
    go_ret
    exact ⟨by first | rfl | (simp; done), HLOW.out _ hq⟩
  · unfold planV
    have HCK := Lib.hid fun w' (hb : Below W.heap.size W w') => ref17_Check (HS2.out.below hb) (HS1.out.below hb) HOK.out hb.size HFB.out P0 a0 b0 c0 T0 R0 nm0 sh0
    have HTO := Lib.hid fun w' (hb : Below W.heap.size W w') => law17_To (HS2.out.below hb) (HS1.out.below hb) hb.size HN.out.1 (by have := HN.out.2; omega) P0 a0 b0 c0 T0 R0 nm0 sh0
    have HMC := Lib.hid fun (w' : World) (Bo : Nat) (vr vv : Value) (h1 : Sl w' Bo 2 vr NR (rlc LR)) (h2 : Sl w' Bo 3 vv NV (vlc LV)) (hB : Bo ≤ w'.heap.size) => model_Check h1 h2 HOK.out hB HFB.out P0 a0 b0 c0 T0 R0 nm0 sh0
    have HNW := Lib.hid fun (w' : World) (Bo : Nat) (vr vv : Value) (h1 : Sl w' Bo 2 vr NR (rlc LR)) (h2 : Sl w' Bo 3 vv NV (vlc LV)) (hB : Bo ≤ w'.heap.size) => model_New0 h1 h2 HOK.out hB HFB.out P0 a0 b0 c0 T0 R0 nm0 sh0 K hK hK0
    rw [hK] at HCK HMC
    have HTD := Lib.hid fun w => law17_told w
    have hdo := fun w => model_Do0 0 0 0 0 0 0 0 0 0 0 0 0 0 0 w
    unfold opV at hdo
    have HDO := Lib.hid hdo
    have HCP := Lib.hid fun w => model_Copy0 w
    have HVL := Lib.hid fun w => model_Vlans0 w
    have HLI := Lib.hid fun w => model_List0 w
    have HBU := Lib.hid fun w => model_Bucket0 0 0 w
    have HQU := Lib.hid fun w => model_Queue0 0 0 w
    have HSH := Lib.hid fun w => model_Shape0 w
    have HSD := Lib.hid fun w => model_Stand0 0 w
    have hf1 : ∀ w, (Instr.field 63 (.agg #[.slice none 0 0, .slice none 0 0, .slice none 0 0, .slice none 0 0]) 3).run Try.prog w = .ok (.slice none 0 0) w := fun _ => by kernel_rfl
    have hf2 : ∀ w, (Instr.field 66 (.agg #[.int .i64 0, .int .u32 0]) 0).run Try.prog w = .ok (.int .i64 0) w := fun _ => by kernel_rfl
    unfold planV at HCK HTO HMC HNW
    have HBOX : Hid (∀ w', Below (W.heap.size + 1) (W.alloc (.cells #[.int .i64 P0, .slice Ar NR cr, .slice Av NV cv, .int .i64 a0, .int .i64 b0, .int .i64 c0, .int .i64 T0, .int .i64 R0, .int .u32 (nm0 : Int), .int .u32 (sh0 : Int)] 28)) w' → w'.cell? ⟨W.heap.size, 0, none⟩ = some (.int .i64 P0) ∧ w'.cell? ⟨W.heap.size, 1, none⟩ = some (.slice Ar NR cr) ∧ w'.cell? ⟨W.heap.size, 2, none⟩ = some (.slice Av NV cv) ∧ w'.cell? ⟨W.heap.size, 3, none⟩ = some (.int .i64 a0) ∧ w'.cell? ⟨W.heap.size, 4, none⟩ = some (.int .i64 b0) ∧ w'.cell? ⟨W.heap.size, 5, none⟩ = some (.int .i64 c0) ∧ w'.cell? ⟨W.heap.size, 6, none⟩ = some (.int .i64 T0) ∧ w'.cell? ⟨W.heap.size, 7, none⟩ = some (.int .i64 R0) ∧ w'.cell? ⟨W.heap.size, 8, none⟩ = some (.int .u32 (nm0 : Int)) ∧ w'.cell? ⟨W.heap.size, 9, none⟩ = some (.int .u32 (sh0 : Int))) := fun w' hb => by
      refine ⟨?_, ?_, ?_, ?_, ?_, ?_, ?_, ?_, ?_, ?_⟩ <;>
      · rw [hb.cell (by show W.heap.size < _; omega)]
        simp [go_sem]
    have HLOW : Hid (∀ w', Below (W.heap.size + 1) (W.alloc (.cells #[.int .i64 P0, .slice Ar NR cr, .slice Av NV cv, .int .i64 a0, .int .i64 b0, .int .i64 c0, .int .i64 T0, .int .i64 R0, .int .u32 (nm0 : Int), .int .u32 (sh0 : Int)] 28)) w' → Below W.heap.size W w') := fun w' hb => ((Below.refl W.heap.size W).alloc (Nat.le_refl _) _).trans (hb.mono (by omega))
    have HUP : Hid (∀ w' w'', Below (W.heap.size + 1) (W.alloc (.cells #[.int .i64 P0, .slice Ar NR cr, .slice Av NV cv, .int .i64 a0, .int .i64 b0, .int .i64 c0, .int .i64 T0, .int .i64 R0, .int .u32 (nm0 : Int), .int .u32 (sh0 : Int)] 28)) w' → Below w'.heap.size w' w'' → Below (W.heap.size + 1) (W.alloc (.cells #[.int .i64 P0, .slice Ar NR cr, .slice Av NV cv, .int .i64 a0, .int .i64 b0, .int .i64 c0, .int .i64 T0, .int .i64 R0, .int .u32 (nm0 : Int), .int .u32 (sh0 : Int)] 28)) w'') := fun w' w'' h1 h2 => h1.trans (h2.mono (by have := h1.size; simp at this; omega))
    have hq : Below (W.heap.size + 1) (W.alloc (.cells #[.int .i64 P0, .slice Ar NR cr, .slice Av NV cv, .int .i64 a0, .int .i64 b0, .int .i64 c0, .int .i64 T0, .int .i64 R0, .int .u32 (nm0 : Int), .int .u32 (sh0 : Int)] 28)) (W.alloc (.cells #[.int .i64 P0, .slice Ar NR cr, .slice Av NV cv, .int .i64 a0, .int .i64 b0, .int .i64 c0, .int .i64 T0, .int .i64 R0, .int .u32 (nm0 : Int), .int .u32 (sh0 : Int)] 28)) := Below.refl _ _
    have d1 : ((K : Int) == 0) = false := by simp; omega
    have d2 : ((K : Int) != 0) = true := by simp; omega
    clear hdo hK hK0
    go_enter Try.func3, Try.ntmps3
    go_upto_region 3 with (first
      | (go_at_call 8; (with_reducible refine Calls.mono (HFEW.out _) ?_); rintro e wx ⟨rfl, rfl⟩))
    clear hif hcut
    go_wp2_with (first
      | (go_at_call 9; (with_reducible refine Calls.mono (HCK.out _ (HLOW.out _ hq)) ?_); rintro e wa ⟨rfl, hba⟩; (have hq := HUP.out _ _ hq hba); (obtain ⟨q0, q1, q2, q3, q4, q5, q6, q7, q8, q9⟩ := HBOX.out _ hq); clear hba)
      | (go_at_call 11; (with_reducible refine Calls.mono (HTO.out _ (HLOW.out _ hq)) ?_); rintro e wa ⟨ur, uw, rfl, h1, h2, hba⟩; (obtain ⟨Ax, cx, hx, _, _⟩ := (Sl.of_own h1).form); (obtain ⟨Ay, cy, hy, _, _⟩ := (Sl.of_own h2).form); subst hx; subst hy; (have HT1 := Lib.hid (Sl.of_own h1)); (have HT2 := Lib.hid (Sl.of_own h2)); (have hq := HUP.out _ _ hq hba); (obtain ⟨q0, q1, q2, q3, q4, q5, q6, q7, q8, q9⟩ := HBOX.out _ hq); clear h1 h2 hba)
      | (go_at_call 10; (with_reducible refine Calls.mono (HNW.out _ _ _ _ HT1.out HT2.out (Nat.le_refl _)) ?_); rintro e wa ⟨rfl, hba⟩; (have hq := HUP.out _ _ hq hba); (obtain ⟨q0, q1, q2, q3, q4, q5, q6, q7, q8, q9⟩ := HBOX.out _ hq); clear hba)
      | (go_at_call 13; (with_reducible refine Calls.mono (HMC.out _ _ _ _ HT1.out HT2.out (Nat.le_refl _)) ?_); rintro e wa ⟨rfl, hba⟩; (have hq := HUP.out _ _ hq hba); (obtain ⟨q0, q1, q2, q3, q4, q5, q6, q7, q8, q9⟩ := HBOX.out _ hq); clear hba)
      | (go_at_call 12; (with_reducible refine Calls.mono (HTD.out _) ?_); rintro e wa ⟨rfl, hba⟩; (have hq := HUP.out _ _ hq hba); (obtain ⟨q0, q1, q2, q3, q4, q5, q6, q7, q8, q9⟩ := HBOX.out _ hq); clear hba)
      | (go_at_call 14; (with_reducible refine Calls.mono (HDO.out _) ?_); rintro e wa ⟨rfl, hba⟩; (have hq := HUP.out _ _ hq hba); (obtain ⟨q0, q1, q2, q3, q4, q5, q6, q7, q8, q9⟩ := HBOX.out _ hq); clear hba)
      | (go_at_call 15; (with_reducible refine Calls.mono (HCP.out _) ?_); rintro e wa ⟨rfl, hba⟩; (have hq := HUP.out _ _ hq hba); (obtain ⟨q0, q1, q2, q3, q4, q5, q6, q7, q8, q9⟩ := HBOX.out _ hq); clear hba)
      | (go_at_call 16; (with_reducible refine Calls.mono (HVL.out _) ?_); rintro e wa ⟨rfl, hba⟩; (have hq := HUP.out _ _ hq hba); (obtain ⟨q0, q1, q2, q3, q4, q5, q6, q7, q8, q9⟩ := HBOX.out _ hq); clear hba)
      | (go_at_call 17; (with_reducible refine Calls.mono (HLI.out _) ?_); rintro e wa ⟨rfl, hba⟩; (have hq := HUP.out _ _ hq hba); (obtain ⟨q0, q1, q2, q3, q4, q5, q6, q7, q8, q9⟩ := HBOX.out _ hq); clear hba)
      | (go_at_call 19; (with_reducible refine Calls.mono (HBU.out _) ?_); rintro e wa ⟨rfl, hba⟩; (have hq := HUP.out _ _ hq hba); (obtain ⟨q0, q1, q2, q3, q4, q5, q6, q7, q8, q9⟩ := HBOX.out _ hq); clear hba)
      | (go_at_call 18; (with_reducible refine Calls.mono (HQU.out _) ?_); rintro e wa ⟨rfl, hba⟩; (have hq := HUP.out _ _ hq hba); (obtain ⟨q0, q1, q2, q3, q4, q5, q6, q7, q8, q9⟩ := HBOX.out _ hq); clear hba)
      | (go_at_call 20; (with_reducible refine Calls.mono (HSH.out _) ?_); rintro e wa ⟨rfl, hba⟩; (have hq := HUP.out _ _ hq hba); (obtain ⟨q0, q1, q2, q3, q4, q5, q6, q7, q8, q9⟩ := HBOX.out _ hq); clear hba)
      | (go_at_call 21; (with_reducible refine Calls.mono (HSD.out _) ?_); rintro e wa ⟨rfl, hba⟩; (have hq := HUP.out _ _ hq hba); (obtain ⟨q0, q1, q2, q3, q4, q5, q6, q7, q8, q9⟩ := HBOX.out _ hq); clear hba)
    )
    go_ret
    exact ⟨by first | rfl | (simp; done), HLOW.out _ hq⟩

set_option maxRecDepth 100000 in
/-- What the walk gives, for every argument: the row's own words. -/
theorem contract (H : Type) (enc : TypeId × Value → H) (W : World) (base : Nat) (args : Array Value) (ds gs : List (DataW H)) (before : List MemPlace)
    (hval : ∀ (j : Nat) t v, Try.f3.params[j]? = some t → args[j]? = some v → Value.okWide Try.prog W .any base t v)
    (hW : DataW.Whole enc Try.prog Try.f3.params.toList Rows.modelChecksSpec.vars false W args.toList ds gs before) :
    Calls Try.prog 3 args W fun e W' => ∃ v, e = .returned v ∧ Rows.modelChecksSpec.post enc Try.prog Try.f3 false true false false W args v W' := by
  have hW' := hW
  obtain ⟨p, q, hA0, hV, rfl, hfz, hnd⟩ := hW
  have hA : DataW.TrodAll enc Try.prog W 0 (fun _ => true) true Try.f3.params.toList args.toList ds p := hA0
  rw [Try.params3] at hA hval
  obtain ⟨v0, vs0, d0, ds0, p0, q0, hargs, rfl, rfl, h0, r0⟩ := trodAll_cons hA
  obtain ⟨rfl, rfl, rfl⟩ := trodAll_nil r0
  obtain rfl : args = #[v0] := by cases args; simp_all
  obtain ⟨P0, vr0, vv0, a0, b0, c0, T0, R0, nm0, sh0, lr0, lv0, rfl, hr0, hv0, ho0⟩ := open_plan Try.underlying28 (tr := 22) (tv := 23) (er := 96) (ev := 108) (i := 3) (u := 26) (q := 44) (by kernel_rfl) (by kernel_rfl) Try.underlying3 Try.underlying26 Try.underlying44 Try.underlying22 (by kernel_rfl) (by kernel_rfl) Try.underlying23 (by kernel_rfl) (by kernel_rfl) (hval 0 28 v0 rfl rfl) h0
  refine (walk W P0 vr0 vv0 a0 b0 c0 T0 R0 nm0 sh0 lr0 lv0 hr0 hv0 ho0).mono fun e W' ⟨he, hb⟩ => ?_
  subst he
  exact close_true (by kernel_rfl) Try.underlying4 (by kernel_rfl) (by kernel_rfl) rfl rfl hW' hb

set_option maxRecDepth 100000 in
theorem lifted (os : Os) (started : os.Started) (H : Type) (enc : TypeId × Value → H) :
    ReturnsInHanded {} Try.checked os 3 .any (Rows.modelChecksSpec.pre6 enc Try.prog Try.f3 Rows.modelChecksRow.domain false) (Rows.modelChecksSpec.post enc Try.prog Try.f3 false true false false) := by
  refine returnsInHanded_of_change (C := Try.checked) own started (by kernel_rfl) Try.func3
    (ChangeSpec.witness6 (enc := enc) (C := Try.checked) false ⟨#[], #[.agg #[.int .i64 0, .slice none 0 0, .slice none 0 0, .int .i64 0, .int .i64 0, .int .i64 0, .int .i64 0, .int .i64 0, .int .u32 0, .int .u32 0]], []⟩ 8 (by kernel_rfl) (by kernel_rfl) (by kernel_rfl) (by kernel_rfl)) ?_
  intro W base args ds gs before hval hW _ _
  exact contract H enc W base args ds gs before hval hW

theorem proved : Rows.ModelChecksSaid :=
  OpenClaim.holds_of_wide 3 Try.f3 rfl rfl rfl rfl rfl rfl rfl ⟨rfl, rfl, rfl, rfl, rfl⟩ rfl rfl rfl rfl rfl (by kernel_rfl) Try.func3 (by kernel_rfl)
    (of_decide_eq_true (by kernel_rfl)) (by unfold Func.isWrapper; first | (rw [if_pos (by decide +kernel)]; kernel_rfl) | (rw [if_neg (by decide +kernel)]; exact ⟨rfl, rfl⟩))
    (fun os started H enc _ => lifted os started H enc)
#print axioms proved
end Go.Proofs.Ytdiigibldkjhoaa.modelChecks
