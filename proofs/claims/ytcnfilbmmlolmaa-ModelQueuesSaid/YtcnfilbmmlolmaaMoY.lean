/-
  A plan that Fix makes may be; told17. No statement is proved here.
-/
import Derived.Test.YtcnfilbmmlolmaaMoF
import Derived.Test.YtcnfilbmmlolmaaMoX
set_option linter.unusedVariables false
namespace Go.Proofs.Ytcnfilbmmlolmaa
open Go.RowKit

theorem within_fx {k : Nat} (hk : 0 < k) (hk2 : k ≤ 5000) (x : Int) : withinI ((1 + fx k x : Nat) : Int) (k : Int) = true := by
  have := fx_lt hk x
  unfold withinI
  simp only [Bool.and_eq_true, decide_eq_true_eq]
  omega
theorem fix_good (lr : List Rl) (lv : List Vl) (P0 a b c t r : Int) (P S B n T G nv : Nat) (hP : P = 2 + fx 7 P0) (hT : T = 1 + fx 8 t) (hG : G = 1 + fx 64 r) (hS : S = 1 + fx 8 a) (hB : B = 1 + fx 16 b) (hn : n = 1 + fx 8 c) :
    planK (checkN (fixVs (allN P) lv (min nv 8)) P (min nv 8)) (decide ((P : Int) = P)) (!decide (P < P)) (rightS S B n && (withinI T 8 && withinI G 64)) = 0 := by
  have h0 := fx_lt (k := 7) (by omega) P0
  have h1 := fx_lt (k := 8) (by omega) a
  have h2 := fx_lt (k := 16) (by omega) b
  have h3 := fx_lt (k := 8) (by omega) c
  rw [fixVs_check lv (P := P) (by omega) (by omega) (by omega)]
  have e1 : rightS (S : Nat) (B : Nat) (n : Nat) = true := by
    unfold rightS inB
    simp
    omega
  have e2 : withinI (T : Nat) 8 = true := by rw [hT]; exact within_fx (k := 8) (by omega) (by omega) t
  have e3 : withinI (G : Nat) 64 = true := by rw [hG]; exact within_fx (k := 64) (by omega) (by omega) r
  rw [e1, e2, e3]
  simp [planK]
def toldVs : List Vl := fixVs (allN 2) [⟨0, 2, 0⟩] 1
theorem told_send1 : sendK toldVs 1 4 1 1 = 3 := by decide
theorem told_send0 : sendK toldVs 1 0 0 1 = 0 := by decide
theorem told_lit (w : World) (e : TypeId) : Sl (w.alloc (.cells #[.int .i64 0, .int .u64 2, .int .u64 0] e)) (w.heap.size + 1) 3 (.slice (some ⟨w.heap.size, 0, none⟩) 1 1) 1 (vlc [⟨0, 2, 0⟩]) :=
  Sl.litN w #[.int .i64 0, .int .u64 2, .int .u64 0] e 1 3 rfl (by decide)
theorem told_nil (w : World) (B : Nat) : Sl w B 2 (.slice none 0 0) 0 (rlc []) := ⟨rfl, none, 0, rfl, Nat.le_refl _, Nat.zero_le _, fun h => absurd h (by omega)⟩
theorem told_fix (w : World) (e : TypeId) : Calls Try.prog 22 #[planV 0 (.slice none 0 0) (.slice (some ⟨w.heap.size, 0, none⟩) 1 1) 0 0 0 0 0 0 0] (w.alloc (.cells #[.int .i64 0, .int .u64 2, .int .u64 0] e)) fun e' w' => ∃ Ar cr Av cv, e' = .returned (planV ((2 : Nat) : Int) (.slice Ar 2 cr) (.slice Av 1 cv) ((1 : Nat) : Int) ((1 : Nat) : Int) ((1 : Nat) : Int) ((1 : Nat) : Int) ((1 : Nat) : Int) 0 0) ∧ Sl w' w'.heap.size 2 (.slice Ar 2 cr) 2 (rlc (fixRs [] 2)) ∧ Sl w' w'.heap.size 3 (.slice Av 1 cv) 1 (vlc toldVs) ∧ Below w.heap.size w w' := by
  refine (ref17_Fix (told_nil _ _) (told_lit w e) (by intro x hx; simp at hx; subst hx; unfold Vl.ok; decide) (by rw [World.size_alloc]; exact Nat.le_refl _) 0 0 0 0 0 0 0 0 2 1 1 1 1 1 (by decide) (by decide) (by decide) (by decide) (by decide) (by decide)).mono ?_
  rintro e' w' ⟨ur, uv, rfl, h1, h2, hb⟩
  obtain ⟨Ar, cr, rfl, _, _⟩ := (Sl.of_own h1).form
  obtain ⟨Av, cv, rfl, _, _⟩ := (Sl.of_own h2).form
  refine ⟨Ar, cr, Av, cv, rfl, Sl.of_own h1, Sl.of_own h2, ((Below.refl _ _).alloc (Nat.le_refl _) _).trans (hb.mono (by rw [World.size_alloc]; omega))⟩
theorem told_to (W : World) (B : Nat) (Ar : Option Addr) (cr : Nat) (Av : Option Addr) (cv : Nat) (h1 : Sl W B 2 (.slice Ar 2 cr) 2 (rlc (fixRs [] 2))) (h2 : Sl W B 3 (.slice Av 1 cv) 1 (vlc toldVs)) (hB : B ≤ W.heap.size) :
    Calls Try.prog 11 #[.agg #[.int .i64 2, .slice Ar 2 cr, .slice Av 1 cv, .int .i64 1, .int .i64 1, .int .i64 1, .int .i64 1, .int .i64 1, .int .u32 0, .int .u32 0]] W fun e w' => ∃ Ar' cr' Av' cv', e = .returned (.agg #[.int .i64 2, .slice Ar' 2 cr', .slice Av' 1 cv', .int .i64 1, .int .i64 1, .int .i64 1, .int .i64 1, .int .i64 1, .int .u32 0, .int .u32 0]) ∧ Sl w' w'.heap.size 2 (.slice Ar' 2 cr') 2 (rlc (fixRs [] 2)) ∧ Sl w' w'.heap.size 3 (.slice Av' 1 cv') 1 (vlc toldVs) ∧ Below W.heap.size W w' := by
  refine (law17_To h1 h2 hB (by omega) (by omega) 2 1 1 1 1 1 0 0).mono ?_
  rintro e w' ⟨ur, uv, rfl, h1, h2, hb⟩
  obtain ⟨Ar', cr', rfl, _, _⟩ := (Sl.of_own h1).form
  obtain ⟨Av', cv', rfl, _, _⟩ := (Sl.of_own h2).form
  exact ⟨Ar', cr', Av', cv', rfl, Sl.of_own h1, Sl.of_own h2, hb⟩
theorem told_new (W : World) (B : Nat) (Ar : Option Addr) (cr : Nat) (Av : Option Addr) (cv : Nat) (h1 : Sl W B 2 (.slice Ar 2 cr) 2 (rlc (fixRs [] 2))) (h2 : Sl W B 3 (.slice Av 1 cv) 1 (vlc toldVs)) (hB : B ≤ W.heap.size) :
    Calls Try.prog 10 #[.agg #[.int .i64 2, .slice Ar 2 cr, .slice Av 1 cv, .int .i64 1, .int .i64 1, .int .i64 1, .int .i64 1, .int .i64 1, .int .u32 0, .int .u32 0]] W fun e w' => ∃ (A S1 Q bp : Nat) (uv : Value) (G : Nat → Value), e = .returned (.tuple #[.pointer (some ⟨A, 0, none⟩), .int .i64 0]) ∧ MdAt w' W.heap.size A S1 Q uv (.pointer (some ⟨bp, 0, none⟩)) 2 1 1 toldVs (fun _ => (0, 0)) G ∧ Below W.heap.size W w' := by
  refine (model_New h1 h2 (fixVs_ok _ _ (allN_lt _) 1 (by omega)) hB (fixRs_first [] 2) 2 1 1 1 1 1 0 0 (by omega) (by omega) (by omega) (by omega) (by omega) (fix_good [] [⟨0, 2, 0⟩] 0 0 0 0 0 0 2 1 1 1 1 1 1 (by decide) (by decide) (by decide) (by decide) (by decide) (by decide))).mono ?_
  rintro e w' ⟨A, S1, Q, bp, bq, hN, uv, R, G, rfl, hm, hrest⟩
  obtain ⟨_, _, _, _, _, _, _, _, hb⟩ := hrest
  exact ⟨A, S1, Q, bp, uv, G, rfl, hm, hb⟩
theorem toldVs_ok : ∀ x ∈ toldVs, x.ok := fixVs_ok _ _ (allN_lt _) 1 (by omega)
set_option maxRecDepth 20000 in
set_option maxHeartbeats 3200000 in
theorem law17_told (w : World) : Calls Try.prog 12 #[] w (Says (.bool true) w) := by
  have hfx := fun W e => told_fix W e
  unfold planV at hfx
  have HFX := Lib.hid hfx
  have HTO := Lib.hid told_to
  have HNW := Lib.hid told_new
  clear hfx
  go_enter Try.func12, Try.ntmps12
  go_wp2_with (first
    | (go_at_call 22; (refine Calls.mono (HFX.out _ _) ?_); rintro e w1 ⟨Ar, cr, Av, cv, rfl, h1, h2, hb⟩; (have H1 := Lib.hid h1); (have H2 := Lib.hid h2); (have HB1 := Lib.hid hb); (have hz1 := hb.size); clear h1 h2 hb)
    | (go_at_call 11; (refine Calls.mono (HTO.out _ w1.heap.size _ _ _ _ (H1.out.below ((Below.refl _ _).alloc (Nat.le_refl _) _)) (H2.out.below ((Below.refl _ _).alloc (Nat.le_refl _) _)) (by rw [World.size_alloc]; omega)) ?_); rintro e w3 ⟨Ar', cr', Av', cv', rfl, h1, h2, hb⟩; (have H3 := Lib.hid h1); (have H4 := Lib.hid h2); (have HB3 : Hid (Below w.heap.size w w3) := (HB1.out.alloc hz1 _).trans (hb.mono (by rw [World.size_alloc]; omega))); (have hz3 := HB3.out.size); clear h1 h2 hb)
    | (go_at_call 10; (refine Calls.mono (HNW.out _ w3.heap.size _ _ _ _ H3.out H4.out (Nat.le_refl _)) ?_); rintro e w4 ⟨A, S1, Q, bp, uv, G, rfl, hm, hb⟩; (have HM := Lib.hid hm); (have HB4 : Hid (Below w.heap.size w w4) := HB3.out.trans (hb.mono hz3)); (have hz4 := HB4.out.size); clear hm hb)
    | fail)
  refine (model_DoSet HM.out (by omega) 1 (by omega) 4 (by decide) 0 0 0 0 0 0 0 0 0 0 0).mono ?_
  rintro e w5 ⟨rfl, hm5, hbt⟩
  have HM5 := Lib.hid hm5
  have HB5 : Hid (Below w.heap.size w w5) := HB4.out.trans (hbt.below.mono (by have := HM.out.ls; omega))
  have hz5 := HB5.out.size
  clear hm5 hbt
  go_wp2_with fail
  refine (model_DoSend HM5.out toldVs_ok 1 (by omega) 0 1 0 0 0 0 0 0 0 0 0 0).mono ?_
  rintro e w6 ⟨rfl, hb⟩
  have HM6 := Lib.hid (HM5.out.call hb)
  have HB6 : Hid (Below w.heap.size w w6) := HB5.out.trans (hb.mono hz5)
  have hz6 := HB6.out.size
  have hk1 : sendK toldVs 1 (updS (fun _ => (0, 0)) 1 4 ((((fun _ => (0, 0)) : Nat → Int × Nat) 1).2 + 1) 1).1 1 1 = 3 := told_send1
  rw [hk1]
  clear hb hk1
  go_wp2_with fail
  refine (model_DoSend HM6.out toldVs_ok 0 (by omega) 0 1 0 0 0 0 0 0 0 0 0 0).mono ?_
  rintro e w7 ⟨rfl, hb⟩
  have HM7 := Lib.hid (HM6.out.call hb)
  have HB7 : Hid (Below w.heap.size w w7) := HB6.out.trans (hb.mono hz6)
  have hz7 := HB7.out.size
  have hk0 : sendK toldVs 1 (updS (fun _ => (0, 0)) 1 4 ((0 + 1) % 4294967296) 0).1 0 1 = 0 := told_send0
  rw [hk0]
  clear hb hk0
  go_wp2_with fail
  refine (model_Do13 HM7.out 0 0 0 0 0 0 0 0 0 0 0 0 0).mono ?_
  rintro e w8 ⟨rfl, hb⟩
  have HB8 : Hid (Below w.heap.size w w8) := HB7.out.trans (hb.mono hz7)
  clear hb
  go_wp2
  go_ret
  exact ⟨by first | rfl | (simp; done), HB8.out⟩
end Go.Proofs.Ytcnfilbmmlolmaa
