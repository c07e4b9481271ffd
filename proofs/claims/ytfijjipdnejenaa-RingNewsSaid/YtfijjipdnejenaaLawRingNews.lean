/-
  Of all sizes and places it is told whether there may be a ring, and of one that isn't there nothing is told. No condition.
-/
import Derived.Test.YtfijjipdnejenaaRows
import Derived.Test.YtfijjipdnejenaaRgT
import Derived.Test.YtfijjipdnejenaaMemN
import Derived.WalkKit
import Derived.ProofKit
import Derived.OpenShut
namespace Go.Proofs.Ytfijjipdnejenaa.ringNews
open Go.ChangeShapes Go.WideShapes Go.ChangeAt Go.RowKit
open Go.ChangeMaps (open_string)
set_option linter.unusedVariables false

theorem own : ownKnob Try.prog.godebug = none := by kernel_rfl

set_option maxRecDepth 100000 in
set_option maxHeartbeats 3200000 in
theorem walk (W : World) (a0 : Int) (b0 : -9223372036854775808 ≤ a0 ∧ a0 ≤ 9223372036854775807) (a1 : Int) (b1 : -9223372036854775808 ≤ a1 ∧ a1 ≤ 9223372036854775807) :
    Calls Try.prog 5 #[.int .i64 a0, .int .i64 a1] W (Says (.bool true) W) := by
  have hcp := fun w => ring_Cells a0 w
  have hcr := fun w => ref14_Cells a0 w
  have hnn : (cellsI a0 != cellsI a0) = false := by simp
  by_cases h1 : a0 < 1
  · have d1 : decide (a0 ≥ 1) = false := by simp; omega
    have d1' : decide (1 ≤ a0) = false := by simp; omega
    generalize cellsI a0 = cc at *
    have HCP := Lib.hid hcp
    have HCR := Lib.hid hcr
    clear hcp hcr
    go_enter Try.func5, Try.ntmps5
    go_wp2_with fail
    refine (mem_New 70 0 (by omega) (by omega) _).mono ?_
    rintro e w1 ⟨b, rfl, hm, hb⟩
    have M1 := Lib.hid hm
    have B1 := Lib.hid hb
    clear hm hb
    go_wp2_with fail
    refine (ring_NewBad M1.out a1 a0 (by intros; show (70 : Int) - (a0 + 2) < a1; omega) 9).mono ?_
    rintro e w2 ⟨rfl, rfl⟩
    go_wp2_with fail
    refine (told14 _).mono ?_
    rintro e w3 ⟨rfl, hb⟩
    have B3 := Lib.hid (B1.out.trans (hb.mono B1.out.size))
    clear hb
    go_wp2_with fail
    refine (HCP.out _).mono ?_
    rintro e wq ⟨rfl, rfl⟩
    go_wp2_with fail
    refine (HCR.out _).mono ?_
    rintro e wq ⟨rfl, rfl⟩
    go_wp2_with fail
    refine (ring_NewNil _).mono ?_
    rintro e wq ⟨rfl, rfl⟩
    go_wp2_with fail
    refine (ring_Push0 1 _).mono ?_
    rintro e wq ⟨rfl, rfl⟩
    go_wp2_with fail
    refine (ring_Pop0 _).mono ?_
    rintro e wq ⟨rfl, rfl⟩
    go_wp2_with fail
    refine (ring_Len0 _).mono ?_
    rintro e wq ⟨rfl, rfl⟩
    go_wp2_with fail
    refine (ring_List0 _).mono ?_
    rintro e wq ⟨rfl, rfl⟩
    go_wp2_with fail
    refine (ring_Size0 _).mono ?_
    rintro e wq ⟨rfl, rfl⟩
    go_wp2_with fail
    refine (act_StepN _).mono ?_
    rintro e wq ⟨rfl, rfl⟩
    go_wp2_with fail
    refine (act_Over0 _).mono ?_
    rintro e wq ⟨rfl, rfl⟩
    go_wp2_with fail
    refine (act_Mark0 _).mono ?_
    rintro e wq ⟨rfl, rfl⟩
    go_wp2_with fail
    refine (act_Ok0 _).mono ?_
    rintro e wq ⟨rfl, rfl⟩
    go_wp2_with fail
    refine (act_Value0 _).mono ?_
    rintro e wq ⟨rfl, rfl⟩
    go_wp2
    go_ret
    exact ⟨by first | rfl | (simp; done), B3.out⟩
  by_cases h2 : 64 < a0
  · have d1 : decide (a0 ≥ 1) = true := by simp; omega
    have d1' : decide (1 ≤ a0) = true := by simp; omega
    have d2 : decide (a0 ≤ 64) = false := by simp; omega
    generalize cellsI a0 = cc at *
    have HCP := Lib.hid hcp
    have HCR := Lib.hid hcr
    clear hcp hcr
    go_enter Try.func5, Try.ntmps5
    go_wp2_with fail
    refine (mem_New 70 0 (by omega) (by omega) _).mono ?_
    rintro e w1 ⟨b, rfl, hm, hb⟩
    have M1 := Lib.hid hm
    have B1 := Lib.hid hb
    clear hm hb
    go_wp2_with fail
    refine (ring_NewBad M1.out a1 a0 (by intros; show (70 : Int) - (a0 + 2) < a1; omega) 9).mono ?_
    rintro e w2 ⟨rfl, rfl⟩
    go_wp2_with fail
    refine (told14 _).mono ?_
    rintro e w3 ⟨rfl, hb⟩
    have B3 := Lib.hid (B1.out.trans (hb.mono B1.out.size))
    clear hb
    go_wp2_with fail
    refine (HCP.out _).mono ?_
    rintro e wq ⟨rfl, rfl⟩
    go_wp2_with fail
    refine (HCR.out _).mono ?_
    rintro e wq ⟨rfl, rfl⟩
    go_wp2_with fail
    refine (ring_NewNil _).mono ?_
    rintro e wq ⟨rfl, rfl⟩
    go_wp2_with fail
    refine (ring_Push0 1 _).mono ?_
    rintro e wq ⟨rfl, rfl⟩
    go_wp2_with fail
    refine (ring_Pop0 _).mono ?_
    rintro e wq ⟨rfl, rfl⟩
    go_wp2_with fail
    refine (ring_Len0 _).mono ?_
    rintro e wq ⟨rfl, rfl⟩
    go_wp2_with fail
    refine (ring_List0 _).mono ?_
    rintro e wq ⟨rfl, rfl⟩
    go_wp2_with fail
    refine (ring_Size0 _).mono ?_
    rintro e wq ⟨rfl, rfl⟩
    go_wp2_with fail
    refine (act_StepN _).mono ?_
    rintro e wq ⟨rfl, rfl⟩
    go_wp2_with fail
    refine (act_Over0 _).mono ?_
    rintro e wq ⟨rfl, rfl⟩
    go_wp2_with fail
    refine (act_Mark0 _).mono ?_
    rintro e wq ⟨rfl, rfl⟩
    go_wp2_with fail
    refine (act_Ok0 _).mono ?_
    rintro e wq ⟨rfl, rfl⟩
    go_wp2_with fail
    refine (act_Value0 _).mono ?_
    rintro e wq ⟨rfl, rfl⟩
    go_wp2
    go_ret
    exact ⟨by first | rfl | (simp; done), B3.out⟩
  have hcc : cellsI a0 = a0 + 2 := by unfold cellsI; rw [if_neg (by omega)]
  rw [hcc] at hcp hcr hnn
  obtain ⟨sz, rfl⟩ := Int.eq_ofNat_of_zero_le (show 0 ≤ a0 by omega)
  have d1 : decide ((sz : Int) ≥ 1) = true := by simp; omega
  have d1' : decide (1 ≤ (sz : Int)) = true := by simp; omega
  have d1n : (1 : Int) ≤ (sz : Int) := by omega
  have d2 : decide ((sz : Int) ≤ 64) = true := by simp; omega
  have d2n : (sz : Int) ≤ 64 := by omega
  have d7 : wrap64 (70 - ((sz : Int) + 2)) = 70 - ((sz : Int) + 2) := IntWalk.wrap64_in _ (by omega)
  by_cases h3 : a1 < 0
  · have d3 : decide (a1 ≥ 0) = false := by simp; omega
    have d3' : decide (0 ≤ a1) = false := by simp; omega
    have HCP := Lib.hid hcp
    have HCR := Lib.hid hcr
    clear hcp hcr hcc
    go_enter Try.func5, Try.ntmps5
    go_wp2_with fail
    refine (mem_New 70 0 (by omega) (by omega) _).mono ?_
    rintro e w1 ⟨b, rfl, hm, hb⟩
    have M1 := Lib.hid hm
    have B1 := Lib.hid hb
    clear hm hb
    go_wp2_with fail
    refine (ring_NewBad M1.out a1 (sz : Int) (by intros; show (70 : Int) - ((sz : Int) + 2) < a1; omega) 9).mono ?_
    rintro e w2 ⟨rfl, rfl⟩
    go_wp2_with fail
    refine (told14 _).mono ?_
    rintro e w3 ⟨rfl, hb⟩
    have B3 := Lib.hid (B1.out.trans (hb.mono B1.out.size))
    clear hb
    go_wp2_with fail
    refine (HCP.out _).mono ?_
    rintro e wq ⟨rfl, rfl⟩
    go_wp2_with fail
    refine (HCR.out _).mono ?_
    rintro e wq ⟨rfl, rfl⟩
    go_wp2_with fail
    refine (ring_NewNil _).mono ?_
    rintro e wq ⟨rfl, rfl⟩
    go_wp2_with fail
    refine (ring_Push0 1 _).mono ?_
    rintro e wq ⟨rfl, rfl⟩
    go_wp2_with fail
    refine (ring_Pop0 _).mono ?_
    rintro e wq ⟨rfl, rfl⟩
    go_wp2_with fail
    refine (ring_Len0 _).mono ?_
    rintro e wq ⟨rfl, rfl⟩
    go_wp2_with fail
    refine (ring_List0 _).mono ?_
    rintro e wq ⟨rfl, rfl⟩
    go_wp2_with fail
    refine (ring_Size0 _).mono ?_
    rintro e wq ⟨rfl, rfl⟩
    go_wp2_with fail
    refine (act_StepN _).mono ?_
    rintro e wq ⟨rfl, rfl⟩
    go_wp2_with fail
    refine (act_Over0 _).mono ?_
    rintro e wq ⟨rfl, rfl⟩
    go_wp2_with fail
    refine (act_Mark0 _).mono ?_
    rintro e wq ⟨rfl, rfl⟩
    go_wp2_with fail
    refine (act_Ok0 _).mono ?_
    rintro e wq ⟨rfl, rfl⟩
    go_wp2_with fail
    refine (act_Value0 _).mono ?_
    rintro e wq ⟨rfl, rfl⟩
    go_wp2
    go_ret
    exact ⟨by first | rfl | (simp; done), B3.out⟩
  obtain ⟨ba, rfl⟩ := Int.eq_ofNat_of_zero_le (show 0 ≤ a1 by omega)
  have d3 : decide ((ba : Int) ≥ 0) = true := by simp
  have d3' : decide (0 ≤ (ba : Int)) = true := by simp
  by_cases h4 : 70 - ((sz : Int) + 2) < (ba : Int)
  · have d4 : decide ((ba : Int) ≤ 70 - ((sz : Int) + 2)) = false := by simp; omega
    have HCP := Lib.hid hcp
    have HCR := Lib.hid hcr
    clear hcp hcr hcc
    go_enter Try.func5, Try.ntmps5
    go_wp2_with fail
    refine (mem_New 70 0 (by omega) (by omega) _).mono ?_
    rintro e w1 ⟨b, rfl, hm, hb⟩
    have M1 := Lib.hid hm
    have B1 := Lib.hid hb
    clear hm hb
    go_wp2_with fail
    refine (ring_NewBad M1.out (ba : Int) (sz : Int) (by intros; show (70 : Int) - ((sz : Int) + 2) < (ba : Int); omega) 9).mono ?_
    rintro e w2 ⟨rfl, rfl⟩
    go_wp2_with fail
    refine (HCR.out _).mono ?_
    rintro e wq ⟨rfl, rfl⟩
    go_wp2_with fail
    refine (told14 _).mono ?_
    rintro e w3 ⟨rfl, hb⟩
    have B3 := Lib.hid (B1.out.trans (hb.mono B1.out.size))
    clear hb
    go_wp2_with fail
    refine (HCP.out _).mono ?_
    rintro e wq ⟨rfl, rfl⟩
    go_wp2_with fail
    refine (HCR.out _).mono ?_
    rintro e wq ⟨rfl, rfl⟩
    go_wp2_with fail
    refine (ring_NewNil _).mono ?_
    rintro e wq ⟨rfl, rfl⟩
    go_wp2_with fail
    refine (ring_Push0 1 _).mono ?_
    rintro e wq ⟨rfl, rfl⟩
    go_wp2_with fail
    refine (ring_Pop0 _).mono ?_
    rintro e wq ⟨rfl, rfl⟩
    go_wp2_with fail
    refine (ring_Len0 _).mono ?_
    rintro e wq ⟨rfl, rfl⟩
    go_wp2_with fail
    refine (ring_List0 _).mono ?_
    rintro e wq ⟨rfl, rfl⟩
    go_wp2_with fail
    refine (ring_Size0 _).mono ?_
    rintro e wq ⟨rfl, rfl⟩
    go_wp2_with fail
    refine (act_StepN _).mono ?_
    rintro e wq ⟨rfl, rfl⟩
    go_wp2_with fail
    refine (act_Over0 _).mono ?_
    rintro e wq ⟨rfl, rfl⟩
    go_wp2_with fail
    refine (act_Mark0 _).mono ?_
    rintro e wq ⟨rfl, rfl⟩
    go_wp2_with fail
    refine (act_Ok0 _).mono ?_
    rintro e wq ⟨rfl, rfl⟩
    go_wp2_with fail
    refine (act_Value0 _).mono ?_
    rintro e wq ⟨rfl, rfl⟩
    go_wp2
    go_ret
    exact ⟨by first | rfl | (simp; done), B3.out⟩
  · have d4 : decide ((ba : Int) ≤ 70 - ((sz : Int) + 2)) = true := by simp; omega
    have d4n : (ba : Int) ≤ 70 - ((sz : Int) + 2) := by omega
    have HCP := Lib.hid hcp
    have HCR := Lib.hid hcr
    clear hcp hcr hcc
    go_enter Try.func5, Try.ntmps5
    go_wp2_with fail
    refine (mem_New 70 0 (by omega) (by omega) _).mono ?_
    rintro e w1 ⟨b, rfl, hm, hb⟩
    have M1 := Lib.hid hm
    have B1 := Lib.hid hb
    clear hm hb
    go_wp2_with fail
    refine (ring_New M1.out (by decide) ba sz (by show ba + 2 + sz ≤ 70; omega) (by omega) (by omega) 9).mono ?_
    rintro e w2 ⟨rb, rfl, hr, hle, htt⟩
    have B2 := Lib.hid (htt.below B1.out (Nat.le_refl _) B1.out.size)
    clear hr htt hle
    go_wp2_with fail
    refine (HCR.out _).mono ?_
    rintro e wq ⟨rfl, rfl⟩
    go_wp2_with fail
    refine (told14 _).mono ?_
    rintro e w3 ⟨rfl, hb⟩
    have B3 := Lib.hid (B2.out.trans (hb.mono B2.out.size))
    clear hb
    go_wp2_with fail
    refine (HCP.out _).mono ?_
    rintro e wq ⟨rfl, rfl⟩
    go_wp2_with fail
    refine (HCR.out _).mono ?_
    rintro e wq ⟨rfl, rfl⟩
    go_wp2_with fail
    refine (ring_NewNil _).mono ?_
    rintro e wq ⟨rfl, rfl⟩
    go_wp2_with fail
    refine (ring_Push0 1 _).mono ?_
    rintro e wq ⟨rfl, rfl⟩
    go_wp2_with fail
    refine (ring_Pop0 _).mono ?_
    rintro e wq ⟨rfl, rfl⟩
    go_wp2_with fail
    refine (ring_Len0 _).mono ?_
    rintro e wq ⟨rfl, rfl⟩
    go_wp2_with fail
    refine (ring_List0 _).mono ?_
    rintro e wq ⟨rfl, rfl⟩
    go_wp2_with fail
    refine (ring_Size0 _).mono ?_
    rintro e wq ⟨rfl, rfl⟩
    go_wp2_with fail
    refine (act_StepN _).mono ?_
    rintro e wq ⟨rfl, rfl⟩
    go_wp2_with fail
    refine (act_Over0 _).mono ?_
    rintro e wq ⟨rfl, rfl⟩
    go_wp2_with fail
    refine (act_Mark0 _).mono ?_
    rintro e wq ⟨rfl, rfl⟩
    go_wp2_with fail
    refine (act_Ok0 _).mono ?_
    rintro e wq ⟨rfl, rfl⟩
    go_wp2_with fail
    refine (act_Value0 _).mono ?_
    rintro e wq ⟨rfl, rfl⟩
    go_wp2
    go_ret
    exact ⟨by first | rfl | (simp; done), B3.out⟩

set_option maxRecDepth 100000 in
/-- What the walk gives, for every argument: the row's own words. -/
theorem contract (H : Type) (enc : TypeId × Value → H) (W : World) (base : Nat) (args : Array Value) (ds gs : List (DataW H)) (before : List MemPlace)
    (hval : ∀ (j : Nat) t v, Try.f5.params[j]? = some t → args[j]? = some v → Value.okWide Try.prog W .any base t v)
    (hW : DataW.Whole enc Try.prog Try.f5.params.toList Rows.ringNewsSpec.vars false W args.toList ds gs before) :
    Calls Try.prog 5 args W fun e W' => ∃ v, e = .returned v ∧ Rows.ringNewsSpec.post enc Try.prog Try.f5 false true false false W args v W' := by
  have hW' := hW
  obtain ⟨p, q, hA0, hV, rfl, hfz, hnd⟩ := hW
  have hA : DataW.TrodAll enc Try.prog W 0 (fun _ => true) true Try.f5.params.toList args.toList ds p := hA0
  rw [Try.params5] at hA hval
  obtain ⟨v0, vs0, d0, ds0, p0, q0, hargs, rfl, rfl, h0, r0⟩ := trodAll_cons hA
  obtain ⟨v1, vs1, d1, ds1, p1, q1, rfl, rfl, rfl, h1, r1⟩ := trodAll_cons r0
  obtain ⟨rfl, rfl, rfl⟩ := trodAll_nil r1
  obtain rfl : args = #[v0, v1] := by cases args; simp_all
  obtain ⟨a0, rfl, b0⟩ := open_i64 Try.underlying3 (hval 0 3 v0 rfl rfl) h0
  obtain ⟨a1, rfl, b1⟩ := open_i64 Try.underlying3 (hval 1 3 v1 rfl rfl) h1
  refine (walk W a0 b0 a1 b1).mono fun e W' ⟨he, hb⟩ => ?_
  subst he
  exact close_true (by kernel_rfl) Try.underlying4 (by kernel_rfl) (by kernel_rfl) rfl rfl hW' hb

set_option maxRecDepth 100000 in
theorem lifted (os : Os) (started : os.Started) (H : Type) (enc : TypeId × Value → H) :
    ReturnsInHanded {} Try.checked os 5 .any (Rows.ringNewsSpec.pre6 enc Try.prog Try.f5 Rows.ringNewsRow.domain false) (Rows.ringNewsSpec.post enc Try.prog Try.f5 false true false false) := by
  refine returnsInHanded_of_change (C := Try.checked) own started (by kernel_rfl) Try.func5
    (ChangeSpec.witness6 (enc := enc) (C := Try.checked) false ⟨#[], #[.int .i64 0, .int .i64 0], []⟩ 8 (by kernel_rfl) (by kernel_rfl) (by kernel_rfl) (by kernel_rfl)) ?_
  intro W base args ds gs before hval hW _ _
  exact contract H enc W base args ds gs before hval hW

theorem proved : Rows.RingNewsSaid :=
  OpenClaim.holds_of_wide 5 Try.f5 rfl rfl rfl rfl rfl rfl rfl ⟨rfl, rfl, rfl, rfl, rfl⟩ rfl rfl rfl rfl rfl (by kernel_rfl) Try.func5 (by kernel_rfl)
    (of_decide_eq_true (by kernel_rfl)) (by unfold Func.isWrapper; first | (rw [if_pos (by decide +kernel)]; kernel_rfl) | (rw [if_neg (by decide +kernel)]; exact ⟨rfl, rfl⟩))
    (fun os started H enc _ => lifted os started H enc)
#print axioms proved
end Go.Proofs.Ytfijjipdnejenaa.ringNews
