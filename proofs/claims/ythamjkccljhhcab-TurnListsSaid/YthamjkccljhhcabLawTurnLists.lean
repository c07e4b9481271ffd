/-
  Of all counts and seeds the program tells the turns, in turn and mixed, as the document tells them. No condition.
-/
import Derived.Test.YthamjkccljhhcabRows
import Derived.Test.YthamjkccljhhcabTurnT
import Derived.WalkKit
import Derived.ProofKit
import Derived.OpenShut
namespace Go.Proofs.Ythamjkccljhhcab.turnLists
open Go.ChangeShapes Go.WideShapes Go.ChangeAt Go.RowKit
open Go.ChangeMaps (open_string)
set_option linter.unusedVariables false

theorem own : ownKnob Try.prog.godebug = none := by kernel_rfl

set_option maxHeartbeats 1600000 in
theorem walk (W : World) (a0 : Int) (b0 : -9223372036854775808 ≤ a0 ∧ a0 ≤ 9223372036854775807) (a1 : Int) (b1 : -9223372036854775808 ≤ a1 ∧ a1 ≤ 9223372036854775807) (a2 : Nat) (b2 : a2 < 18446744073709551616) :
    Calls Try.prog 8 #[.int .i64 a0, .int .i64 a1, .int .u64 (a2 : Int)] W (Says (.bool true) W) := by
  by_cases hbig : (3000 : Int) < a1
  · have hd : a1 > 3000 := hbig
    go_enter Try.func8, Try.ntmps8
    go_wp2_with fail
    refine (told07 _).mono ?_
    rintro e w1 ⟨rfl, hb1⟩
    have HB1 := Lib.hid hb1
    clear hb1
    go_wp2
    go_ret
    exact ⟨by simp, HB1.out⟩
  · have hnb : ¬ a1 > 3000 := hbig
    have R1 := Lib.hid fun W => turn_Round a0 a1 b0.2 b1.2 W
    have R2 := Lib.hid fun W => ref7_Round a0 a1 b0.2 b1.2 W
    have X1 := Lib.hid fun W => turn_Mixed a0 a1 (a2 : Int) b0.2 b1.2 W
    have X2 := fun W => ref7_Bursts a0 a1 1 (a2 : Int) b0.2 b1.2 (by omega) W
    rw [show turnsL a0 a1 (gBursts (a2 : Int) (max 1 1)) = turnsL a0 a1 (gMixed (a2 : Int)) from by rw [show gBursts (a2 : Int) (max 1 1) = gMixed (a2 : Int) from by funext i; unfold gBursts; rw [show (max 1 1 : Int) = 1 from rfl, Int.ediv_one]]] at X2
    have X2 := Lib.hid X2
    have hl1 := turnsL_length (m := a0) (c := a1) gRound
    have hl2 := turnsL_length (m := a0) (c := a1) (gMixed (a2 : Int))
    generalize turnsL a0 a1 gRound = L at *
    generalize turnsL a0 a1 (gMixed (a2 : Int)) = L2 at *
    obtain ⟨n, hn⟩ : ∃ n, n = if a0 < 1 ∨ a1 < 1 then 0 else min a1.toNat 100000 := ⟨_, rfl⟩
    rw [← hn] at hl1 hl2
    have HLN := Lib.hid hl1
    have HLN2 := Lib.hid hl2
    clear hl1 hl2 hn hbig b0 b1 b2
    go_enter Try.func8, Try.ntmps8
    go_wp2_with fail
    refine (told07 _).mono ?_
    rintro e w1 ⟨rfl, hb1⟩
    have HB1 := Lib.hid hb1
    clear hb1
    go_wp2_with fail
    refine (R1.out _).mono ?_
    intro e w2 hh
    obtain ⟨A2, cap2, rfl, hs, hb⟩ := hh.at_ (n := n) HLN.out
    have S2 := Lib.hid hs
    have B2 := Lib.hid (HB1.out.trans (hb.mono HB1.out.size))
    clear hs hb hh
    go_wp2_with fail
    refine (R2.out _).mono ?_
    intro e w3 hh
    obtain ⟨A3, cap3, rfl, hs, hb⟩ := hh.at_ (n := n) HLN.out
    have S3 := Lib.hid hs
    have B3 := Lib.hid (B2.out.trans (hb.mono B2.out.size))
    have S2 := Lib.hid (S2.out.below hb)
    clear hs hb hh
    go_wp2_with fail
    refine (law3_IntsEq S2.out S3.out).mono ?_
    rintro e w4 ⟨rfl, n4, rfl⟩
    have B4 := Lib.hid (below_drewN B3.out n4)
    clear S2 S3
    go_wp2_with fail
    refine (X1.out _).mono ?_
    intro e w5 hh
    obtain ⟨A5, cap5, rfl, hs, hb⟩ := hh.at_ (n := n) HLN2.out
    have S5 := Lib.hid hs
    have B5 := Lib.hid (B4.out.trans (hb.mono B4.out.size))
    clear hs hb hh
    go_wp2_with fail
    refine (X2.out _).mono ?_
    intro e w6 hh
    obtain ⟨A6, cap6, rfl, hs, hb⟩ := hh.at_ (n := n) HLN2.out
    have S6 := Lib.hid hs
    have B6 := Lib.hid (B5.out.trans (hb.mono B5.out.size))
    have S5 := Lib.hid (S5.out.below hb)
    clear hs hb hh
    go_wp2_with fail
    refine (law3_IntsEq S5.out S6.out).mono ?_
    rintro e w7 ⟨rfl, n7, rfl⟩
    have B7 := Lib.hid (below_drewN B6.out n7)
    clear S5 S6
    go_wp2
    go_ret
    exact ⟨by simp, B7.out⟩

set_option maxRecDepth 100000 in
/-- What the walk gives, for every argument: the row's own words. -/
theorem contract (H : Type) (enc : TypeId × Value → H) (W : World) (base : Nat) (args : Array Value) (ds gs : List (DataW H)) (before : List MemPlace)
    (hval : ∀ (j : Nat) t v, Try.f8.params[j]? = some t → args[j]? = some v → Value.okWide Try.prog W .any base t v)
    (hW : DataW.Whole enc Try.prog Try.f8.params.toList Rows.turnListsSpec.vars false W args.toList ds gs before) :
    Calls Try.prog 8 args W fun e W' => ∃ v, e = .returned v ∧ Rows.turnListsSpec.post enc Try.prog Try.f8 false true false false W args v W' := by
  have hW' := hW
  obtain ⟨p, q, hA0, hV, rfl, hfz, hnd⟩ := hW
  have hA : DataW.TrodAll enc Try.prog W 0 (fun _ => true) true Try.f8.params.toList args.toList ds p := hA0
  rw [Try.params8] at hA hval
  obtain ⟨v0, vs0, d0, ds0, p0, q0, hargs, rfl, rfl, h0, r0⟩ := trodAll_cons hA
  obtain ⟨v1, vs1, d1, ds1, p1, q1, rfl, rfl, rfl, h1, r1⟩ := trodAll_cons r0
  obtain ⟨v2, vs2, d2, ds2, p2, q2, rfl, rfl, rfl, h2, r2⟩ := trodAll_cons r1
  obtain ⟨rfl, rfl, rfl⟩ := trodAll_nil r2
  obtain rfl : args = #[v0, v1, v2] := by cases args; simp_all
  obtain ⟨a0, rfl, b0⟩ := open_i64 Try.underlying3 (hval 0 3 v0 rfl rfl) h0
  obtain ⟨a1, rfl, b1⟩ := open_i64 Try.underlying3 (hval 1 3 v1 rfl rfl) h1
  obtain ⟨a2, rfl, b2⟩ := open_u64 Try.underlying23 (hval 2 23 v2 rfl rfl) h2
  refine (walk W a0 b0 a1 b1 a2 b2).mono fun e W' ⟨he, hb⟩ => ?_
  subst he
  exact close_true (by kernel_rfl) Try.underlying4 (by kernel_rfl) (by kernel_rfl) rfl rfl hW' hb

set_option maxRecDepth 100000 in
theorem lifted (os : Os) (started : os.Started) (H : Type) (enc : TypeId × Value → H) :
    ReturnsInHanded {} Try.checked os 8 .any (Rows.turnListsSpec.pre6 enc Try.prog Try.f8 Rows.turnListsRow.domain false) (Rows.turnListsSpec.post enc Try.prog Try.f8 false true false false) := by
  refine returnsInHanded_of_change (C := Try.checked) own started (by kernel_rfl) Try.func8
    (ChangeSpec.witness6 (enc := enc) (C := Try.checked) false ⟨#[], #[.int .i64 0, .int .i64 0, .int .u64 0], []⟩ 8 (by kernel_rfl) (by kernel_rfl) (by kernel_rfl) (by kernel_rfl)) ?_
  intro W base args ds gs before hval hW _ _
  exact contract H enc W base args ds gs before hval hW

theorem proved : Rows.TurnListsSaid :=
  OpenClaim.holds_of_wide 8 Try.f8 rfl rfl rfl rfl rfl rfl rfl ⟨rfl, rfl, rfl, rfl, rfl⟩ rfl rfl rfl rfl rfl (by kernel_rfl) Try.func8 (by kernel_rfl)
    (of_decide_eq_true (by kernel_rfl)) (by unfold Func.isWrapper; first | (rw [if_pos (by decide +kernel)]; kernel_rfl) | (rw [if_neg (by decide +kernel)]; exact ⟨rfl, rfl⟩))
    (fun os started H enc _ => lifted os started H enc)
#print axioms proved
end Go.Proofs.Ythamjkccljhhcab.turnLists
