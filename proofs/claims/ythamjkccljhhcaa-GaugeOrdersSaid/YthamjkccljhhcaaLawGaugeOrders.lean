/-
  Of all numbers the program tells the kind, and the order, as the document does, and the order is one. No condition.
-/
import Derived.Test.YthamjkccljhhcaaRows
import Derived.Test.YthamjkccljhhcaaGaugeT
import Derived.Test.YthamjkccljhhcaaBase
import Derived.WalkKit
import Derived.ProofKit
import Derived.OpenShut
namespace Go.Proofs.Ythamjkccljhhcaa.gaugeOrders
open Go.ChangeShapes Go.WideShapes Go.ChangeAt Go.RowKit
open Go.ChangeMaps (open_string)
set_option linter.unusedVariables false

theorem own : ownKnob Try.prog.godebug = none := by kernel_rfl
theorem neg_w1 {x x' : Int} (h : x = -x') (h1 : -1 ≤ x ∧ x ≤ 1) : wrap64 (-x') = x := by rw [IntWalk.wrap64_in _ (by omega)]; omega
theorem neg_w3 {x x' : Int} (h : x = -x') (h1 : -1 ≤ x ∧ x ≤ 1) : IntKind.i64.wrap (-x') = x := by rw [IntWalk.i64_in _ (by omega)]; omega
theorem open_f64 {H : Type} {enc : TypeId × Value → H} {P : Program} {w : World} {base : Nat} {spare : Nat → Bool} {held : Bool} {r : Reach} {b0 : Nat} {t : TypeId} {v : Value} {d : DataW H} {ps : List MemPlace} (ht : P.underlying t = some (.float .f64)) (hval : Value.okWide P w r b0 t v) (hd : DataW.Trod enc P w base spare held t v d ps) :
    ∃ n : Nat, v = .float .f64 n ∧ n < 18446744073709551616 := by
  obtain ⟨n, rfl, _, _, hw⟩ := open_float ht hval hd
  refine ⟨n, rfl, ?_⟩
  have : decide (n < 2 ^ 64) = true := hw
  have := of_decide_eq_true this
  omega

set_option maxHeartbeats 1600000 in
theorem walk (W : World) (a0 : Nat) (b0 : a0 < 18446744073709551616) (a1 : Nat) (b1 : a1 < 18446744073709551616) (a2 : Nat) (b2 : a2 < 18446744073709551616) :
    Calls Try.prog 9 #[.float .f64 a0, .float .f64 a1, .float .f64 a2] W (Says (.bool true) W) := by
  have A1 := Lib.hid fun W => gauge_Compare a0 a1 b0 b1 W
  have A2 := Lib.hid fun W => gauge_Compare a1 a2 b1 b2 W
  have A3 := Lib.hid fun W => gauge_Compare a0 a2 b0 b2 W
  have a4 := fun W => gauge_Compare a1 a0 b1 b0 W
  have a5 := fun W => gauge_Compare a0 a0 b0 b0 W
  have RC := Lib.hid fun W => ref5_Compare a0 a1 b0 b1 W
  have K1 := Lib.hid fun W => gauge_Kind a0 b0 W
  have K2 := Lib.hid fun W => ref5_Kind a0 b0 W
  have ha := cmpW_anti a0 a1
  have ht := cmpW_trans a0 a1 a2
  rw [cmpW_self] at a5
  have hx3 : -1 ≤ cmpW a0 a1 ∧ cmpW a0 a1 ≤ 1 := by unfold cmpW; split <;> (try split) <;> omega
  have hk : ((kindW a0 : Int) != (kindW a0 : Int)) = false := by simp
  generalize kindW a0 = kk at *
  obtain ⟨x', hx'⟩ : ∃ x', cmpW a1 a0 = x' := ⟨_, rfl⟩
  rw [hx'] at a4 ha
  have A4 := Lib.hid a4
  have A5 := Lib.hid a5
  generalize cmpW a0 a1 = x at *
  generalize cmpW a1 a2 = y at *
  generalize cmpW a0 a2 = z at *
  have hxx : (x != x) = false := by simp
  have hwn := neg_w1 ha hx3
  have hwn3 := neg_w3 ha hx3
  have HT := Lib.hid ht
  have HX3 := Lib.hid hx3
  clear ht ha hx' hx3 a4 a5 b0 b1 b2
  go_enter Try.func9, Try.ntmps9
  go_wp2_with fail
  refine (A1.out _).mono ?_
  rintro e w1 ⟨rfl, rfl⟩
  go_wp2_with fail
  refine (A2.out _).mono ?_
  rintro e w1 ⟨rfl, rfl⟩
  go_wp2_with fail
  refine (A3.out _).mono ?_
  rintro e w1 ⟨rfl, rfl⟩
  go_wp2_with fail
  refine (told05 _).mono ?_
  rintro e w2 ⟨rfl, hb⟩
  have B2 := Lib.hid (hb)
  clear hb
  go_wp2_with fail
  refine (K1.out _).mono ?_
  rintro e w3 ⟨rfl, rfl⟩
  go_wp2_with fail
  refine (K2.out _).mono ?_
  rintro e w4 ⟨rfl, hb⟩
  have B4 := Lib.hid (B2.out.trans (hb.mono B2.out.size))
  clear hb
  go_wp2_with fail
  refine (RC.out _).mono ?_
  rintro e w5 ⟨rfl, hb⟩
  have B5 := Lib.hid (B4.out.trans (hb.mono B4.out.size))
  clear hb
  go_wp2_with fail
  refine (A4.out _).mono ?_
  rintro e w6 ⟨rfl, rfl⟩
  go_wp2_with fail
  refine (A5.out _).mono ?_
  rintro e w7 ⟨rfl, rfl⟩
  clear hwn hwn3
  by_cases hx0 : x ≤ 0
  · have dx : decide (x ≤ 0) = true := by simpa using hx0
    by_cases hy0 : y ≤ 0
    · have dy : decide (y ≤ 0) = true := by simpa using hy0
      obtain ⟨hz, hzz⟩ := HT.out hx0 hy0
      have dz : decide (z ≤ 0) = true := by simpa using hz
      by_cases hz0 : z < 0
      · have dz0 : decide (z < 0) = true := by simpa using hz0
        clear hzz
        go_wp2
        all_goals go_ret
        all_goals exact ⟨by simp, B5.out⟩
      · have dz0 : decide (z < 0) = false := by simpa using hz0
        obtain ⟨rfl, rfl⟩ : x = 0 ∧ y = 0 := by omega
        clear hzz
        go_wp2
        all_goals go_ret
        all_goals exact ⟨by simp, B5.out⟩
    · have dy : decide (y ≤ 0) = false := by simpa using hy0
      go_wp2
      all_goals go_ret
      all_goals exact ⟨by simp, B5.out⟩
  · have dx : decide (x ≤ 0) = false := by simpa using hx0
    go_wp2
    all_goals go_ret
    all_goals exact ⟨by simp, B5.out⟩

set_option maxRecDepth 100000 in
/-- What the walk gives, for every argument: the row's own words. -/
theorem contract (H : Type) (enc : TypeId × Value → H) (W : World) (base : Nat) (args : Array Value) (ds gs : List (DataW H)) (before : List MemPlace)
    (hval : ∀ (j : Nat) t v, Try.f9.params[j]? = some t → args[j]? = some v → Value.okWide Try.prog W .any base t v)
    (hW : DataW.Whole enc Try.prog Try.f9.params.toList Rows.gaugeOrdersSpec.vars false W args.toList ds gs before) :
    Calls Try.prog 9 args W fun e W' => ∃ v, e = .returned v ∧ Rows.gaugeOrdersSpec.post enc Try.prog Try.f9 false true false false W args v W' := by
  have hW' := hW
  obtain ⟨p, q, hA0, hV, rfl, hfz, hnd⟩ := hW
  have hA : DataW.TrodAll enc Try.prog W 0 (fun _ => true) true Try.f9.params.toList args.toList ds p := hA0
  rw [Try.params9] at hA hval
  obtain ⟨v0, vs0, d0, ds0, p0, q0, hargs, rfl, rfl, h0, r0⟩ := trodAll_cons hA
  obtain ⟨v1, vs1, d1, ds1, p1, q1, rfl, rfl, rfl, h1, r1⟩ := trodAll_cons r0
  obtain ⟨v2, vs2, d2, ds2, p2, q2, rfl, rfl, rfl, h2, r2⟩ := trodAll_cons r1
  obtain ⟨rfl, rfl, rfl⟩ := trodAll_nil r2
  obtain rfl : args = #[v0, v1, v2] := by cases args; simp_all
  obtain ⟨a0, rfl, b0⟩ := open_f64 Try.underlying52 (hval 0 52 v0 rfl rfl) h0
  obtain ⟨a1, rfl, b1⟩ := open_f64 Try.underlying52 (hval 1 52 v1 rfl rfl) h1
  obtain ⟨a2, rfl, b2⟩ := open_f64 Try.underlying52 (hval 2 52 v2 rfl rfl) h2
  refine (walk W a0 b0 a1 b1 a2 b2).mono fun e W' ⟨he, hb⟩ => ?_
  subst he
  exact close_true (by kernel_rfl) Try.underlying4 (by kernel_rfl) (by kernel_rfl) rfl rfl hW' hb

set_option maxRecDepth 100000 in
theorem lifted (os : Os) (started : os.Started) (H : Type) (enc : TypeId × Value → H) :
    ReturnsInHanded {} Try.checked os 9 .any (Rows.gaugeOrdersSpec.pre6 enc Try.prog Try.f9 Rows.gaugeOrdersRow.domain false) (Rows.gaugeOrdersSpec.post enc Try.prog Try.f9 false true false false) := by
  refine returnsInHanded_of_change (C := Try.checked) own started (by kernel_rfl) Try.func9
    (ChangeSpec.witness6 (enc := enc) (C := Try.checked) false ⟨#[], #[.float .f64 0, .float .f64 0, .float .f64 0], []⟩ 8 (by kernel_rfl) (by kernel_rfl) (by kernel_rfl) (by kernel_rfl)) ?_
  intro W base args ds gs before hval hW _ _
  exact contract H enc W base args ds gs before hval hW

theorem proved : Rows.GaugeOrdersSaid :=
  OpenClaim.holds_of_wide 9 Try.f9 rfl rfl rfl rfl rfl rfl rfl ⟨rfl, rfl, rfl, rfl, rfl⟩ rfl rfl rfl rfl rfl (by kernel_rfl) Try.func9 (by kernel_rfl)
    (of_decide_eq_true (by kernel_rfl)) (by unfold Func.isWrapper; first | (rw [if_pos (by decide +kernel)]; kernel_rfl) | (rw [if_neg (by decide +kernel)]; exact ⟨rfl, rfl⟩))
    (fun os started H enc _ => lifted os started H enc)
#print axioms proved
end Go.Proofs.Ythamjkccljhhcaa.gaugeOrders
