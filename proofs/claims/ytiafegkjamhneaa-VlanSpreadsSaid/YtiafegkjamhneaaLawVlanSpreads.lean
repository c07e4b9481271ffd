/-
  With and without a port, ports are in just as others were, and the port itself is, or isn't. No condition.
-/
import Derived.Test.YtiafegkjamhneaaRows
import Derived.Test.YtiafegkjamhneaaVlanT
import Derived.Test.YtiafegkjamhneaaPlainVlanB
import Derived.Deep.RegionHeld3
import Derived.WalkKit
import Derived.ProofKit
import Derived.OpenShut
namespace Go.Proofs.Ytiafegkjamhneaa.vlanSpreads
open Go.ChangeShapes Go.WideShapes Go.ChangeAt Go.RowKit
open Go.ChangeMaps (open_string)
set_option linter.unusedVariables false

theorem own : ownKnob Try.prog.godebug = none := by kernel_rfl

set_option maxHeartbeats 1600000 in
theorem walk (W : World) (a0 : Nat) (b0 : a0 < 18446744073709551616) (a1 : Int) (b1 : -9223372036854775808 ≤ a1 ∧ a1 ≤ 9223372036854775807) (a2 : Int) (b2 : -9223372036854775808 ≤ a2 ∧ a2 ≤ 9223372036854775807) :
    Calls Try.prog 9 #[.int .u64 (a0 : Int), .int .i64 a1, .int .i64 a2] W (Says (.bool true) W) := by
  have hla := withN_lt b0 a1
  have hlb := withoutN_lt b0 a1
  have A1 := Lib.hid fun W => vlan_With a0 b0 a1 W
  have A2 := Lib.hid fun W => vlan_Without a0 b0 a1 W
  have P1 := fun W => vlan_Has _ hla a1 W
  have P2 := fun W => vlan_Has _ hlb a1 W
  have Q0 := Lib.hid fun W => vlan_Has _ b0 a2 W
  have Q1 := fun W => vlan_Has _ hla a2 W
  have Q2 := fun W => vlan_Has _ hlb a2 W
  rw [has_without_self b0 a1] at P2
  obtain ⟨z, hz⟩ : ∃ z, z = hasB a0 a2 := ⟨_, rfl⟩
  rw [← hz] at Q0
  have hq1 : a2 ≠ a1 → hasB (withN a0 a1) a2 = z := fun h => by rw [has_with_other a0 h]; exact hz.symm
  have hq2 : a2 ≠ a1 → hasB (withoutN a0 a1) a2 = z := fun h => by rw [has_without_other b0 h]; exact hz.symm
  have hp : (0 ≤ a1 ∧ a1 < 64) → hasB (withN a0 a1) a1 = true := fun h => has_with_self h
  obtain ⟨x, hx⟩ : ∃ x, x = withN a0 a1 := ⟨_, rfl⟩
  obtain ⟨y, hy⟩ : ∃ y, y = withoutN a0 a1 := ⟨_, rfl⟩
  rw [← hx] at A1 P1 Q1 hq1 hp
  rw [← hy] at A2 P2 Q2 hq2
  obtain ⟨t1, ht1⟩ : ∃ t1, t1 = hasB x a1 := ⟨_, rfl⟩
  obtain ⟨t2, ht2⟩ : ∃ t2, t2 = hasB x a2 := ⟨_, rfl⟩
  obtain ⟨t3, ht3⟩ : ∃ t3, t3 = hasB y a2 := ⟨_, rfl⟩
  rw [← ht1] at P1 hp
  rw [← ht2] at Q1 hq1
  rw [← ht3] at Q2 hq2
  have P1 := Lib.hid P1
  have P2 := Lib.hid P2
  have Q1 := Lib.hid Q1
  have Q2 := Lib.hid Q2
  have HP := Lib.hid hp
  have H1 := Lib.hid hq1
  have H2 := Lib.hid hq2
  clear hz hx hy ht1 ht2 ht3 hla hlb hq1 hq2 hp
  by_cases hin : 0 ≤ a1 ∧ a1 < 64
  · obtain ⟨h0, h1⟩ := hin
    obtain rfl := HP.out ⟨h0, h1⟩
    go_enter Try.func9, Try.ntmps9
    go_wp2_with fail
    refine (A1.out _).mono ?_
    rintro e w1 ⟨rfl, rfl⟩
    go_wp2_with fail
    refine (A2.out _).mono ?_
    rintro e w2 ⟨rfl, rfl⟩
    go_wp2_with fail
    refine (told03 _).mono ?_
    rintro e w1 ⟨rfl, hb1⟩
    have HB1 := Lib.hid hb1
    clear hb1
    go_wp2_with fail
    refine (P1.out _).mono ?_
    rintro e w1 ⟨rfl, rfl⟩
    go_wp2_with fail
    refine (P2.out _).mono ?_
    rintro e w1 ⟨rfl, rfl⟩
    by_cases he : a2 = a1
    · go_wp2
      go_ret
      exact ⟨by simp, HB1.out⟩
    · obtain rfl := H1.out he
      obtain rfl := H2.out he
      go_wp2_with fail
      refine (Q1.out _).mono ?_
      rintro e w1 ⟨rfl, rfl⟩
      go_wp2_with fail
      refine (Q0.out _).mono ?_
      rintro e w1 ⟨rfl, rfl⟩
      go_wp2_with fail
      refine (Q2.out _).mono ?_
      rintro e w1 ⟨rfl, rfl⟩
      go_wp2_with fail
      refine (Q0.out _).mono ?_
      rintro e w1 ⟨rfl, rfl⟩
      go_wp2
      go_ret
      exact ⟨by simp, HB1.out⟩
  · have hd : (decide (0 ≤ a1) && decide (a1 < 64)) = false := by simp; omega
    have HD := Lib.hid hd
    clear hd
    go_enter Try.func9, Try.ntmps9
    go_wp2_with fail
    refine (A1.out _).mono ?_
    rintro e w1 ⟨rfl, rfl⟩
    go_wp2_with fail
    refine (A2.out _).mono ?_
    rintro e w2 ⟨rfl, rfl⟩
    go_wp2_with fail
    refine (told03 _).mono ?_
    rintro e w1 ⟨rfl, hb1⟩
    have HB1 := Lib.hid hb1
    clear hb1
    by_cases h0 : 0 ≤ a1
    · have h1 : ¬ a1 < 64 := by omega
      by_cases he : a2 = a1
      · go_wp2
        go_ret
        exact ⟨by simp, HB1.out⟩
      · obtain rfl := H1.out he
        obtain rfl := H2.out he
        go_wp2_with fail
        refine (Q1.out _).mono ?_
        rintro e w1 ⟨rfl, rfl⟩
        go_wp2_with fail
        refine (Q0.out _).mono ?_
        rintro e w1 ⟨rfl, rfl⟩
        go_wp2_with fail
        refine (Q2.out _).mono ?_
        rintro e w1 ⟨rfl, rfl⟩
        go_wp2_with fail
        refine (Q0.out _).mono ?_
        rintro e w1 ⟨rfl, rfl⟩
        go_wp2
        go_ret
        exact ⟨by simp, HB1.out⟩
    · by_cases he : a2 = a1
      · go_wp2
        go_ret
        exact ⟨by simp, HB1.out⟩
      · obtain rfl := H1.out he
        obtain rfl := H2.out he
        go_wp2_with fail
        refine (Q1.out _).mono ?_
        rintro e w1 ⟨rfl, rfl⟩
        go_wp2_with fail
        refine (Q0.out _).mono ?_
        rintro e w1 ⟨rfl, rfl⟩
        go_wp2_with fail
        refine (Q2.out _).mono ?_
        rintro e w1 ⟨rfl, rfl⟩
        go_wp2_with fail
        refine (Q0.out _).mono ?_
        rintro e w1 ⟨rfl, rfl⟩
        go_wp2
        go_ret
        exact ⟨by simp, HB1.out⟩

set_option maxRecDepth 100000 in
/-- What the walk gives, for every argument: the row's own words. -/
theorem contract (H : Type) (enc : TypeId × Value → H) (W : World) (base : Nat) (args : Array Value) (ds gs : List (DataW H)) (before : List MemPlace)
    (hval : ∀ (j : Nat) t v, Try.f9.params[j]? = some t → args[j]? = some v → Value.okWide Try.prog W .any base t v)
    (hW : DataW.Whole enc Try.prog Try.f9.params.toList Rows.vlanSpreadsSpec.vars false W args.toList ds gs before) :
    Calls Try.prog 9 args W fun e W' => ∃ v, e = .returned v ∧ Rows.vlanSpreadsSpec.post enc Try.prog Try.f9 false true false false W args v W' := by
  have hW' := hW
  obtain ⟨p, q, hA0, hV, rfl, hfz, hnd⟩ := hW
  have hA : DataW.TrodAll enc Try.prog W 0 (fun _ => true) true Try.f9.params.toList args.toList ds p := hA0
  rw [Try.params9] at hA hval
  obtain ⟨v0, vs0, d0, ds0, p0, q0, hargs, rfl, rfl, h0, r0⟩ := trodAll_cons hA
  obtain ⟨v1, vs1, d1, ds1, p1, q1, rfl, rfl, rfl, h1, r1⟩ := trodAll_cons r0
  obtain ⟨v2, vs2, d2, ds2, p2, q2, rfl, rfl, rfl, h2, r2⟩ := trodAll_cons r1
  obtain ⟨rfl, rfl, rfl⟩ := trodAll_nil r2
  obtain rfl : args = #[v0, v1, v2] := by cases args; simp_all
  obtain ⟨a0, rfl, b0⟩ := open_u64 Try.underlying23 (hval 0 23 v0 rfl rfl) h0
  obtain ⟨a1, rfl, b1⟩ := open_i64 Try.underlying3 (hval 1 3 v1 rfl rfl) h1
  obtain ⟨a2, rfl, b2⟩ := open_i64 Try.underlying3 (hval 2 3 v2 rfl rfl) h2
  refine (walk W a0 b0 a1 b1 a2 b2).mono fun e W' ⟨he, hb⟩ => ?_
  subst he
  exact close_true (by kernel_rfl) Try.underlying4 (by kernel_rfl) (by kernel_rfl) rfl rfl hW' hb

set_option maxRecDepth 100000 in
theorem lifted (os : Os) (started : os.Started) (H : Type) (enc : TypeId × Value → H) :
    ReturnsInHanded {} Try.checked os 9 .any (Rows.vlanSpreadsSpec.pre6 enc Try.prog Try.f9 Rows.vlanSpreadsRow.domain false) (Rows.vlanSpreadsSpec.post enc Try.prog Try.f9 false true false false) := by
  refine returnsInHanded_of_change (C := Try.checked) own started (by kernel_rfl) Try.func9
    (ChangeSpec.witness6 (enc := enc) (C := Try.checked) false ⟨#[], #[.int .u64 0, .int .i64 0, .int .i64 0], []⟩ 8 (by kernel_rfl) (by kernel_rfl) (by kernel_rfl) (by kernel_rfl)) ?_
  intro W base args ds gs before hval hW _ _
  exact contract H enc W base args ds gs before hval hW

theorem proved : Rows.VlanSpreadsSaid :=
  OpenClaim.holds_of_wide 9 Try.f9 rfl rfl rfl rfl rfl rfl rfl ⟨rfl, rfl, rfl, rfl, rfl⟩ rfl rfl rfl rfl rfl (by kernel_rfl) Try.func9 (by kernel_rfl)
    (of_decide_eq_true (by kernel_rfl)) (by unfold Func.isWrapper; first | (rw [if_pos (by decide +kernel)]; kernel_rfl) | (rw [if_neg (by decide +kernel)]; exact ⟨rfl, rfl⟩))
    (fun os started H enc _ => lifted os started H enc)
#print axioms proved
end Go.Proofs.Ytiafegkjamhneaa.vlanSpreads
