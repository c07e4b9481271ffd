/-
  As time goes on, by less than half of all ticks, what was old stays so, and ages grow by as much. No condition.
-/
import Derived.Test.YtiafegkjamhneabRows
import Derived.Test.YtiafegkjamhneabTicksB
import Derived.WalkKit
import Derived.ProofKit
import Derived.OpenShut
namespace Go.Proofs.Ytiafegkjamhneab.ticksLater
open Go.ChangeShapes Go.WideShapes Go.ChangeAt Go.RowKit
open Go.ChangeMaps (open_string)
set_option linter.unusedVariables false

theorem own : ownKnob Try.prog.godebug = none := by kernel_rfl

set_option maxHeartbeats 1600000 in
theorem walk (W : World) (a0 : Nat) (b0 : a0 < 4294967296) (a1 : Nat) (b1 : a1 < 4294967296) (a2 : Nat) (b2 : a2 < 4294967296) :
    Calls Try.prog 6 #[.int .u32 (a0 : Int), .int .u32 (a1 : Int), .int .u32 (a2 : Int)] W (Says (.bool true) W) := by
  obtain ⟨x, hx⟩ : ∃ x, x = a1 % 1073741824 := ⟨_, rfl⟩
  obtain ⟨y, hy⟩ : ∃ y, y = a2 % 1073741824 := ⟨_, rfl⟩
  have hx1 : (a1 : Int) % 1073741824 = (x : Int) := by omega
  have hy1 : (a2 : Int) % 1073741824 = (y : Int) := by omega
  have hxl : x < 1073741824 := by omega
  have hyl : y < 1073741824 := by omega
  have e1 : distN (addN a0 x) a0 = x := by unfold distN addN; omega
  have e2 : distN (addN (addN a0 x) y) a0 = x + y := by unfold distN addN; omega
  have f1 : ageN (addN a0 x) a0 = x := by rw [ageN_in (by rw [e1]; omega), e1]
  have f2 : ageN (addN (addN a0 x) y) a0 = x + y := by rw [ageN_in (by rw [e2]; omega), e2]
  have l1 := addN_lt a0 x
  have l2 := addN_lt (addN a0 x) y
  have A1 := fun W => ticks_Add a0 x b0 (by omega) W
  have A2 := fun W => ticks_Add _ y l1 (by omega) W
  have B1 := fun W => ticks_Age _ _ l1 b0 W
  have B2 := fun W => ticks_Age _ _ l2 b0 W
  have C1 := fun W => ticks_Old _ a0 a2 l1 b0 W
  have C2 := fun W => ticks_Old _ a0 a2 l2 b0 W
  rw [f1] at B1
  rw [f2] at B2
  unfold oldB at C1 C2
  rw [f1] at C1
  rw [f2] at C2
  have hw : IntKind.u32.wrap ((x : Int) + (y : Int)) = ((x + y : Nat) : Int) := by rw [IntWalk.u32_in _ (by omega)]; simp
  have hov : ((!decide (a2 < x)) || decide (a2 < x + y)) = true := by
    by_cases h : a2 < x
    · have : a2 < x + y := by omega
      simp [h, this]
    · simp [h]
  obtain ⟨p, hp⟩ : ∃ p, p = addN (addN a0 x) y := ⟨_, rfl⟩
  rw [← hp] at A2 B2 C2
  obtain ⟨q, hq⟩ : ∃ q, q = addN a0 x := ⟨_, rfl⟩
  rw [← hq] at A1 A2 B1 C1
  generalize decide (a2 < x) = z at *
  generalize decide (a2 < x + y) = z2 at *
  generalize x + y = s at *
  have A1 := Lib.hid A1
  have A2 := Lib.hid A2
  have B1 := Lib.hid B1
  have B2 := Lib.hid B2
  have C1 := Lib.hid C1
  have C2 := Lib.hid C2
  clear e1 e2 f1 f2 hp hq l1 l2 hx hy hxl hyl b0
  cases z
  · clear hov
    go_enter Try.func6, Try.ntmps6
    go_wp2_with fail
    refine (A1.out _).mono ?_
    rintro e w1 ⟨rfl, rfl⟩
    go_wp2_with fail
    refine (A1.out _).mono ?_
    rintro e w1 ⟨rfl, rfl⟩
    go_wp2_with fail
    refine (A2.out _).mono ?_
    rintro e w1 ⟨rfl, rfl⟩
    go_wp2_with fail
    refine (told04 _).mono ?_
    rintro e w1 ⟨rfl, n1, rfl⟩
    go_wp2_with fail
    refine (B1.out _).mono ?_
    rintro e w1 ⟨rfl, rfl⟩
    go_wp2_with fail
    refine (B2.out _).mono ?_
    rintro e w1 ⟨rfl, rfl⟩
    go_wp2_with fail
    refine (C1.out _).mono ?_
    rintro e w1 ⟨rfl, rfl⟩
    go_wp2
    go_ret
    exact ⟨by simp, below_drewN (Below.refl _ _) _⟩
  · cases z2
    · simp at hov
    · clear hov
      go_enter Try.func6, Try.ntmps6
      go_wp2_with fail
      refine (A1.out _).mono ?_
      rintro e w1 ⟨rfl, rfl⟩
      go_wp2_with fail
      refine (A1.out _).mono ?_
      rintro e w1 ⟨rfl, rfl⟩
      go_wp2_with fail
      refine (A2.out _).mono ?_
      rintro e w1 ⟨rfl, rfl⟩
      go_wp2_with fail
      refine (told04 _).mono ?_
      rintro e w1 ⟨rfl, n1, rfl⟩
      go_wp2_with fail
      refine (B1.out _).mono ?_
      rintro e w1 ⟨rfl, rfl⟩
      go_wp2_with fail
      refine (B2.out _).mono ?_
      rintro e w1 ⟨rfl, rfl⟩
      go_wp2_with fail
      refine (C1.out _).mono ?_
      rintro e w1 ⟨rfl, rfl⟩
      go_wp2_with fail
      refine (C2.out _).mono ?_
      rintro e w1 ⟨rfl, rfl⟩
      go_wp2
      go_ret
      exact ⟨by simp, below_drewN (Below.refl _ _) _⟩

/-- What the walk gives, for every argument: the row's own words. -/
theorem contract (H : Type) (enc : TypeId × Value → H) (W : World) (base : Nat) (args : Array Value) (ds gs : List (DataW H)) (before : List MemPlace)
    (hval : ∀ (j : Nat) t v, Try.f6.params[j]? = some t → args[j]? = some v → Value.okWide Try.prog W .any base t v)
    (hW : DataW.Whole enc Try.prog Try.f6.params.toList Rows.ticksLaterSpec.vars false W args.toList ds gs before) :
    Calls Try.prog 6 args W fun e W' => ∃ v, e = .returned v ∧ Rows.ticksLaterSpec.post enc Try.prog Try.f6 false true false false W args v W' := by
  have hW' := hW
  obtain ⟨p, q, hA0, hV, rfl, hfz, hnd⟩ := hW
  have hA : DataW.TrodAll enc Try.prog W 0 (fun _ => true) true Try.f6.params.toList args.toList ds p := hA0
  rw [Try.params6] at hA hval
  obtain ⟨v0, vs0, d0, ds0, p0, q0, hargs, rfl, rfl, h0, r0⟩ := trodAll_cons hA
  obtain ⟨v1, vs1, d1, ds1, p1, q1, rfl, rfl, rfl, h1, r1⟩ := trodAll_cons r0
  obtain ⟨v2, vs2, d2, ds2, p2, q2, rfl, rfl, rfl, h2, r2⟩ := trodAll_cons r1
  obtain ⟨rfl, rfl, rfl⟩ := trodAll_nil r2
  obtain rfl : args = #[v0, v1, v2] := by cases args; simp_all
  obtain ⟨a0, rfl, b0⟩ := open_u32 Try.underlying22 (hval 0 22 v0 rfl rfl) h0
  obtain ⟨a1, rfl, b1⟩ := open_u32 Try.underlying22 (hval 1 22 v1 rfl rfl) h1
  obtain ⟨a2, rfl, b2⟩ := open_u32 Try.underlying22 (hval 2 22 v2 rfl rfl) h2
  refine (walk W a0 b0 a1 b1 a2 b2).mono fun e W' ⟨he, hb⟩ => ?_
  subst he
  exact close_true (by kernel_rfl) Try.underlying4 (by kernel_rfl) (by kernel_rfl) rfl rfl hW' hb

set_option maxRecDepth 100000 in
theorem lifted (os : Os) (started : os.Started) (H : Type) (enc : TypeId × Value → H) :
    ReturnsInHanded {} Try.checked os 6 .any (Rows.ticksLaterSpec.pre6 enc Try.prog Try.f6 Rows.ticksLaterRow.domain false) (Rows.ticksLaterSpec.post enc Try.prog Try.f6 false true false false) := by
  refine returnsInHanded_of_change (C := Try.checked) own started (by kernel_rfl) Try.func6
    (ChangeSpec.witness6 (enc := enc) (C := Try.checked) false ⟨#[], #[.int .u32 0, .int .u32 0, .int .u32 0], []⟩ 8 (by kernel_rfl) (by kernel_rfl) (by kernel_rfl) (by kernel_rfl)) ?_
  intro W base args ds gs before hval hW _ _
  exact contract H enc W base args ds gs before hval hW

theorem proved : Rows.TicksLaterSaid :=
  OpenClaim.holds_of_wide 6 Try.f6 rfl rfl rfl rfl rfl rfl rfl ⟨rfl, rfl, rfl, rfl, rfl⟩ rfl rfl rfl rfl rfl (by kernel_rfl) Try.func6 (by kernel_rfl)
    (of_decide_eq_true (by kernel_rfl)) (by unfold Func.isWrapper; first | (rw [if_pos (by decide +kernel)]; kernel_rfl) | (rw [if_neg (by decide +kernel)]; exact ⟨rfl, rfl⟩))
    (fun os started H enc _ => lifted os started H enc)
#print axioms proved
end Go.Proofs.Ytiafegkjamhneab.ticksLater
