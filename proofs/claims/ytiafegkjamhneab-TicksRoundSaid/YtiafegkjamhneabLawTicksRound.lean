/-
  However late it is, ages are the same of ticks that are as much later, and a tick that was added has been just as long ago, if that isn't too long. No condition.
-/
import Derived.Test.YtiafegkjamhneabRows
import Derived.Test.YtiafegkjamhneabTicksB
import Derived.WalkKit
import Derived.ProofKit
import Derived.OpenShut
namespace Go.Proofs.Ytiafegkjamhneab.ticksRound
open Go.ChangeShapes Go.WideShapes Go.ChangeAt Go.RowKit
open Go.ChangeMaps (open_string)
set_option linter.unusedVariables false

theorem own : ownKnob Try.prog.godebug = none := by kernel_rfl

set_option maxHeartbeats 1600000 in
theorem walk (W : World) (a0 : Nat) (b0 : a0 < 4294967296) (a1 : Nat) (b1 : a1 < 4294967296) (a2 : Nat) (b2 : a2 < 4294967296) :
    Calls Try.prog 4 #[.int .u32 (a0 : Int), .int .u32 (a1 : Int), .int .u32 (a2 : Int)] W (Says (.bool true) W) := by
  have e1 : ageN (addN a0 a2) (addN a1 a2) = ageN a0 a1 := by
    have : distN (addN a0 a2) (addN a1 a2) = distN a0 a1 := by unfold distN addN; omega
    unfold ageN; rw [this]
  have e2 : distN (addN a1 a2) a1 = a2 := by unfold distN addN; omega
  have e3 : ageN a1 a1 = 0 := by
    have : distN a1 a1 = 0 := by unfold distN; omega
    unfold ageN; rw [this]; rfl
  obtain ⟨c, hc⟩ : ∃ c, c = ageN (addN a1 a2) a1 := ⟨_, rfl⟩
  have hlt1 : a2 < 2147483648 → c = a2 := fun h => by rw [hc, ageN_in (by rw [e2]; exact h), e2]
  have hlt2 : ¬ a2 < 2147483648 → c = 0 := fun h => by rw [hc, ageN_out (by rw [e2]; exact h)]
  have l1 := addN_lt a0 a2
  have l2 := addN_lt a1 a2
  have A1 := Lib.hid fun W => ticks_Add a0 a2 b0 b2 W
  have A2 := Lib.hid fun W => ticks_Add a1 a2 b1 b2 W
  have B1 := fun W => ticks_Age a0 a1 b0 b1 W
  have B2 := fun W => ticks_Age _ _ l1 l2 W
  have B3 := fun W => ticks_Age _ _ l2 b1 W
  have B4 := fun W => ticks_Age a1 a1 b1 b1 W
  rw [e1] at B2
  rw [e3] at B4
  rw [← hc] at B3
  obtain ⟨x, hx⟩ : ∃ x, x = addN a0 a2 := ⟨_, rfl⟩
  obtain ⟨y, hy⟩ : ∃ y, y = addN a1 a2 := ⟨_, rfl⟩
  obtain ⟨a, ha⟩ : ∃ a, a = ageN a0 a1 := ⟨_, rfl⟩
  rw [← ha] at B1 B2
  rw [← hx] at A1 B2
  rw [← hy] at A2 B2 B3
  have C1 := Lib.hid B1
  have C2 := Lib.hid B2
  have C3 := Lib.hid B3
  have C4 := Lib.hid B4
  clear e1 e2 e3 hx hy ha hc l1 l2 B1 B2 B3 B4
  by_cases h : ¬ 2147483648 ≤ (a2 : Int)
  · obtain rfl := hlt1 (by omega)
    clear hlt1 hlt2 b0 b1 b2
    generalize (c : Int) = z at *
    have hd : z < 2147483648 := by omega
    go_enter Try.func4, Try.ntmps4
    go_wp2_with fail
    refine (C1.out _).mono ?_
    rintro e w1 ⟨rfl, rfl⟩
    go_wp2_with fail
    refine (A1.out _).mono ?_
    rintro e w1 ⟨rfl, rfl⟩
    go_wp2_with fail
    refine (A2.out _).mono ?_
    rintro e w1 ⟨rfl, rfl⟩
    go_wp2_with fail
    refine (C2.out _).mono ?_
    rintro e w1 ⟨rfl, rfl⟩
    go_wp2_with fail
    refine (A2.out _).mono ?_
    rintro e w1 ⟨rfl, rfl⟩
    go_wp2_with fail
    refine (C3.out _).mono ?_
    rintro e w1 ⟨rfl, rfl⟩
    go_wp2_with fail
    refine (told04 _).mono ?_
    rintro e w1 ⟨rfl, n1, rfl⟩
    go_wp2_with fail
    refine (C4.out _).mono ?_
    rintro e w1 ⟨rfl, rfl⟩
    go_wp2
    go_ret
    exact ⟨by simp, below_drewN (Below.refl _ _) _⟩
  · obtain rfl := hlt2 (by omega)
    replace h := Decidable.not_not.1 h
    clear hlt1 hlt2 b0 b1 b2
    go_enter Try.func4, Try.ntmps4
    go_wp2_with fail
    refine (C1.out _).mono ?_
    rintro e w1 ⟨rfl, rfl⟩
    go_wp2_with fail
    refine (A1.out _).mono ?_
    rintro e w1 ⟨rfl, rfl⟩
    go_wp2_with fail
    refine (A2.out _).mono ?_
    rintro e w1 ⟨rfl, rfl⟩
    go_wp2_with fail
    refine (C2.out _).mono ?_
    rintro e w1 ⟨rfl, rfl⟩
    go_wp2_with fail
    refine (A2.out _).mono ?_
    rintro e w1 ⟨rfl, rfl⟩
    go_wp2_with fail
    refine (C3.out _).mono ?_
    rintro e w1 ⟨rfl, rfl⟩
    go_wp2_with fail
    refine (told04 _).mono ?_
    rintro e w1 ⟨rfl, n1, rfl⟩
    go_wp2_with fail
    refine (C4.out _).mono ?_
    rintro e w1 ⟨rfl, rfl⟩
    go_wp2
    go_ret
    exact ⟨by simp, below_drewN (Below.refl _ _) _⟩

/-- What the walk gives, for every argument: the row's own words. -/
theorem contract (H : Type) (enc : TypeId × Value → H) (W : World) (base : Nat) (args : Array Value) (ds gs : List (DataW H)) (before : List MemPlace)
    (hval : ∀ (j : Nat) t v, Try.f4.params[j]? = some t → args[j]? = some v → Value.okWide Try.prog W .any base t v)
    (hW : DataW.Whole enc Try.prog Try.f4.params.toList Rows.ticksRoundSpec.vars false W args.toList ds gs before) :
    Calls Try.prog 4 args W fun e W' => ∃ v, e = .returned v ∧ Rows.ticksRoundSpec.post enc Try.prog Try.f4 false true false false W args v W' := by
  have hW' := hW
  obtain ⟨p, q, hA0, hV, rfl, hfz, hnd⟩ := hW
  have hA : DataW.TrodAll enc Try.prog W 0 (fun _ => true) true Try.f4.params.toList args.toList ds p := hA0
  rw [Try.params4] at hA hval
  obtain ⟨v0, vs0, d0, ds0, p0, q0, hargs, rfl, rfl, h0, r0⟩ := trodAll_cons hA
  obtain ⟨v1, vs1, d1, ds1, p1, q1, rfl, rfl, rfl, h1, r1⟩ := trodAll_cons r0
  obtain ⟨v2, vs2, d2, ds2, p2, q2, rfl, rfl, rfl, h2, r2⟩ := trodAll_cons r1
  obtain ⟨rfl, rfl, rfl⟩ := trodAll_nil r2
  obtain rfl : args = #[v0, v1, v2] := by cases args; simp_all
  obtain ⟨a0, rfl, b0⟩ := open_u32 Try.underlying22 (hval 0 22 v0 rfl rfl) h0
  obtain ⟨a1, rfl, b1⟩ := open_u32 Try.underlying22 (hval 1 22 v1 rfl rfl) h1
  obtain ⟨a2, rfl, b2⟩ := open_u32 Try.underlying22 (hval 2 22 v2 rfl rfl) h2
  refine (walk W a0 b0 a1 b1 a2 b2).mono fun e W' ⟨he, hb⟩ => ?_
  subst he
  exact close_true (by kernel_rfl) Try.underlying4 (by kernel_rfl) (by kernel_rfl) rfl rfl hW' hb

set_option maxRecDepth 100000 in
theorem lifted (os : Os) (started : os.Started) (H : Type) (enc : TypeId × Value → H) :
    ReturnsInHanded {} Try.checked os 4 .any (Rows.ticksRoundSpec.pre6 enc Try.prog Try.f4 Rows.ticksRoundRow.domain false) (Rows.ticksRoundSpec.post enc Try.prog Try.f4 false true false false) := by
  refine returnsInHanded_of_change (C := Try.checked) own started (by kernel_rfl) Try.func4
    (ChangeSpec.witness6 (enc := enc) (C := Try.checked) false ⟨#[], #[.int .u32 0, .int .u32 0, .int .u32 0], []⟩ 8 (by kernel_rfl) (by kernel_rfl) (by kernel_rfl) (by kernel_rfl)) ?_
  intro W base args ds gs before hval hW _ _
  exact contract H enc W base args ds gs before hval hW

theorem proved : Rows.TicksRoundSaid :=
  OpenClaim.holds_of_wide 4 Try.f4 rfl rfl rfl rfl rfl rfl rfl ⟨rfl, rfl, rfl, rfl, rfl⟩ rfl rfl rfl rfl rfl (by kernel_rfl) Try.func4 (by kernel_rfl)
    (of_decide_eq_true (by kernel_rfl)) (by unfold Func.isWrapper; first | (rw [if_pos (by decide +kernel)]; kernel_rfl) | (rw [if_neg (by decide +kernel)]; exact ⟨rfl, rfl⟩))
    (fun os started H enc _ => lifted os started H enc)
#print axioms proved
end Go.Proofs.Ytiafegkjamhneab.ticksRound
