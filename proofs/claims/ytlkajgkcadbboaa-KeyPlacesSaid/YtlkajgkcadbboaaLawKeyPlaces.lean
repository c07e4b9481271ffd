/-
  Of all keys and counts the program tells the shard and the bucket that the document tells; of each key that may be, and of each count, there is such a one. No condition.
-/
import Derived.Test.YtlkajgkcadbboaaRows
import Derived.Test.YtlkajgkcadbboaaSlotC
import Derived.Test.YtlkajgkcadbboaaOpenFl
import Derived.Deep.RegionHeld3
import Derived.WalkKit
import Derived.ProofKit
import Derived.OpenShut
namespace Go.Proofs.Ytlkajgkcadbboaa.keyPlaces
open Go.ChangeShapes Go.WideShapes Go.ChangeAt Go.RowKit
open Go.ChangeMaps (open_string)
set_option linter.unusedVariables false

theorem own : ownKnob Try.prog.godebug = none := by kernel_rfl

set_option maxHeartbeats 1600000 in
theorem walk (W : World) (a0 : Int) (e0 : Nat) (b0 : -9223372036854775808 ≤ a0 ∧ a0 ≤ 9223372036854775807) (c0 : e0 < 18446744073709551616) (a1 : Int) (b1 : -9223372036854775808 ≤ a1 ∧ a1 ≤ 9223372036854775807) (a2 : Int) (b2 : -9223372036854775808 ≤ a2 ∧ a2 ≤ 9223372036854775807) :
    Calls Try.prog 11 #[.agg #[.int .i64 a0, .int .u64 (e0 : Int)], .int .i64 a1, .int .i64 a2] W (Says (.bool true) W) := by
  obtain ⟨X, hX⟩ : ∃ X : Nat, X = (a1 % 18446744073709551616 % 8).toNat + 1 := ⟨_, rfl⟩
  obtain ⟨Y, hY⟩ : ∃ Y : Nat, Y = (a2 % 18446744073709551616 % 16).toNat + 1 := ⟨_, rfl⟩
  have hx1 : wrap64 (1 + wrap64 ((IntKind.u64.wrap a1).tmod 8)) = (X : Int) := by
    rw [Int.tmod_eq_emod_of_nonneg (by rw [IntKind.wrap_u64]; omega), IntKind.wrap_u64]; unfold wrap64; omega
  have hy1 : wrap64 (1 + wrap64 ((IntKind.u64.wrap a2).tmod 16)) = (Y : Int) := by
    rw [Int.tmod_eq_emod_of_nonneg (by rw [IntKind.wrap_u64]; omega), IntKind.wrap_u64]; unfold wrap64; omega
  have hX1 : 1 ≤ X ∧ X ≤ 8 := by omega
  have hY1 : 1 ≤ Y ∧ Y ≤ 16 := by omega
  have hT := Lib.hid fun W => law8_To a0 (e0 : Int) W
  have hP := Lib.hid fun W => key_Place a0 e0 c0 a1 a2 b1.2 b2.2 W
  have hQ := Lib.hid fun W => ref8_Place a0 e0 c0 a1 a2 b1.2 b2.2 W
  have hF := Lib.hid fun W => ref8_Fix a0 e0 c0 W
  have hfm := fixM_lt e0
  have hT2 := Lib.hid fun W => law8_To (fixV a0) (fixM e0 : Int) W
  have hP2 := fun W => key_Place (fixV a0) (fixM e0) (by omega) (X : Int) (Y : Int) (by omega) (by omega) W
  have hr : rightK (fixV a0) (fixM e0) = true ∧ (1 : Int) ≤ (X : Int) ∧ (1 : Int) ≤ (Y : Int) := ⟨fix_right a0 e0, by omega, by omega⟩
  obtain ⟨p1, p2⟩ := pl_yes hr
  have s1 : 0 ≤ plS (fixV a0) (fixM e0) X Y ∧ plS (fixV a0) (fixM e0) X Y < X := by
    rw [p1]; exact ⟨Int.emod_nonneg _ (by omega), Int.emod_lt_of_pos _ (by omega)⟩
  have s2 : 0 ≤ plB (fixV a0) (fixM e0) X Y ∧ plB (fixV a0) (fixM e0) X Y < Y := by
    rw [p2]; exact ⟨Int.emod_nonneg _ (by omega), Int.emod_lt_of_pos _ (by omega)⟩
  clear p1 p2 hr
  generalize plS a0 e0 a1 a2 = x1 at *
  generalize plB a0 e0 a1 a2 = x2 at *
  generalize plS (fixV a0) (fixM e0) X Y = x3 at *
  generalize plB (fixV a0) (fixM e0) X Y = x4 at *
  have HP2 := Lib.hid hP2
  clear hP2 hX hY hfm b0 c0 b1 b2
  generalize (X : Int) = Xi at *
  generalize (Y : Int) = Yi at *
  obtain ⟨s11, s12⟩ := s1
  obtain ⟨s21, s22⟩ := s2
  clear hX1 hY1
  go_enter Try.func11, Try.ntmps11
  go_wp2_with fail
  refine (hT.out _).mono ?_
  rintro e w1 ⟨rfl, hb⟩
  obtain ⟨hc, hf⟩ := bcell hb
  have k0 : w1.cell? ⟨W.heap.size, 0, none⟩ = some (.int .i64 a0) := by rw [hc _ _ (by simp)]; simp [go_sem]
  have k1 : w1.cell? ⟨W.heap.size, 1, none⟩ = some (.int .u64 (e0 : Int)) := by rw [hc _ _ (by simp)]; simp [go_sem]
  have hB1 : Below W.heap.size W w1 := Below.trans ((Below.refl _ _).alloc (Nat.le_refl _) _) (hb.mono (by simp))
  have hz1 : W.heap.size + 1 ≤ w1.heap.size := by have := hb.size; simp at this; omega
  clear hc hf hb
  go_wp2_with fail
  refine (hP.out _).mono ?_
  rintro e w2 ⟨rfl, hb⟩
  obtain ⟨hc, hf⟩ := bcell hb
  have k0 := (hc W.heap.size 0 (by omega)).trans k0
  have k1 := (hc W.heap.size 1 (by omega)).trans k1
  have hB2 := hB1.trans (hb.mono (by omega))
  have hz2 : W.heap.size + 1 ≤ w2.heap.size := by have := hb.size; omega
  clear hc hf hb hB1 hz1
  go_wp2_with fail
  refine (hQ.out _).mono ?_
  rintro e w3 ⟨rfl, hb⟩
  obtain ⟨hc, hf⟩ := bcell hb
  have k0 := (hc W.heap.size 0 (by omega)).trans k0
  have k1 := (hc W.heap.size 1 (by omega)).trans k1
  have hB3 := hB2.trans (hb.mono (by omega))
  have hz3 : W.heap.size + 1 ≤ w3.heap.size := by have := hb.size; omega
  clear hc hf hb hB2 hz2
  go_wp2_with fail
  refine (told08 _).mono ?_
  rintro e w4 ⟨rfl, hb⟩
  obtain ⟨hc, hf⟩ := bcell hb
  have k0 := (hc W.heap.size 0 (by omega)).trans k0
  have k1 := (hc W.heap.size 1 (by omega)).trans k1
  have hB4 := hB3.trans (hb.mono (by omega))
  have hz4 : W.heap.size + 1 ≤ w4.heap.size := by have := hb.size; omega
  clear hc hf hb hB3 hz3
  go_wp2_with fail
  refine (hF.out _).mono ?_
  rintro e w5 ⟨rfl, hb⟩
  have hB5 := hB4.trans (hb.mono (by omega))
  have hz5 : W.heap.size + 1 ≤ w5.heap.size := by have := hb.size; omega
  clear hb hB4 hz4 k0 k1
  go_wp2_with fail
  refine (hT2.out _).mono ?_
  rintro e w6 ⟨rfl, hb⟩
  have hB6 := hB5.trans (hb.mono (by omega))
  have hz6 : W.heap.size + 1 ≤ w6.heap.size := by have := hb.size; omega
  clear hb hB5 hz5
  go_wp2_with fail
  refine (HP2.out _).mono ?_
  rintro e w7 ⟨rfl, hb⟩
  have hB7 := hB6.trans (hb.mono (by omega))
  clear hb hB6 hz6
  go_wp2
  go_ret
  exact ⟨by simp, hB7⟩

set_option maxRecDepth 100000 in
/-- What the walk gives, for every argument: the row's own words. -/
theorem contract (H : Type) (enc : TypeId × Value → H) (W : World) (base : Nat) (args : Array Value) (ds gs : List (DataW H)) (before : List MemPlace)
    (hval : ∀ (j : Nat) t v, Try.f11.params[j]? = some t → args[j]? = some v → Value.okWide Try.prog W .any base t v)
    (hW : DataW.Whole enc Try.prog Try.f11.params.toList Rows.keyPlacesSpec.vars false W args.toList ds gs before) :
    Calls Try.prog 11 args W fun e W' => ∃ v, e = .returned v ∧ Rows.keyPlacesSpec.post enc Try.prog Try.f11 false true false false W args v W' := by
  have hW' := hW
  obtain ⟨p, q, hA0, hV, rfl, hfz, hnd⟩ := hW
  have hA : DataW.TrodAll enc Try.prog W 0 (fun _ => true) true Try.f11.params.toList args.toList ds p := hA0
  rw [Try.params11] at hA hval
  obtain ⟨v0, vs0, d0, ds0, p0, q0, hargs, rfl, rfl, h0, r0⟩ := trodAll_cons hA
  obtain ⟨v1, vs1, d1, ds1, p1, q1, rfl, rfl, rfl, h1, r1⟩ := trodAll_cons r0
  obtain ⟨v2, vs2, d2, ds2, p2, q2, rfl, rfl, rfl, h2, r2⟩ := trodAll_cons r1
  obtain ⟨rfl, rfl, rfl⟩ := trodAll_nil r2
  obtain rfl : args = #[v0, v1, v2] := by cases args; simp_all
  obtain ⟨a0, e0, rfl, b0, c0⟩ := open_key Try.underlying55 (t0 := 3) (t1 := 22) (by kernel_rfl) (by kernel_rfl) (by kernel_rfl) (by kernel_rfl) (hval 0 55 v0 rfl rfl) h0
  obtain ⟨a1, rfl, b1⟩ := open_i64 Try.underlying3 (hval 1 3 v1 rfl rfl) h1
  obtain ⟨a2, rfl, b2⟩ := open_i64 Try.underlying3 (hval 2 3 v2 rfl rfl) h2
  refine (walk W a0 e0 b0 c0 a1 b1 a2 b2).mono fun e W' ⟨he, hb⟩ => ?_
  subst he
  exact close_true (by kernel_rfl) Try.underlying4 (by kernel_rfl) (by kernel_rfl) rfl rfl hW' hb

set_option maxRecDepth 100000 in
theorem lifted (os : Os) (started : os.Started) (H : Type) (enc : TypeId × Value → H) :
    ReturnsInHanded {} Try.checked os 11 .any (Rows.keyPlacesSpec.pre6 enc Try.prog Try.f11 Rows.keyPlacesRow.domain false) (Rows.keyPlacesSpec.post enc Try.prog Try.f11 false true false false) := by
  refine returnsInHanded_of_change (C := Try.checked) own started (by kernel_rfl) Try.func11
    (ChangeSpec.witness6 (enc := enc) (C := Try.checked) false ⟨#[], #[.agg #[.int .i64 0, .int .u64 0], .int .i64 0, .int .i64 0], []⟩ 8 (by kernel_rfl) (by kernel_rfl) (by kernel_rfl) (by kernel_rfl)) ?_
  intro W base args ds gs before hval hW _ _
  exact contract H enc W base args ds gs before hval hW

theorem proved : Rows.KeyPlacesSaid :=
  OpenClaim.holds_of_wide 11 Try.f11 rfl rfl rfl rfl rfl rfl rfl ⟨rfl, rfl, rfl, rfl, rfl⟩ rfl rfl rfl rfl rfl (by kernel_rfl) Try.func11 (by kernel_rfl)
    (of_decide_eq_true (by kernel_rfl)) (by unfold Func.isWrapper; first | (rw [if_pos (by decide +kernel)]; kernel_rfl) | (rw [if_neg (by decide +kernel)]; exact ⟨rfl, rfl⟩))
    (fun os started H enc _ => lifted os started H enc)
#print axioms proved
end Go.Proofs.Ytlkajgkcadbboaa.keyPlaces
