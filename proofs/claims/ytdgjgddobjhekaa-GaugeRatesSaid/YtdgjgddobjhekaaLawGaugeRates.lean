/-
  Of all counts and ticks the program tells the rate, and which of some rates is the greatest, as the document tells. No condition.
-/
import Derived.Test.YtdgjgddobjhekaaRows
import Derived.Test.YtdgjgddobjhekaaGaugeH
import Derived.Test.YtdgjgddobjhekaaBase
import Derived.WalkKit
import Derived.ProofKit
import Derived.OpenShut
namespace Go.Proofs.Ytdgjgddobjhekaa.gaugeRates
open Go.ChangeShapes Go.WideShapes Go.ChangeAt Go.RowKit
open Go.ChangeMaps (open_string)
set_option linter.unusedVariables false

theorem own : ownKnob Try.prog.godebug = none := by kernel_rfl

set_option maxHeartbeats 3200000 in
theorem walk (W : World) (a0 : Nat) (b0 : a0 < 18446744073709551616) (a1 : Nat) (b1 : a1 < 18446744073709551616) (a2 : Value) (n2 : Nat) (L2 : Nat → Nat) (b2 : FlRow W W.heap.size a2 n2 L2) (c2 : ∀ i, L2 i < 18446744073709551616) :
    Calls Try.prog 4 #[.int .u64 (a0 : Int), .int .u64 (a1 : Int), a2] W (Says (.bool true) W) := by
  obtain ⟨A, cap, rfl, h1, h2, h3⟩ := b2
  unfold maxLen at h2
  obtain ⟨M, hM⟩ : ∃ M, M = min n2 200 := ⟨_, rfl⟩
  have hM1 : M ≤ n2 := by omega
  have RL : Hid (FlRow W W.heap.size (.slice A M cap) M L2) := ⟨A, cap, rfl, by omega, by unfold maxLen; exact h2, fun hn => by
    obtain ⟨b, off, e, hb, hc⟩ := h3 (by omega)
    exact ⟨b, off, e, hb, fun i hi => hc i (by omega)⟩⟩
  have HL := Lib.hid c2
  have HT := Lib.hid told05
  have HZ : Hid (W.heap.size ≤ W.heap.size) := Nat.le_refl _
  have HB := Lib.hid (Below.refl W.heap.size W)
  have HB1 := Lib.hid fun w (hv : FlRow w W.heap.size (.slice A M cap) M L2) (hb : W.heap.size ≤ w.heap.size) => gauge_Busiest hv HL.out hb
  have HB2 := Lib.hid fun w (hv : FlRow w W.heap.size (.slice A M cap) M L2) (hb : W.heap.size ≤ w.heap.size) => ref5_Busiest hv HL.out hb
  generalize busyF L2 M = bz at *
  have hbz : (bz == bz) = true := by simp
  clear h3 c2
  have hM2 : (n2 ≤ 200 ∧ M = n2) ∨ (200 < n2 ∧ M = 200) := by omega
  clear hM
  rcases hM2 with ⟨hle, rfl⟩ | ⟨hgt, rfl⟩
  all_goals try (have hle1 : (M : Int) ≤ 200 := by omega)
  all_goals try (have hgt1 : (200 : Int) < (n2 : Int) := by omega)
  · cases hq : floatBits .quo .f64 (floatOfInt .f64 (a0 : Int)) (floatOfInt .f64 (a1 : Int)) with
    | some q =>
      have HR1 := Lib.hid fun W => gauge_Rate_some a0 a1 q hq W
      have HR2 := Lib.hid fun W => ref5_Rate_some a0 a1 q hq W
      have hql : q < 18446744073709551616 := f64_wf (floatBits_wf hq)
      have hs := fun W => ref5_Same q q hql hql W
      rw [cmpW_self, show ((0 : Int) == 0) = true from rfl] at hs
      have HS := Lib.hid hs
      clear hs hql hq b0 b1
      go_enter Try.func4, Try.ntmps4
      go_wp2_with fail
      refine (HT.out _).mono ?_
      rintro e w1 ⟨rfl, hb⟩
      have HB := Lib.hid (HB.out.trans (hb.mono HB.out.size))
      have RL := Lib.hid (RL.out.below (hb.mono HZ.out))
      have HZ := Lib.hid (Nat.le_trans HZ.out hb.size)
      clear hb
      go_wp2_with fail
      refine (HR1.out _).mono ?_
      rintro e w2 ⟨rfl, hb⟩
      have HB := Lib.hid (HB.out.trans (hb.mono HB.out.size))
      have RL := Lib.hid (RL.out.below (hb.mono HZ.out))
      have HZ := Lib.hid (Nat.le_trans HZ.out hb.size)
      clear hb
      go_wp2_with fail
      refine (HR2.out _).mono ?_
      rintro e w3 ⟨rfl, hb⟩
      have HB := Lib.hid (HB.out.trans (hb.mono HB.out.size))
      have RL := Lib.hid (RL.out.below (hb.mono HZ.out))
      have HZ := Lib.hid (Nat.le_trans HZ.out hb.size)
      clear hb
      go_wp2_with fail
      refine (HS.out _).mono ?_
      rintro e w4 ⟨rfl, hb⟩
      have HB := Lib.hid (HB.out.trans (hb.mono HB.out.size))
      have RL := Lib.hid (RL.out.below (hb.mono HZ.out))
      have HZ := Lib.hid (Nat.le_trans HZ.out hb.size)
      clear hb
      go_wp2_with fail
      refine (HB1.out _ RL.out HZ.out).mono ?_
      rintro e w5 ⟨rfl, hb⟩
      have HB := Lib.hid (HB.out.trans (hb.mono HB.out.size))
      have RL := Lib.hid (RL.out.below (hb.mono HZ.out))
      have HZ := Lib.hid (Nat.le_trans HZ.out hb.size)
      clear hb
      go_wp2_with fail
      refine (HB2.out _ RL.out HZ.out).mono ?_
      rintro e w6 ⟨rfl, hb⟩
      have HB := Lib.hid (HB.out.trans (hb.mono HB.out.size))
      have RL := Lib.hid (RL.out.below (hb.mono HZ.out))
      have HZ := Lib.hid (Nat.le_trans HZ.out hb.size)
      clear hb
      go_wp2
      go_ret
      exact ⟨by simp, HB.out⟩
    | none =>
      have HR1 := Lib.hid fun W => gauge_Rate_none a0 a1 hq W
      have HR2 := Lib.hid fun W => ref5_Rate_none a0 a1 hq W
      clear hq b0 b1
      go_enter Try.func4, Try.ntmps4
      go_wp2_with fail
      refine (HT.out _).mono ?_
      rintro e w1 ⟨rfl, hb⟩
      have HB := Lib.hid (HB.out.trans (hb.mono HB.out.size))
      have RL := Lib.hid (RL.out.below (hb.mono HZ.out))
      have HZ := Lib.hid (Nat.le_trans HZ.out hb.size)
      clear hb
      go_wp2_with fail
      refine (HR1.out _).mono ?_
      rintro e w2 ⟨x, hnx, hlx, rfl, hb⟩
      have HB := Lib.hid (HB.out.trans (hb.mono HB.out.size))
      have RL := Lib.hid (RL.out.below (hb.mono HZ.out))
      have HZ := Lib.hid (Nat.le_trans HZ.out hb.size)
      clear hb
      go_wp2_with fail
      refine (HR2.out _).mono ?_
      rintro e w3 ⟨y, hny, hly, rfl, hb⟩
      have HB := Lib.hid (HB.out.trans (hb.mono HB.out.size))
      have RL := Lib.hid (RL.out.below (hb.mono HZ.out))
      have HZ := Lib.hid (Nat.le_trans HZ.out hb.size)
      clear hb
      have hs := fun W => ref5_Same x y hlx hly W
      rw [cmpW_nans hnx hny, show ((0 : Int) == 0) = true from rfl] at hs
      have HS := Lib.hid hs
      clear hs hnx hny hlx hly
      go_wp2_with fail
      refine (HS.out _).mono ?_
      rintro e w4 ⟨rfl, hb⟩
      have HB := Lib.hid (HB.out.trans (hb.mono HB.out.size))
      have RL := Lib.hid (RL.out.below (hb.mono HZ.out))
      have HZ := Lib.hid (Nat.le_trans HZ.out hb.size)
      clear hb
      go_wp2_with fail
      refine (HB1.out _ RL.out HZ.out).mono ?_
      rintro e w5 ⟨rfl, hb⟩
      have HB := Lib.hid (HB.out.trans (hb.mono HB.out.size))
      have RL := Lib.hid (RL.out.below (hb.mono HZ.out))
      have HZ := Lib.hid (Nat.le_trans HZ.out hb.size)
      clear hb
      go_wp2_with fail
      refine (HB2.out _ RL.out HZ.out).mono ?_
      rintro e w6 ⟨rfl, hb⟩
      have HB := Lib.hid (HB.out.trans (hb.mono HB.out.size))
      have RL := Lib.hid (RL.out.below (hb.mono HZ.out))
      have HZ := Lib.hid (Nat.le_trans HZ.out hb.size)
      clear hb
      go_wp2
      go_ret
      exact ⟨by simp, HB.out⟩
  · cases hq : floatBits .quo .f64 (floatOfInt .f64 (a0 : Int)) (floatOfInt .f64 (a1 : Int)) with
    | some q =>
      have HR1 := Lib.hid fun W => gauge_Rate_some a0 a1 q hq W
      have HR2 := Lib.hid fun W => ref5_Rate_some a0 a1 q hq W
      have hql : q < 18446744073709551616 := f64_wf (floatBits_wf hq)
      have hs := fun W => ref5_Same q q hql hql W
      rw [cmpW_self, show ((0 : Int) == 0) = true from rfl] at hs
      have HS := Lib.hid hs
      clear hs hql hq b0 b1
      go_enter Try.func4, Try.ntmps4
      go_wp2_with fail
      refine (HT.out _).mono ?_
      rintro e w1 ⟨rfl, hb⟩
      have HB := Lib.hid (HB.out.trans (hb.mono HB.out.size))
      have RL := Lib.hid (RL.out.below (hb.mono HZ.out))
      have HZ := Lib.hid (Nat.le_trans HZ.out hb.size)
      clear hb
      go_wp2_with fail
      refine (HR1.out _).mono ?_
      rintro e w2 ⟨rfl, hb⟩
      have HB := Lib.hid (HB.out.trans (hb.mono HB.out.size))
      have RL := Lib.hid (RL.out.below (hb.mono HZ.out))
      have HZ := Lib.hid (Nat.le_trans HZ.out hb.size)
      clear hb
      go_wp2_with fail
      refine (HR2.out _).mono ?_
      rintro e w3 ⟨rfl, hb⟩
      have HB := Lib.hid (HB.out.trans (hb.mono HB.out.size))
      have RL := Lib.hid (RL.out.below (hb.mono HZ.out))
      have HZ := Lib.hid (Nat.le_trans HZ.out hb.size)
      clear hb
      go_wp2_with fail
      refine (HS.out _).mono ?_
      rintro e w4 ⟨rfl, hb⟩
      have HB := Lib.hid (HB.out.trans (hb.mono HB.out.size))
      have RL := Lib.hid (RL.out.below (hb.mono HZ.out))
      have HZ := Lib.hid (Nat.le_trans HZ.out hb.size)
      clear hb
      go_wp2_with fail
      refine (HB1.out _ RL.out HZ.out).mono ?_
      rintro e w5 ⟨rfl, hb⟩
      have HB := Lib.hid (HB.out.trans (hb.mono HB.out.size))
      have RL := Lib.hid (RL.out.below (hb.mono HZ.out))
      have HZ := Lib.hid (Nat.le_trans HZ.out hb.size)
      clear hb
      go_wp2_with fail
      refine (HB2.out _ RL.out HZ.out).mono ?_
      rintro e w6 ⟨rfl, hb⟩
      have HB := Lib.hid (HB.out.trans (hb.mono HB.out.size))
      have RL := Lib.hid (RL.out.below (hb.mono HZ.out))
      have HZ := Lib.hid (Nat.le_trans HZ.out hb.size)
      clear hb
      go_wp2
      go_ret
      exact ⟨by simp, HB.out⟩
    | none =>
      have HR1 := Lib.hid fun W => gauge_Rate_none a0 a1 hq W
      have HR2 := Lib.hid fun W => ref5_Rate_none a0 a1 hq W
      clear hq b0 b1
      go_enter Try.func4, Try.ntmps4
      go_wp2_with fail
      refine (HT.out _).mono ?_
      rintro e w1 ⟨rfl, hb⟩
      have HB := Lib.hid (HB.out.trans (hb.mono HB.out.size))
      have RL := Lib.hid (RL.out.below (hb.mono HZ.out))
      have HZ := Lib.hid (Nat.le_trans HZ.out hb.size)
      clear hb
      go_wp2_with fail
      refine (HR1.out _).mono ?_
      rintro e w2 ⟨x, hnx, hlx, rfl, hb⟩
      have HB := Lib.hid (HB.out.trans (hb.mono HB.out.size))
      have RL := Lib.hid (RL.out.below (hb.mono HZ.out))
      have HZ := Lib.hid (Nat.le_trans HZ.out hb.size)
      clear hb
      go_wp2_with fail
      refine (HR2.out _).mono ?_
      rintro e w3 ⟨y, hny, hly, rfl, hb⟩
      have HB := Lib.hid (HB.out.trans (hb.mono HB.out.size))
      have RL := Lib.hid (RL.out.below (hb.mono HZ.out))
      have HZ := Lib.hid (Nat.le_trans HZ.out hb.size)
      clear hb
      have hs := fun W => ref5_Same x y hlx hly W
      rw [cmpW_nans hnx hny, show ((0 : Int) == 0) = true from rfl] at hs
      have HS := Lib.hid hs
      clear hs hnx hny hlx hly
      go_wp2_with fail
      refine (HS.out _).mono ?_
      rintro e w4 ⟨rfl, hb⟩
      have HB := Lib.hid (HB.out.trans (hb.mono HB.out.size))
      have RL := Lib.hid (RL.out.below (hb.mono HZ.out))
      have HZ := Lib.hid (Nat.le_trans HZ.out hb.size)
      clear hb
      go_wp2_with fail
      refine (HB1.out _ RL.out HZ.out).mono ?_
      rintro e w5 ⟨rfl, hb⟩
      have HB := Lib.hid (HB.out.trans (hb.mono HB.out.size))
      have RL := Lib.hid (RL.out.below (hb.mono HZ.out))
      have HZ := Lib.hid (Nat.le_trans HZ.out hb.size)
      clear hb
      go_wp2_with fail
      refine (HB2.out _ RL.out HZ.out).mono ?_
      rintro e w6 ⟨rfl, hb⟩
      have HB := Lib.hid (HB.out.trans (hb.mono HB.out.size))
      have RL := Lib.hid (RL.out.below (hb.mono HZ.out))
      have HZ := Lib.hid (Nat.le_trans HZ.out hb.size)
      clear hb
      go_wp2
      go_ret
      exact ⟨by simp, HB.out⟩

set_option maxRecDepth 100000 in
/-- What the walk gives, for every argument: the row's own words. -/
theorem contract (H : Type) (enc : TypeId × Value → H) (W : World) (base : Nat) (args : Array Value) (ds gs : List (DataW H)) (before : List MemPlace)
    (hval : ∀ (j : Nat) t v, Try.f4.params[j]? = some t → args[j]? = some v → Value.okWide Try.prog W .any base t v)
    (hW : DataW.Whole enc Try.prog Try.f4.params.toList Rows.gaugeRatesSpec.vars false W args.toList ds gs before) :
    Calls Try.prog 4 args W fun e W' => ∃ v, e = .returned v ∧ Rows.gaugeRatesSpec.post enc Try.prog Try.f4 false true false false W args v W' := by
  have hW' := hW
  obtain ⟨p, q, hA0, hV, rfl, hfz, hnd⟩ := hW
  have hA : DataW.TrodAll enc Try.prog W 0 (fun _ => true) true Try.f4.params.toList args.toList ds p := hA0
  rw [Try.params4] at hA hval
  obtain ⟨v0, vs0, d0, ds0, p0, q0, hargs, rfl, rfl, h0, r0⟩ := trodAll_cons hA
  obtain ⟨v1, vs1, d1, ds1, p1, q1, rfl, rfl, rfl, h1, r1⟩ := trodAll_cons r0
  obtain ⟨v2, vs2, d2, ds2, p2, q2, rfl, rfl, rfl, h2, r2⟩ := trodAll_cons r1
  obtain ⟨rfl, rfl, rfl⟩ := trodAll_nil r2
  obtain rfl : args = #[v0, v1, v2] := by cases args; simp_all
  obtain ⟨a0, rfl, b0⟩ := open_u64 Try.underlying27 (hval 0 27 v0 rfl rfl) h0
  obtain ⟨a1, rfl, b1⟩ := open_u64 Try.underlying27 (hval 1 27 v1 rfl rfl) h1
  obtain ⟨n2, L2, b2, c2⟩ := open_f64s Try.underlying28 (by kernel_rfl) (by kernel_rfl) Try.underlying22 (hval 2 28 v2 rfl rfl) h2
  refine (walk W a0 b0 a1 b1 v2 n2 L2 b2 c2).mono fun e W' ⟨he, hb⟩ => ?_
  subst he
  exact close_true (by kernel_rfl) Try.underlying4 (by kernel_rfl) (by kernel_rfl) rfl rfl hW' hb

set_option maxRecDepth 100000 in
theorem lifted (os : Os) (started : os.Started) (H : Type) (enc : TypeId × Value → H) :
    ReturnsInHanded {} Try.checked os 4 .any (Rows.gaugeRatesSpec.pre6 enc Try.prog Try.f4 Rows.gaugeRatesRow.domain false) (Rows.gaugeRatesSpec.post enc Try.prog Try.f4 false true false false) := by
  refine returnsInHanded_of_change (C := Try.checked) own started (by kernel_rfl) Try.func4
    (ChangeSpec.witness6 (enc := enc) (C := Try.checked) false ⟨#[], #[.int .u64 0, .int .u64 0, .slice none 0 0], []⟩ 8 (by kernel_rfl) (by kernel_rfl) (by kernel_rfl) (by kernel_rfl)) ?_
  intro W base args ds gs before hval hW _ _
  exact contract H enc W base args ds gs before hval hW

theorem proved : Rows.GaugeRatesSaid :=
  OpenClaim.holds_of_wide 4 Try.f4 rfl rfl rfl rfl rfl rfl rfl ⟨rfl, rfl, rfl, rfl, rfl⟩ rfl rfl rfl rfl rfl (by kernel_rfl) Try.func4 (by kernel_rfl)
    (of_decide_eq_true (by kernel_rfl)) (by unfold Func.isWrapper; first | (rw [if_pos (by decide +kernel)]; kernel_rfl) | (rw [if_neg (by decide +kernel)]; exact ⟨rfl, rfl⟩))
    (fun os started H enc _ => lifted os started H enc)
#print axioms proved
end Go.Proofs.Ytdgjgddobjhekaa.gaugeRates
