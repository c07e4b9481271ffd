/-
  Of all VLANs, numbers and ports the program tells whether a frame may come in, and at which ports it may go out, as the document tells: at no port at which it came in. No condition.
-/
import Derived.Test.YtiafegkjamhneaaRows
import Derived.Test.YtiafegkjamhneaaVlanT
import Derived.Test.YtiafegkjamhneaaPlainVlanB
import Derived.Deep.RegionHeld3
import Derived.Test.YtiafegkjamhneaaOpenVl
import Derived.Test.YtiafegkjamhneaaVlanF
import Derived.WalkKit
import Derived.ProofKit
import Derived.OpenShut
namespace Go.Proofs.Ytiafegkjamhneaa.vlanPorts
open Go.ChangeShapes Go.WideShapes Go.ChangeAt Go.RowKit
open Go.ChangeMaps (open_string)
set_option linter.unusedVariables false

theorem own : ownKnob Try.prog.godebug = none := by kernel_rfl

set_option maxHeartbeats 1600000 in
theorem walk (W : World) (a0 : Value) (l0 : List Vl) (b0 : Sl W W.heap.size 3 a0 l0.length (vlc l0)) (c0 : ∀ x ∈ l0, x.ok) (a1 : Int) (b1 : -9223372036854775808 ≤ a1 ∧ a1 ≤ 9223372036854775807) (a2 : Int) (b2 : -9223372036854775808 ≤ a2 ∧ a2 ≤ 9223372036854775807) :
    Calls Try.prog 12 #[a0, .int .i64 a1, .int .i64 a2] W (Says (.bool true) W) := by
  obtain ⟨A, cap, hv, hcap, hmx⟩ := b0.form
  subst hv
  obtain ⟨K, hK⟩ : ∃ K, K = min l0.length 20 := ⟨_, rfl⟩
  have hK1 : K ≤ l0.length := by omega
  have hK2 : K ≤ 20 := by omega
  have hfew := fun w => law3_Few (A := A) (w := w) hcap hmx
  rw [← hK] at hfew
  have hs0 := b0.cutTo hK1
  rw [vlc_take] at hs0
  have hc : ∀ x ∈ l0.take K, x.ok := fun x hx => c0 x (List.mem_of_mem_take hx)
  generalize l0.take K = L at *
  have S0 := Lib.hid hs0
  have HC := Lib.hid hc
  have FEW := Lib.hid hfew
  clear b0 c0 hK hs0 hc hfew hK1 hcap hmx
  have hz : hasB (leaveN L a1 a2 K) a2 = false := by
    unfold leaveN
    split
    · simp [hasB]
    · exact has_without_self (vl_ok HC.out _).2.1 _
  have hle : leaveN L a1 a2 K < 18446744073709551616 := by
    unfold leaveN
    split
    · omega
    · exact withoutN_lt (vl_ok HC.out _).2.1 _
  have hTo : ∀ w, Sl w W.heap.size 3 (.slice A K cap) K (vlc L) → W.heap.size ≤ w.heap.size → Calls Try.prog 36 #[.slice A K cap] w fun e w' => ∃ u, e = .returned u ∧ Sl w' w'.heap.size 3 u K (vlc L) ∧ Below w.heap.size w w' := fun w h1 h2 => law3_To hK2 h1 h2
  have hL1 : ∀ v w B, Sl w B 3 v K (vlc L) → B ≤ w.heap.size → Calls Try.prog 35 #[v, .int .i64 a1, .int .i64 a2] w (Says (.int .u64 (leaveN L a1 a2 K : Nat)) w) := fun v w B h1 h2 => vlan_Leave HC.out h1 h2 a1 a2
  have hL2 : ∀ v w B, Sl w B 3 v K (vlc L) → B ≤ w.heap.size → Calls Try.prog 39 #[v, .int .i64 a1, .int .i64 a2] w (Says (.int .u64 (leaveN L a1 a2 K : Nat)) w) := fun v w B h1 h2 => ref3_Leave HC.out h1 h2 a1 a2
  have hE1 : ∀ v w B, Sl w B 3 v K (vlc L) → B ≤ w.heap.size → Calls Try.prog 37 #[v, .int .i64 a1, .int .i64 a2] w (Says (.int .i64 (enterN L a1 a2 K : Nat)) w) := fun v w B h1 h2 => vlan_Enter HC.out h1 h2 a1 a2
  have hE2 : ∀ v w B, Sl w B 3 v K (vlc L) → B ≤ w.heap.size → Calls Try.prog 38 #[v, .int .i64 a1, .int .i64 a2] w (Says (.int .i64 (enterN L a1 a2 K : Nat)) w) := fun v w B h1 h2 => ref3_Enter HC.out h1 h2 a1 a2
  have hH := fun w => ref3_Has _ hle a2 w
  rw [hz] at hH
  generalize leaveN L a1 a2 K = R at *
  generalize enterN L a1 a2 K = E at *
  have HTO := Lib.hid hTo
  have L1 := Lib.hid hL1
  have L2 := Lib.hid hL2
  have E1 := Lib.hid hE1
  have E2 := Lib.hid hE2
  have HH := Lib.hid hH
  clear hTo hL1 hL2 hE1 hE2 hH hz hle HC
  go_enter Try.func12, Try.ntmps12
  go_wp2_with fail
  refine (FEW.out _).mono ?_
  rintro e w0 ⟨rfl, rfl⟩
  go_wp2_with fail
  refine (HTO.out _ S0.out (Nat.le_refl _)).mono ?_
  rintro e w1 ⟨v1, rfl, hs1, hb1⟩
  have S1 := Lib.hid hs1
  have B1 := Lib.hid hb1
  clear hs1 hb1
  go_wp2_with fail
  refine (L1.out _ _ _ S1.out (Nat.le_refl _)).mono ?_
  rintro e w2 ⟨rfl, hb2⟩
  have B2 := Lib.hid (B1.out.trans (hb2.mono B1.out.size))
  clear hb2
  go_wp2_with fail
  refine (told03 _).mono ?_
  rintro e w3 ⟨rfl, hb3⟩
  have B3 := Lib.hid (B2.out.trans (hb3.mono B2.out.size))
  clear hb3
  go_wp2_with fail
  refine (HTO.out _ (S0.out.below B3.out) B3.out.size).mono ?_
  rintro e w4 ⟨v4, rfl, hs4, hb4⟩
  have S4 := Lib.hid hs4
  have B4 := Lib.hid (B3.out.trans (hb4.mono B3.out.size))
  clear hs4 hb4
  go_wp2_with fail
  refine (E1.out _ _ _ S4.out (Nat.le_refl _)).mono ?_
  rintro e w5 ⟨rfl, hb5⟩
  have B5 := Lib.hid (B4.out.trans (hb5.mono B4.out.size))
  clear hb5
  go_wp2_with fail
  refine (E2.out _ _ _ (S0.out.below B5.out) B5.out.size).mono ?_
  rintro e w6 ⟨rfl, hb6⟩
  have B6 := Lib.hid (B5.out.trans (hb6.mono B5.out.size))
  clear hb6
  go_wp2_with fail
  refine (L2.out _ _ _ (S0.out.below B6.out) B6.out.size).mono ?_
  rintro e w7 ⟨rfl, hb7⟩
  have B7 := Lib.hid (B6.out.trans (hb7.mono B6.out.size))
  clear hb7
  go_wp2_with fail
  refine (HH.out _).mono ?_
  rintro e w8 ⟨rfl, rfl⟩
  go_wp2
  go_ret
  exact ⟨by simp, B7.out⟩

set_option maxRecDepth 100000 in
/-- What the walk gives, for every argument: the row's own words. -/
theorem contract (H : Type) (enc : TypeId × Value → H) (W : World) (base : Nat) (args : Array Value) (ds gs : List (DataW H)) (before : List MemPlace)
    (hval : ∀ (j : Nat) t v, Try.f12.params[j]? = some t → args[j]? = some v → Value.okWide Try.prog W .any base t v)
    (hW : DataW.Whole enc Try.prog Try.f12.params.toList Rows.vlanPortsSpec.vars false W args.toList ds gs before) :
    Calls Try.prog 12 args W fun e W' => ∃ v, e = .returned v ∧ Rows.vlanPortsSpec.post enc Try.prog Try.f12 false true false false W args v W' := by
  have hW' := hW
  obtain ⟨p, q, hA0, hV, rfl, hfz, hnd⟩ := hW
  have hA : DataW.TrodAll enc Try.prog W 0 (fun _ => true) true Try.f12.params.toList args.toList ds p := hA0
  rw [Try.params12] at hA hval
  obtain ⟨v0, vs0, d0, ds0, p0, q0, hargs, rfl, rfl, h0, r0⟩ := trodAll_cons hA
  obtain ⟨v1, vs1, d1, ds1, p1, q1, rfl, rfl, rfl, h1, r1⟩ := trodAll_cons r0
  obtain ⟨v2, vs2, d2, ds2, p2, q2, rfl, rfl, rfl, h2, r2⟩ := trodAll_cons r1
  obtain ⟨rfl, rfl, rfl⟩ := trodAll_nil r2
  obtain rfl : args = #[v0, v1, v2] := by cases args; simp_all
  obtain ⟨l0, b0, c0⟩ := open_vls Try.underlying67 Try.underlying112 (by kernel_rfl) (by kernel_rfl) (by kernel_rfl) (by kernel_rfl) (by kernel_rfl) (hval 0 67 v0 rfl rfl) h0
  obtain ⟨a1, rfl, b1⟩ := open_i64 Try.underlying3 (hval 1 3 v1 rfl rfl) h1
  obtain ⟨a2, rfl, b2⟩ := open_i64 Try.underlying3 (hval 2 3 v2 rfl rfl) h2
  refine (walk W v0 l0 b0 c0 a1 b1 a2 b2).mono fun e W' ⟨he, hb⟩ => ?_
  subst he
  exact close_true (by kernel_rfl) Try.underlying4 (by kernel_rfl) (by kernel_rfl) rfl rfl hW' hb

set_option maxRecDepth 100000 in
theorem lifted (os : Os) (started : os.Started) (H : Type) (enc : TypeId × Value → H) :
    ReturnsInHanded {} Try.checked os 12 .any (Rows.vlanPortsSpec.pre6 enc Try.prog Try.f12 Rows.vlanPortsRow.domain false) (Rows.vlanPortsSpec.post enc Try.prog Try.f12 false true false false) := by
  refine returnsInHanded_of_change (C := Try.checked) own started (by kernel_rfl) Try.func12
    (ChangeSpec.witness6 (enc := enc) (C := Try.checked) false ⟨#[], #[.slice none 0 0, .int .i64 0, .int .i64 0], []⟩ 8 (by kernel_rfl) (by kernel_rfl) (by kernel_rfl) (by kernel_rfl)) ?_
  intro W base args ds gs before hval hW _ _
  exact contract H enc W base args ds gs before hval hW

theorem proved : Rows.VlanPortsSaid :=
  OpenClaim.holds_of_wide 12 Try.f12 rfl rfl rfl rfl rfl rfl rfl ⟨rfl, rfl, rfl, rfl, rfl⟩ rfl rfl rfl rfl rfl (by kernel_rfl) Try.func12 (by kernel_rfl)
    (of_decide_eq_true (by kernel_rfl)) (by unfold Func.isWrapper; first | (rw [if_pos (by decide +kernel)]; kernel_rfl) | (rw [if_neg (by decide +kernel)]; exact ⟨rfl, rfl⟩))
    (fun os started H enc _ => lifted os started H enc)
#print axioms proved
end Go.Proofs.Ytiafegkjamhneaa.vlanPorts
