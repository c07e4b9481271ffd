/-
  Of all bytes and rules the program tells which VLAN a frame is of, or why it isn't taken, as the document tells; what is handed in stays. No condition.
-/
import Derived.Test.YtiafegkjamhneaaRows
import Derived.Test.YtiafegkjamhneaaVlanT
import Derived.Test.YtiafegkjamhneaaPlainVlanB
import Derived.Deep.RegionHeld3
import Derived.Test.YtiafegkjamhneaaOpenVl
import Derived.WalkKit
import Derived.ProofKit
import Derived.OpenShut
namespace Go.Proofs.Ytiafegkjamhneaa.vlanClasses
open Go.ChangeShapes Go.WideShapes Go.ChangeAt Go.RowKit
open Go.ChangeMaps (open_string)
set_option linter.unusedVariables false

theorem own : ownKnob Try.prog.godebug = none := by kernel_rfl

set_option maxHeartbeats 1600000 in
theorem walk (W : World) (a0 : Value) (l0 : List Nat) (b0 : Sl W W.heap.size 1 a0 l0.length (bv l0)) (c0 : ∀ x ∈ l0, x < 256) (a1 e1 : Int) (b1 : -9223372036854775808 ≤ a1 ∧ a1 ≤ 9223372036854775807) (c1 : -9223372036854775808 ≤ e1 ∧ e1 ≤ 9223372036854775807) :
    Calls Try.prog 10 #[a0, .agg #[.int .i64 a1, .int .i64 e1]] W (Says (.bool true) W) := by
  obtain ⟨A, cap, hv, hcap, hmx⟩ := b0.form
  subst hv
  obtain ⟨K, hK⟩ : ∃ K, K = min l0.length 1600 := ⟨_, rfl⟩
  have hK1 : K ≤ l0.length := by omega
  have hK2 : K ≤ 1600 := by omega
  have hif : (if (1600 : Int) < (l0.length : Int) then (1600 : Int) else (l0.length : Int)) = (K : Int) := by split <;> omega
  have hcut := fun u => run_cutTo (P := Try.prog) u stBytes A l0.length cap K (by omega)
  have hs0 := b0.cutTo hK1
  rw [Nat.mul_one, bv_take] at hs0
  have htl : (l0.take K).length = K := by rw [List.length_take]; omega
  have hc : ∀ x ∈ l0.take K, x < 256 := mem_take c0 K
  generalize l0.take K = L at *
  unfold maxLen at hmx
  have S0 := Lib.hid hs0
  have TL := Lib.hid htl
  have HC := Lib.hid hc
  clear b0 c0 hK hs0 htl hc
  have hfo : ∀ v w B, Sl w B 1 v K (bv L) → B ≤ w.heap.size → Calls Try.prog 32 #[v, .agg #[.int .i64 a1, .int .i64 e1]] w (Told2 (clsN L a1 e1) w) := fun v w B h1 h2 => vlan_Class HC.out TL.out h1 h2 a1 e1
  have hro : ∀ v w B, Sl w B 1 v K (bv L) → B ≤ w.heap.size → Calls Try.prog 33 #[v, .agg #[.int .i64 a1, .int .i64 e1]] w (Told2 (clsN L a1 e1) w) := fun v w B h1 h2 => ref3_Class HC.out TL.out h1 h2 a1 e1
  unfold Told2 at hfo hro
  generalize (clsN L a1 e1).1 = R at *
  generalize (clsN L a1 e1).2 = E at *
  have FO := Lib.hid hfo
  have RO := Lib.hid hro
  have hy : ∀ l : List Nat, sameB l l = true := fun l => sameB_yes rfl
  have HY := Lib.hid hy
  clear hfo hro hy
  go_enter Try.func10, Try.ntmps10
  go_wp2_with (first
    | (at_builtin; refine wpList_app _ rfl stBytes (.tmp 15) (.tmp 16) rfl (W.heap.size + 1) _ 0 [] rfl (own_empty_at (w := W.alloc (.cells #[.int .i64 a1, .int .i64 e1] 57)) (g := W.heap.size + 1) (by simp) (by omega)) W.heap.size _ K (bv L) rfl ((S0.out.alloc (Nat.le_refl _) _).alloc (by simp) _) (bv_one _) (by omega) (by simp) ?_; intro v1 w1 hown1 hg1 hat1 hbel1; have q0 : w1.cell? ⟨W.heap.size, 0, none⟩ = some (.int .i64 a1) := (by (rw [(bcell hbel1).1 W.heap.size 0 (by omega)]; simp [go_sem])); have q1 : w1.cell? ⟨W.heap.size, 1, none⟩ = some (.int .i64 e1) := (by (rw [(bcell hbel1).1 W.heap.size 1 (by omega)]; simp [go_sem]))))
  rw [List.nil_append, Nat.zero_add] at hown1
  have hz1 : W.heap.size + 2 ≤ w1.heap.size := by simpa using hbel1.size
  have B1 := Lib.hid ((((Below.refl W.heap.size W).alloc (Nat.le_refl _) (.cells #[.int .i64 a1, .int .i64 e1] 57)).alloc (by simp) (.cells #[] 5)).trans (hbel1.mono (by omega)))
  have O1 := Lib.hid (Sl.of_own hown1)
  clear hown1 hg1 hat1 hbel1 hcut
  refine (FO.out _ _ _ O1.out (Nat.le_refl _)).mono ?_
  rintro e w2 ⟨rfl, hb2⟩
  have r0 := ((bcell hb2).1 W.heap.size 0 (by omega)).trans q0
  have r1 := ((bcell hb2).1 W.heap.size 1 (by omega)).trans q1
  have B2 := Lib.hid (B1.out.trans (hb2.mono B1.out.size))
  have O2 := Lib.hid ((O1.out.below hb2).mono hb2.size)
  clear hb2 q0 q1
  go_wp2_with fail
  refine (RO.out _ _ _ (S0.out.below B2.out) B2.out.size).mono ?_
  rintro e w3 ⟨rfl, hb3⟩
  have B3 := Lib.hid (B2.out.trans (hb3.mono B2.out.size))
  have O3 := Lib.hid ((O2.out.below hb3).mono hb3.size)
  clear hb3 r0 r1
  go_wp2_with fail
  refine (told03 _).mono ?_
  rintro e w4 ⟨rfl, hb4⟩
  have B4 := Lib.hid (B3.out.trans (hb4.mono B3.out.size))
  have O4 := Lib.hid ((O3.out.below hb4).mono hb4.size)
  clear hb4
  go_wp2_with fail
  refine (ref_Same (l := L) (m := L) (by rw [TL.out]; exact O4.out) (by rw [TL.out]; exact S0.out.below B4.out)).mono ?_
  rw [HY.out]
  rintro e w6 ⟨rfl, n6, rfl⟩
  go_wp2
  go_ret
  exact ⟨by simp, below_drewN B4.out _⟩

set_option maxRecDepth 100000 in
/-- What the walk gives, for every argument: the row's own words. -/
theorem contract (H : Type) (enc : TypeId × Value → H) (W : World) (base : Nat) (args : Array Value) (ds gs : List (DataW H)) (before : List MemPlace)
    (hval : ∀ (j : Nat) t v, Try.f10.params[j]? = some t → args[j]? = some v → Value.okWide Try.prog W .any base t v)
    (hW : DataW.Whole enc Try.prog Try.f10.params.toList Rows.vlanClassesSpec.vars false W args.toList ds gs before) :
    Calls Try.prog 10 args W fun e W' => ∃ v, e = .returned v ∧ Rows.vlanClassesSpec.post enc Try.prog Try.f10 false true false false W args v W' := by
  have hW' := hW
  obtain ⟨p, q, hA0, hV, rfl, hfz, hnd⟩ := hW
  have hA : DataW.TrodAll enc Try.prog W 0 (fun _ => true) true Try.f10.params.toList args.toList ds p := hA0
  rw [Try.params10] at hA hval
  obtain ⟨v0, vs0, d0, ds0, p0, q0, hargs, rfl, rfl, h0, r0⟩ := trodAll_cons hA
  obtain ⟨v1, vs1, d1, ds1, p1, q1, rfl, rfl, rfl, h1, r1⟩ := trodAll_cons r0
  obtain ⟨rfl, rfl, rfl⟩ := trodAll_nil r1
  obtain rfl : args = #[v0, v1] := by cases args; simp_all
  obtain ⟨l0, b0, c0⟩ := open_bytes Try.underlying22 Try.underlying5 (by kernel_rfl) (hval 0 22 v0 rfl rfl) h0
  obtain ⟨a1, e1, rfl, b1, c1⟩ := open_ii Try.underlying57 (by kernel_rfl) (by kernel_rfl) (by kernel_rfl) (by kernel_rfl) (hval 1 57 v1 rfl rfl) h1
  refine (walk W v0 l0 b0 c0 a1 e1 b1 c1).mono fun e W' ⟨he, hb⟩ => ?_
  subst he
  exact close_true (by kernel_rfl) Try.underlying4 (by kernel_rfl) (by kernel_rfl) rfl rfl hW' hb

set_option maxRecDepth 100000 in
theorem lifted (os : Os) (started : os.Started) (H : Type) (enc : TypeId × Value → H) :
    ReturnsInHanded {} Try.checked os 10 .any (Rows.vlanClassesSpec.pre6 enc Try.prog Try.f10 Rows.vlanClassesRow.domain false) (Rows.vlanClassesSpec.post enc Try.prog Try.f10 false true false false) := by
  refine returnsInHanded_of_change (C := Try.checked) own started (by kernel_rfl) Try.func10
    (ChangeSpec.witness6 (enc := enc) (C := Try.checked) false ⟨#[], #[.slice none 0 0, .agg #[.int .i64 0, .int .i64 0]], []⟩ 8 (by kernel_rfl) (by kernel_rfl) (by kernel_rfl) (by kernel_rfl)) ?_
  intro W base args ds gs before hval hW _ _
  exact contract H enc W base args ds gs before hval hW

theorem proved : Rows.VlanClassesSaid :=
  OpenClaim.holds_of_wide 10 Try.f10 rfl rfl rfl rfl rfl rfl rfl ⟨rfl, rfl, rfl, rfl, rfl⟩ rfl rfl rfl rfl rfl (by kernel_rfl) Try.func10 (by kernel_rfl)
    (of_decide_eq_true (by kernel_rfl)) (by unfold Func.isWrapper; first | (rw [if_pos (by decide +kernel)]; kernel_rfl) | (rw [if_neg (by decide +kernel)]; exact ⟨rfl, rfl⟩))
    (fun os started H enc _ => lifted os started H enc)
#print axioms proved
end Go.Proofs.Ytiafegkjamhneaa.vlanClasses
