/-
  Of all bytes, tags and VLANs the program tells the bytes, or the error, that the document tells; what is handed in stays. No condition.
-/
import Derived.Test.YtkfgnbplomcjfaaRows
import Derived.Test.YtkfgnbplomcjfaaFrameT
import Derived.Test.YtkfgnbplomcjfaaFrameK
import Derived.Deep.RegionHeld3
import Derived.WalkKit
import Derived.ProofKit
import Derived.OpenShut
namespace Go.Proofs.Ytkfgnbplomcjfaa.frameOuts
open Go.ChangeShapes Go.WideShapes Go.ChangeAt Go.RowKit
open Go.ChangeMaps (open_string)
set_option linter.unusedVariables false

theorem own : ownKnob Try.prog.godebug = none := by kernel_rfl

set_option maxHeartbeats 1600000 in
theorem walk (W : World) (a0 : Value) (l0 : List Nat) (b0 : Sl W W.heap.size 1 a0 l0.length (bv l0)) (c0 : ∀ x ∈ l0, x < 256) (a1 : Bool) (a2 : Int) (b2 : -9223372036854775808 ≤ a2 ∧ a2 ≤ 9223372036854775807) :
    Calls Try.prog 11 #[a0, .bool a1, .int .i64 a2] W (Says (.bool true) W) := by
  obtain ⟨A, cap, hv, hcap, hmx⟩ := b0.form
  subst hv
  obtain ⟨K, hK⟩ : ∃ K, K = min l0.length 1600 := ⟨_, rfl⟩
  have hK1 : K ≤ l0.length := by omega
  have hK2 : K ≤ 1600 := by omega
  have hif : (if (1600 : Int) < (l0.length : Int) then (1600 : Int) else (l0.length : Int)) = (K : Int) := by split <;> omega
  have hcut := fun u => run_cutTo (P := Try.prog) u stBytes A l0.length cap K (by omega)
  have hs0 := b0.cutTo hK1
  rw [Nat.mul_one, bv_take] at hs0
  have htl : (l0.take K).length = K := by rw [List.length_take]; omega
  have hc : ∀ x ∈ l0.take K, x < 256 := mem_take c0 K
  generalize l0.take K = L at *
  unfold maxLen at hmx
  have S0 := Lib.hid hs0
  have TL := Lib.hid htl
  have HC := Lib.hid hc
  clear b0 c0 hK hs0 htl hc
  have hfo : ∀ v w B, Sl w B 1 v K (bv L) → B ≤ w.heap.size → Calls Try.prog 41 #[v, .bool a1, .int .i64 a2] w (fun e w' => OutsTo L a1 a2 w e w') := by
    intro v w B hv hB
    exact frame_Out HC.out (by rw [TL.out]; exact hv) hB a1 a2
  have hro : ∀ v w B, Sl w B 1 v K (bv L) → B ≤ w.heap.size → Calls Try.prog 42 #[v, .bool a1, .int .i64 a2] w (fun e w' => OutsTo L a1 a2 w e w') := by
    intro v w B hv hB
    exact ref_Out HC.out (by rw [TL.out]; exact hv) hB a1 a2
  unfold OutsTo at hfo hro
  generalize outR L a1 a2 = R at *
  generalize oErr L a1 a2 = E at *
  have FO := Lib.hid hfo
  have RO := Lib.hid hro
  have hy : ∀ l : List Nat, sameB l l = true := fun l => sameB_yes rfl
  have HY := Lib.hid hy
  clear hfo hro hy
  go_enter Try.func11, Try.ntmps11
  go_wp2_with (first
    | (at_builtin; refine wpList_app _ rfl stBytes (.tmp 17) (.tmp 18) rfl W.heap.size _ 0 [] rfl (World.ownsRow_lit W #[] 0 (Nat.le_refl _) (by decide) rfl) W.heap.size _ K (bv L) rfl (S0.out.alloc (Nat.le_refl _) _) (bv_one _) (by omega) (by simp) ?_; intro v1 w1 hown1 hg1 hat1 hbel1))
  rw [List.nil_append, Nat.zero_add] at hown1
  have B1 := Lib.hid (((Below.refl W.heap.size W).alloc (Nat.le_refl _) (.cells #[] 5)).trans hbel1)
  have O1 := Lib.hid (Sl.of_own hown1)
  clear hown1 hg1 hat1 hbel1 hcut
  refine (FO.out _ _ _ O1.out (Nat.le_refl _)).mono ?_
  rintro e w2 ⟨A2, p2, rfl, ho2, hb2⟩
  have B2 := Lib.hid (B1.out.trans (hb2.mono B1.out.size))
  have OR2 := Lib.hid (Sl.of_own ho2)
  have O2 := Lib.hid ((O1.out.below hb2).mono hb2.size)
  clear hb2 ho2
  go_wp2_with fail
  refine (RO.out _ _ _ ((S0.out.below B2.out)) B2.out.size).mono ?_
  rintro e w3 ⟨A3, p3, rfl, ho3, hb3⟩
  have B3 := Lib.hid (B2.out.trans (hb3.mono B2.out.size))
  have OR3 := Lib.hid (Sl.of_own ho3)
  have OR23 := Lib.hid ((OR2.out.below hb3).mono hb3.size)
  have O3 := Lib.hid ((O2.out.below hb3).mono hb3.size)
  clear hb3 ho3
  go_wp2_with fail
  refine (told02 _).mono ?_
  rintro e w4 ⟨rfl, hb4⟩
  have B4 := Lib.hid (B3.out.trans (hb4.mono B3.out.size))
  have OR4 := Lib.hid ((OR3.out.below hb4).mono hb4.size)
  have OR24 := Lib.hid ((OR23.out.below hb4).mono hb4.size)
  have O4 := Lib.hid ((O3.out.below hb4).mono hb4.size)
  clear hb4
  go_wp2_with fail
  refine (ref_Same (l := R) (m := R) OR24.out OR4.out).mono ?_
  rw [HY.out]
  rintro e w5 ⟨rfl, n5, rfl⟩
  go_wp2_with fail
  refine (ref_Same (l := L) (m := L) (by rw [TL.out]; exact O4.out.drewN _) (by rw [TL.out]; exact ((S0.out.below B4.out).drewN _))).mono ?_
  rw [HY.out]
  rintro e w6 ⟨rfl, n6, rfl⟩
  go_wp2
  go_ret
  exact ⟨by simp, below_drewN B4.out _⟩

/-- What the walk gives, for every argument: the row's own words. -/
theorem contract (H : Type) (enc : TypeId × Value → H) (W : World) (base : Nat) (args : Array Value) (ds gs : List (DataW H)) (before : List MemPlace)
    (hval : ∀ (j : Nat) t v, Try.f11.params[j]? = some t → args[j]? = some v → Value.okWide Try.prog W .any base t v)
    (hW : DataW.Whole enc Try.prog Try.f11.params.toList Rows.frameOutsSpec.vars false W args.toList ds gs before) :
    Calls Try.prog 11 args W fun e W' => ∃ v, e = .returned v ∧ Rows.frameOutsSpec.post enc Try.prog Try.f11 false true false false W args v W' := by
  have hW' := hW
  obtain ⟨p, q, hA0, hV, rfl, hfz, hnd⟩ := hW
  have hA : DataW.TrodAll enc Try.prog W 0 (fun _ => true) true Try.f11.params.toList args.toList ds p := hA0
  rw [Try.params11] at hA hval
  obtain ⟨v0, vs0, d0, ds0, p0, q0, hargs, rfl, rfl, h0, r0⟩ := trodAll_cons hA
  obtain ⟨v1, vs1, d1, ds1, p1, q1, rfl, rfl, rfl, h1, r1⟩ := trodAll_cons r0
  obtain ⟨v2, vs2, d2, ds2, p2, q2, rfl, rfl, rfl, h2, r2⟩ := trodAll_cons r1
  obtain ⟨rfl, rfl, rfl⟩ := trodAll_nil r2
  obtain rfl : args = #[v0, v1, v2] := by cases args; simp_all
  obtain ⟨l0, b0, c0⟩ := open_bytes Try.underlying22 Try.underlying5 (by kernel_rfl) (hval 0 22 v0 rfl rfl) h0
  obtain ⟨a1, rfl, _, _⟩ := open_bool Try.underlying4 (hval 1 4 v1 rfl rfl) h1
  obtain ⟨a2, rfl, b2⟩ := open_i64 Try.underlying3 (hval 2 3 v2 rfl rfl) h2
  refine (walk W v0 l0 b0 c0 a1 a2 b2).mono fun e W' ⟨he, hb⟩ => ?_
  subst he
  exact close_true (by kernel_rfl) Try.underlying4 (by kernel_rfl) (by kernel_rfl) rfl rfl hW' hb

set_option maxRecDepth 100000 in
theorem lifted (os : Os) (started : os.Started) (H : Type) (enc : TypeId × Value → H) :
    ReturnsInHanded {} Try.checked os 11 .any (Rows.frameOutsSpec.pre6 enc Try.prog Try.f11 Rows.frameOutsRow.domain false) (Rows.frameOutsSpec.post enc Try.prog Try.f11 false true false false) := by
  refine returnsInHanded_of_change (C := Try.checked) own started (by kernel_rfl) Try.func11
    (ChangeSpec.witness6 (enc := enc) (C := Try.checked) false ⟨#[], #[.slice none 0 0, .bool false, .int .i64 0], []⟩ 8 (by kernel_rfl) (by kernel_rfl) (by kernel_rfl) (by kernel_rfl)) ?_
  intro W base args ds gs before hval hW _ _
  exact contract H enc W base args ds gs before hval hW

theorem proved : Rows.FrameOutsSaid :=
  OpenClaim.holds_of_wide 11 Try.f11 rfl rfl rfl rfl rfl rfl rfl ⟨rfl, rfl, rfl, rfl, rfl⟩ rfl rfl rfl rfl rfl (by kernel_rfl) Try.func11 (by kernel_rfl)
    (of_decide_eq_true (by kernel_rfl)) (by unfold Func.isWrapper; first | (rw [if_pos (by decide +kernel)]; kernel_rfl) | (rw [if_neg (by decide +kernel)]; exact ⟨rfl, rfl⟩))
    (fun os started H enc _ => lifted os started H enc)
#print axioms proved
end Go.Proofs.Ytkfgnbplomcjfaa.frameOuts
