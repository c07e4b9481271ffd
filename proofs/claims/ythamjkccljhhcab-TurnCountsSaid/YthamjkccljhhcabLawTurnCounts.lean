/-
  Of all picks the program tells how often each one's turn it was, as the document tells; what is handed in stays. No condition.
-/
import Derived.Test.YthamjkccljhhcabRows
import Derived.Test.YthamjkccljhhcabTurnT
import Derived.WalkKit
import Derived.ProofKit
import Derived.OpenShut
namespace Go.Proofs.Ythamjkccljhhcab.turnCounts
open Go.ChangeShapes Go.WideShapes Go.ChangeAt Go.RowKit
open Go.ChangeMaps (open_string)
set_option linter.unusedVariables false

theorem own : ownKnob Try.prog.godebug = none := by kernel_rfl
theorem kv_one (L : List Int) : ∀ u ∈ kv .i64 L, u.oneCell' = true := by
  intro u hu
  obtain ⟨n, _, rfl⟩ := List.mem_map.1 hu
  rfl

set_option maxHeartbeats 1600000 in
theorem walk (W : World) (a0 : Int) (b0 : -9223372036854775808 ≤ a0 ∧ a0 ≤ 9223372036854775807) (a1 : Value) (l1 : List Int) (b1 : Sl W W.heap.size 1 a1 l1.length (kv .i64 l1)) (c1 : ∀ x ∈ l1, -9223372036854775808 ≤ x ∧ x ≤ 9223372036854775807) :
    Calls Try.prog 10 #[.int .i64 a0, a1] W (Says (.bool true) W) := by
  obtain ⟨A, cap, hv, hcap, hmx⟩ := b1.form
  subst hv
  obtain ⟨K, hK⟩ : ∃ K, K = min l1.length 500 := ⟨_, rfl⟩
  have hK1 : K ≤ l1.length := by omega
  have hK2 : K ≤ 500 := by omega
  have hif : (if (500 : Int) < (l1.length : Int) then (500 : Int) else (l1.length : Int)) = (K : Int) := by split <;> omega
  have hcut := fun u => run_cutTo (P := Try.prog) u stInts A l1.length cap K (by omega)
  have hs0 := b1.cutTo hK1
  rw [Nat.mul_one, kv_take] at hs0
  have htl : (l1.take K).length = K := by rw [List.length_take]; omega
  generalize l1.take K = L at *
  unfold maxLen at hmx
  have S0 := Lib.hid hs0
  have TL := Lib.hid htl
  clear b1 c1 hK hs0 htl
  have hcl : (cntL a0 L).length = if a0 < 1 then 0 else min a0.toNat 64 := by unfold cntL; split <;> simp
  obtain ⟨n, hn⟩ : ∃ n, n = if a0 < 1 then 0 else min a0.toNat 64 := ⟨_, rfl⟩
  rw [← hn] at hcl
  have HLN := Lib.hid hcl
  have HA := Lib.hid b0.2
  have HK := Lib.hid hK2
  have HPL := Lib.hid (kv_one L)
  clear hn hcl b0
  go_enter Try.func10, Try.ntmps10
  go_wp2_with (first
    | (at_builtin; refine wpList_app _ rfl stInts (.tmp 7) (.tmp 12) rfl W.heap.size _ 0 [] rfl (World.ownsRow_lit W #[] 0 (Nat.le_refl _) (by decide) rfl) W.heap.size _ K (kv .i64 L) rfl (S0.out.alloc (Nat.le_refl _) _) HPL.out (by have := HK.out; omega) (by simp) ?_; intro v1 w1 hown1 hg1 hat1 hbel1))
  rw [List.nil_append, Nat.zero_add] at hown1
  have B1 := Lib.hid (((Below.refl W.heap.size W).alloc (Nat.le_refl _) (.cells #[] 3)).trans hbel1)
  have O1 := Lib.hid (Sl.of_own hown1)
  clear hown1 hg1 hat1 hbel1
  go_wp2_with fail
  refine (turn_Counts a0 HA.out (by have := HK.out; omega) O1.out (Nat.le_refl _)).mono ?_
  intro e w2 hh
  obtain ⟨A2, cap2, rfl, hs, hb⟩ := hh.at_ (n := n) HLN.out
  have S2 := Lib.hid hs
  have B2 := Lib.hid (B1.out.trans (hb.mono B1.out.size))
  have O2 := Lib.hid ((O1.out.below hb).mono hb.size)
  clear hs hb hh
  go_wp2_with fail
  refine (told07 _).mono ?_
  rintro e w3 ⟨rfl, hb⟩
  have B3 := Lib.hid (B2.out.trans (hb.mono B2.out.size))
  have S3 := Lib.hid ((S2.out.below hb).mono hb.size)
  have O3 := Lib.hid ((O2.out.below hb).mono hb.size)
  clear hb
  go_wp2_with fail
  refine (ref7_Counts a0 HA.out (by have := HK.out; omega) (S0.out.below B3.out) B3.out.size).mono ?_
  intro e w4 hh
  obtain ⟨A4, cap4, rfl, hs, hb⟩ := hh.at_ (n := n) HLN.out
  have S4 := Lib.hid hs
  have B4 := Lib.hid (B3.out.trans (hb.mono B3.out.size))
  have S34 := Lib.hid ((S3.out.below hb).mono hb.size)
  have O4 := Lib.hid ((O3.out.below hb).mono hb.size)
  clear hs hb hh
  go_wp2_with fail
  refine (law3_IntsEq S34.out S4.out).mono ?_
  rintro e w5 ⟨rfl, n5, rfl⟩
  go_wp2_with fail
  refine (law3_IntsEq (O4.out.drewN _) ((S0.out.below B4.out).drewN _)).mono ?_
  rintro e w6 ⟨rfl, n6, rfl⟩
  go_wp2
  go_ret
  exact ⟨by simp, below_drewN B4.out _⟩

set_option maxRecDepth 100000 in
/-- What the walk gives, for every argument: the row's own words. -/
theorem contract (H : Type) (enc : TypeId × Value → H) (W : World) (base : Nat) (args : Array Value) (ds gs : List (DataW H)) (before : List MemPlace)
    (hval : ∀ (j : Nat) t v, Try.f10.params[j]? = some t → args[j]? = some v → Value.okWide Try.prog W .any base t v)
    (hW : DataW.Whole enc Try.prog Try.f10.params.toList Rows.turnCountsSpec.vars false W args.toList ds gs before) :
    Calls Try.prog 10 args W fun e W' => ∃ v, e = .returned v ∧ Rows.turnCountsSpec.post enc Try.prog Try.f10 false true false false W args v W' := by
  have hW' := hW
  obtain ⟨p, q, hA0, hV, rfl, hfz, hnd⟩ := hW
  have hA : DataW.TrodAll enc Try.prog W 0 (fun _ => true) true Try.f10.params.toList args.toList ds p := hA0
  rw [Try.params10] at hA hval
  obtain ⟨v0, vs0, d0, ds0, p0, q0, hargs, rfl, rfl, h0, r0⟩ := trodAll_cons hA
  obtain ⟨v1, vs1, d1, ds1, p1, q1, rfl, rfl, rfl, h1, r1⟩ := trodAll_cons r0
  obtain ⟨rfl, rfl, rfl⟩ := trodAll_nil r1
  obtain rfl : args = #[v0, v1] := by cases args; simp_all
  obtain ⟨a0, rfl, b0⟩ := open_i64 Try.underlying3 (hval 0 3 v0 rfl rfl) h0
  obtain ⟨l1, b1, c1⟩ := open_i64s Try.underlying37 Try.underlying3 (by kernel_rfl) (hval 1 37 v1 rfl rfl) h1
  refine (walk W a0 b0 v1 l1 b1 c1).mono fun e W' ⟨he, hb⟩ => ?_
  subst he
  exact close_true (by kernel_rfl) Try.underlying4 (by kernel_rfl) (by kernel_rfl) rfl rfl hW' hb

set_option maxRecDepth 100000 in
theorem lifted (os : Os) (started : os.Started) (H : Type) (enc : TypeId × Value → H) :
    ReturnsInHanded {} Try.checked os 10 .any (Rows.turnCountsSpec.pre6 enc Try.prog Try.f10 Rows.turnCountsRow.domain false) (Rows.turnCountsSpec.post enc Try.prog Try.f10 false true false false) := by
  refine returnsInHanded_of_change (C := Try.checked) own started (by kernel_rfl) Try.func10
    (ChangeSpec.witness6 (enc := enc) (C := Try.checked) false ⟨#[], #[.int .i64 0, .slice none 0 0], []⟩ 8 (by kernel_rfl) (by kernel_rfl) (by kernel_rfl) (by kernel_rfl)) ?_
  intro W base args ds gs before hval hW _ _
  exact contract H enc W base args ds gs before hval hW

theorem proved : Rows.TurnCountsSaid :=
  OpenClaim.holds_of_wide 10 Try.f10 rfl rfl rfl rfl rfl rfl rfl ⟨rfl, rfl, rfl, rfl, rfl⟩ rfl rfl rfl rfl rfl (by kernel_rfl) Try.func10 (by kernel_rfl)
    (of_decide_eq_true (by kernel_rfl)) (by unfold Func.isWrapper; first | (rw [if_pos (by decide +kernel)]; kernel_rfl) | (rw [if_neg (by decide +kernel)]; exact ⟨rfl, rfl⟩))
    (fun os started H enc _ => lifted os started H enc)
#print axioms proved
end Go.Proofs.Ythamjkccljhhcab.turnCounts
