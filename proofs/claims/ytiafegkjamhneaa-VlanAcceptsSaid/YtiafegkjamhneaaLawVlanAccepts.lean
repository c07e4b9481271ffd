/-
  A port that takes tagged frames alone takes none that tells no VLAN, one that takes untagged ones alone none that tells one, and each other frame is of the same VLAN by all three. No condition.
-/
import Derived.Test.YtiafegkjamhneaaRows
import Derived.Test.YtiafegkjamhneaaVlanT
import Derived.Test.YtiafegkjamhneaaPlainVlanB
import Derived.Deep.RegionHeld3
import Derived.Test.YtiafegkjamhneaaPlainAcc
import Derived.IntWalk
import Derived.WalkKit
import Derived.ProofKit
import Derived.OpenShut
namespace Go.Proofs.Ytiafegkjamhneaa.vlanAccepts
open Go.ChangeShapes Go.WideShapes Go.ChangeAt Go.RowKit
open Go.ChangeMaps (open_string)
set_option linter.unusedVariables false

theorem own : ownKnob Try.prog.godebug = none := by kernel_rfl

set_option maxHeartbeats 1600000 in
theorem walk (W : World) (a0 : Value) (l0 : List Nat) (b0 : Sl W W.heap.size 1 a0 l0.length (bv l0)) (c0 : ∀ x ∈ l0, x < 256) (a1 : Int) (b1 : -9223372036854775808 ≤ a1 ∧ a1 ≤ 9223372036854775807) :
    Calls Try.prog 11 #[a0, .int .i64 a1] W (Says (.bool true) W) := by
  obtain ⟨A, cap, hv, hcap, hmx⟩ := b0.form
  subst hv
  obtain ⟨K, hK⟩ : ∃ K, K = min l0.length 1600 := ⟨_, rfl⟩
  have hK1 : K ≤ l0.length := by omega
  have hK2 : K ≤ 1600 := by omega
  have hif : (if (1600 : Int) < (l0.length : Int) then (1600 : Int) else (l0.length : Int)) = (K : Int) := by split <;> omega
  have hcut := fun u => run_cutTo (P := Try.prog) u stBytes A l0.length cap K (by omega)
  have hs0 := b0.cutTo hK1
  rw [Nat.mul_one, bv_take] at hs0
  have htl : (l0.take K).length = K := by rw [List.length_take]; omega
  have hc : ∀ x ∈ l0.take K, x < 256 := mem_take c0 K
  generalize l0.take K = L at *
  unfold maxLen at hmx
  have S0 := Lib.hid hs0
  have TL := Lib.hid htl
  have HC := Lib.hid hc
  clear b0 c0 hK hs0 htl hc
  obtain ⟨q, hq, hqw⟩ := mod_u64 a1 4094 (by omega) (by omega)
  have hqw' : wrap64 ((IntKind.u64.wrap a1).tmod 4094) = (q : Int) := hqw
  obtain ⟨p, hp⟩ : ∃ p : Int, p = 1 + (q : Int) := ⟨_, rfl⟩
  have hpw : wrap64 (1 + (q : Int)) = p := by rw [hp, IntWalk.wrap64_in _ (by omega)]
  obtain ⟨x0, x1, x2, hx0, hx1, hx2, hcases⟩ := acc_cases L p
  have hfo : ∀ (k : Nat) v w B, Sl w B 1 v K (bv L) → B ≤ w.heap.size → Calls Try.prog 32 #[v, .agg #[.int .i64 p, .int .i64 (k : Int)]] w (Told2 (clsN L p k) w) := fun k v w B h1 h2 => vlan_Class HC.out TL.out h1 h2 p k
  have hV : ∃ V : Nat → Int, V = fun k : Nat => (clsN L p k).1 := ⟨_, rfl⟩
  obtain ⟨V, hV⟩ := hV
  have hU : ∃ U : Nat → Int, U = fun k : Nat => ((clsN L p k).2 : Int) := ⟨_, rfl⟩
  obtain ⟨U, hU⟩ := hU
  have hfv : ∀ (k : Nat) v w B, Sl w B 1 v K (bv L) → B ≤ w.heap.size → Calls Try.prog 32 #[v, .agg #[.int .i64 p, .int .i64 (k : Int)]] w fun e w' => e = .returned (.tuple #[.int .i64 (V k), .int .i64 (U k)]) ∧ Below w.heap.size w w' := by
    rw [hV, hU]; exact hfo
  have v0 : V 0 = x0.1 := by rw [hV, ← hx0]; rfl
  have v1 : V 1 = x1.1 := by rw [hV, ← hx1]; rfl
  have v2 : V 2 = x2.1 := by rw [hV, ← hx2]; rfl
  have u0 : U 0 = (x0.2 : Int) := by rw [hU, ← hx0]; rfl
  have u1 : U 1 = (x1.2 : Int) := by rw [hU, ← hx1]; rfl
  have u2 : U 2 = (x2.2 : Int) := by rw [hU, ← hx2]; rfl
  have hall : (U 0 ≠ 0 ∧ U 0 ≠ 7 ∧ U 1 = U 0 ∧ U 2 = U 0) ∨ (U 0 = 7 ∧ U 1 = 7 ∧ U 2 = 6) ∨ (U 0 = 0 ∧ U 1 = 6 ∧ U 2 = 0 ∧ V 0 = p ∧ V 2 = p) ∨ (U 0 = 0 ∧ U 1 = 0 ∧ U 2 = 6 ∧ V 1 = V 0) := by
    rw [v0, v1, v2, u0, u1, u2]; omega
  have FO := Lib.hid hfv
  have HALL := Lib.hid hall
  clear hfo hfv hV hU v0 v1 v2 u0 u1 u2 hall hcases hx0 hx1 hx2 hqw hp hq
  go_enter Try.func11, Try.ntmps11
  go_wp2
  simp only [hqw', hpw]
  clear hqw' hpw hif hcut
  go_loopw [8] (fun i wr => ∃ k : Nat, k ≤ 3 ∧ i = .int .i64 k ∧ Hid (∀ j, j < 3 → wr.cell? ⟨W.heap.size, j, none⟩ = some (.int .i64 (if j < k then V j else 0))) ∧ Hid (∀ j, j < 3 → wr.cell? ⟨W.heap.size + 1, j, none⟩ = some (.int .i64 (if j < k then U j else 0))) ∧ Hid (∀ o, wr.frozen? ⟨W.heap.size, o, none⟩ = false) ∧ Hid (∀ o, wr.frozen? ⟨W.heap.size + 1, o, none⟩ = false) ∧ W.heap.size + 2 ≤ wr.heap.size ∧ Hid (Below W.heap.size W wr)) (fun i _ => 3 - (intOf i).toNat)
  case atStart =>
    refine ⟨0, by omega, rfl, fun j hj => ?_, fun j hj => ?_, fun o => by simp [go_sem], fun o => by simp [go_sem], by simp, ((Below.refl _ _).alloc (Nat.le_refl _) _).alloc (by simp) _⟩
    · rcases (show j = 0 ∨ j = 1 ∨ j = 2 by omega) with rfl | rfl | rfl <;> simp [go_sem]
    · rcases (show j = 0 ∨ j = 1 ∨ j = 2 by omega) with rfl | rfl | rfl <;> simp [go_sem]
  case round =>
    obtain ⟨k, hk, rfl, HV, HU, F1, F2, hzr, HBW⟩ := hrel
    rename_i wr _
    by_cases hlt : k < 3
    · have g0 : (0 : Int) ≤ (k : Int) := Int.natCast_nonneg _
      have g1 : (k : Int) < 3 := by omega
      go_wp2_with fail
      refine (FO.out k _ _ _ (S0.out.below HBW.out) HBW.out.size).mono ?_
      rintro e w2 ⟨rfl, hb2⟩
      have HB2 := Lib.hid hb2
      clear hb2
      have c1 : ∀ j, j < 3 → w2.cell? ⟨W.heap.size, j, none⟩ = some (.int .i64 (if j < k then V j else 0)) := fun j hj => ((bcell HB2.out).1 _ _ (by omega)).trans (HV.out j hj)
      have c2 : ∀ j, j < 3 → w2.cell? ⟨W.heap.size + 1, j, none⟩ = some (.int .i64 (if j < k then U j else 0)) := fun j hj => ((bcell HB2.out).1 _ _ (by omega)).trans (HU.out j hj)
      have f1 : ∀ o, w2.frozen? ⟨W.heap.size, o, none⟩ = false := fun o => ((bcell HB2.out).2 _ _ (by omega)).trans (F1.out o)
      have f2 : ∀ o, w2.frozen? ⟨W.heap.size + 1, o, none⟩ = false := fun o => ((bcell HB2.out).2 _ _ (by omega)).trans (F2.out o)
      have d1 := c1 k hlt
      have d2 := c2 k hlt
      have e1 := f1 k
      have e2 := f2 k
      have C1 := Lib.hid c1
      have C2 := Lib.hid c2
      have G1 := Lib.hid f1
      have G2 := Lib.hid f2
      have hz2 := HB2.out.size
      clear c1 c2 f1 f2 HV HU F1 F2
      go_wp2
      go_roundw
      case rel => exact ⟨k + 1, by omega, by go_num, arr_other (arr_set C1.out hlt) (by omega), arr_set (fun j hj => by rw [World.cell?_setCell_other _ _ _ _ (by simp)]; exact C2.out j hj) hlt, fun o => by simp [go_sem, G1.out], fun o => by simp [go_sem, G2.out], by simp; omega, ((HBW.out.trans (HB2.out.mono HBW.out.size)).setCell (by simp) _).setCell (by simp) _⟩
      case measure => simp [intOf]; omega
    · have : k = 3 := by omega
      subst this
      have c0 := HV.out 0 (by omega)
      have c1 := HV.out 1 (by omega)
      have c2 := HV.out 2 (by omega)
      have d0 := HU.out 0 (by omega)
      have d1 := HU.out 1 (by omega)
      have d2 := HU.out 2 (by omega)
      simp only [show (0 : Nat) < 3 from by omega, show (1 : Nat) < 3 from by omega, show (2 : Nat) < 3 from by omega, if_true] at c0 c1 c2 d0 d1 d2
      have HALL' := HALL.out
      clear HV HU F1 F2 HALL
      obtain ⟨a0, ha0⟩ : ∃ a, a = V 0 := ⟨_, rfl⟩
      obtain ⟨a2, ha2⟩ : ∃ a, a = V 2 := ⟨_, rfl⟩
      obtain ⟨a3, ha3⟩ : ∃ a, a = V 1 := ⟨_, rfl⟩
      obtain ⟨b0, hb0⟩ : ∃ a, a = U 0 := ⟨_, rfl⟩
      obtain ⟨b2, hb2⟩ : ∃ a, a = U 2 := ⟨_, rfl⟩
      obtain ⟨b3, hb3⟩ : ∃ a, a = U 1 := ⟨_, rfl⟩
      rw [← ha0] at c0 HALL'
      rw [← ha2] at c2 HALL'
      rw [← ha3] at c1 HALL'
      rw [← hb0] at d0 HALL'
      rw [← hb2] at d2 HALL'
      rw [← hb3] at d1 HALL'
      clear ha0 ha2 ha3 hb0 hb2 hb3
      have D0 := Lib.hid c0
      have D1 := Lib.hid c1
      have D2 := Lib.hid c2
      have E0 := Lib.hid d0
      have E1 := Lib.hid d1
      have E2 := Lib.hid d2
      clear c0 c1 c2 d0 d1 d2
      have T := fun w => told03 w
      have TT := Lib.hid T
      clear T
      rcases HALL' with ⟨h1, h2, h3, h4⟩ | ⟨h1, h2, h3⟩ | ⟨h1, h2, h3, h4, h5⟩ | ⟨h1, h2, h3, h4⟩
      · subst h3 h4
        have k1 : (b2 != 0) = true := by simpa using h1
        have k2 : (b2 != 7) = true := by simpa using h2
        have k3 : ¬ b2 = 0 := h1
        have k4 : ¬ b2 = 7 := h2
        go_wp2_with fail
        refine (TT.out _).mono ?_
        rintro e w3 ⟨rfl, hb3⟩
        have q0 := ((bcell hb3).1 (W.heap.size + 1) 0 (by omega)).trans E0.out
        have q1 := ((bcell hb3).1 (W.heap.size + 1) 1 (by omega)).trans E1.out
        have q2 := ((bcell hb3).1 (W.heap.size + 1) 2 (by omega)).trans E2.out
        have B3 := Lib.hid (HBW.out.trans (hb3.mono HBW.out.size))
        have hz3 := hb3.size
        clear hb3
        go_wp2_with fail
        refine (TT.out _).mono ?_
        rintro e w4 ⟨rfl, hb4⟩
        have r0 := ((bcell hb4).1 (W.heap.size + 1) 0 (by omega)).trans q0
        have r1 := ((bcell hb4).1 (W.heap.size + 1) 1 (by omega)).trans q1
        have r2 := ((bcell hb4).1 (W.heap.size + 1) 2 (by omega)).trans q2
        have B4 := Lib.hid (B3.out.trans (hb4.mono B3.out.size))
        clear hb4 q0 q1 q2
        go_wp2
        go_ret
        exact ⟨by simp, B4.out⟩
      all_goals
        have q0 := E0.out
        have q1 := E1.out
        have q2 := E2.out
        have p0 := D0.out
        have p1 := D1.out
        have p2 := D2.out
        subst_vars
        go_wp2_with fail
        refine (TT.out _).mono ?_
        rintro e w3 ⟨rfl, hb3⟩
        have q0' := ((bcell hb3).1 (W.heap.size + 1) 0 (by omega)).trans q0
        have q1' := ((bcell hb3).1 (W.heap.size + 1) 1 (by omega)).trans q1
        have q2' := ((bcell hb3).1 (W.heap.size + 1) 2 (by omega)).trans q2
        have p0' := ((bcell hb3).1 W.heap.size 0 (by omega)).trans p0
        have p1' := ((bcell hb3).1 W.heap.size 1 (by omega)).trans p1
        have p2' := ((bcell hb3).1 W.heap.size 2 (by omega)).trans p2
        have B3 := Lib.hid (HBW.out.trans (hb3.mono HBW.out.size))
        clear hb3 q0 q1 q2 p0 p1 p2
        go_wp2
        go_ret
        exact ⟨by simp, B3.out⟩

set_option maxRecDepth 100000 in
/-- What the walk gives, for every argument: the row's own words. -/
theorem contract (H : Type) (enc : TypeId × Value → H) (W : World) (base : Nat) (args : Array Value) (ds gs : List (DataW H)) (before : List MemPlace)
    (hval : ∀ (j : Nat) t v, Try.f11.params[j]? = some t → args[j]? = some v → Value.okWide Try.prog W .any base t v)
    (hW : DataW.Whole enc Try.prog Try.f11.params.toList Rows.vlanAcceptsSpec.vars false W args.toList ds gs before) :
    Calls Try.prog 11 args W fun e W' => ∃ v, e = .returned v ∧ Rows.vlanAcceptsSpec.post enc Try.prog Try.f11 false true false false W args v W' := by
  have hW' := hW
  obtain ⟨p, q, hA0, hV, rfl, hfz, hnd⟩ := hW
  have hA : DataW.TrodAll enc Try.prog W 0 (fun _ => true) true Try.f11.params.toList args.toList ds p := hA0
  rw [Try.params11] at hA hval
  obtain ⟨v0, vs0, d0, ds0, p0, q0, hargs, rfl, rfl, h0, r0⟩ := trodAll_cons hA
  obtain ⟨v1, vs1, d1, ds1, p1, q1, rfl, rfl, rfl, h1, r1⟩ := trodAll_cons r0
  obtain ⟨rfl, rfl, rfl⟩ := trodAll_nil r1
  obtain rfl : args = #[v0, v1] := by cases args; simp_all
  obtain ⟨l0, b0, c0⟩ := open_bytes Try.underlying22 Try.underlying5 (by kernel_rfl) (hval 0 22 v0 rfl rfl) h0
  obtain ⟨a1, rfl, b1⟩ := open_i64 Try.underlying3 (hval 1 3 v1 rfl rfl) h1
  refine (walk W v0 l0 b0 c0 a1 b1).mono fun e W' ⟨he, hb⟩ => ?_
  subst he
  exact close_true (by kernel_rfl) Try.underlying4 (by kernel_rfl) (by kernel_rfl) rfl rfl hW' hb

set_option maxRecDepth 100000 in
theorem lifted (os : Os) (started : os.Started) (H : Type) (enc : TypeId × Value → H) :
    ReturnsInHanded {} Try.checked os 11 .any (Rows.vlanAcceptsSpec.pre6 enc Try.prog Try.f11 Rows.vlanAcceptsRow.domain false) (Rows.vlanAcceptsSpec.post enc Try.prog Try.f11 false true false false) := by
  refine returnsInHanded_of_change (C := Try.checked) own started (by kernel_rfl) Try.func11
    (ChangeSpec.witness6 (enc := enc) (C := Try.checked) false ⟨#[], #[.slice none 0 0, .int .i64 0], []⟩ 8 (by kernel_rfl) (by kernel_rfl) (by kernel_rfl) (by kernel_rfl)) ?_
  intro W base args ds gs before hval hW _ _
  exact contract H enc W base args ds gs before hval hW

theorem proved : Rows.VlanAcceptsSaid :=
  OpenClaim.holds_of_wide 11 Try.f11 rfl rfl rfl rfl rfl rfl rfl ⟨rfl, rfl, rfl, rfl, rfl⟩ rfl rfl rfl rfl rfl (by kernel_rfl) Try.func11 (by kernel_rfl)
    (of_decide_eq_true (by kernel_rfl)) (by unfold Func.isWrapper; first | (rw [if_pos (by decide +kernel)]; kernel_rfl) | (rw [if_neg (by decide +kernel)]; exact ⟨rfl, rfl⟩))
    (fun os started H enc _ => lifted os started H enc)
#print axioms proved
end Go.Proofs.Ytiafegkjamhneaa.vlanAccepts
