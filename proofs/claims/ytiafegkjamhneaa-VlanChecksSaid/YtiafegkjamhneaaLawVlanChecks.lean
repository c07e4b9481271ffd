/-
  Of all VLANs and counts of ports the program tells whether they may be, and why not first, where one of a number stands, and which rules may be, as the document tells. No condition.
-/
import Derived.Test.YtiafegkjamhneaaRows
import Derived.Test.YtiafegkjamhneaaVlanT
import Derived.Test.YtiafegkjamhneaaPlainVlanB
import Derived.Deep.RegionHeld3
import Derived.Test.YtiafegkjamhneaaOpenVl
import Derived.Test.YtiafegkjamhneaaVlanF
import Derived.Test.YtiafegkjamhneaaVlanI
import Derived.WalkKit
import Derived.ProofKit
import Derived.OpenShut
namespace Go.Proofs.Ytiafegkjamhneaa.vlanChecks
open Go.ChangeShapes Go.WideShapes Go.ChangeAt Go.RowKit
open Go.ChangeMaps (open_string)
set_option linter.unusedVariables false

theorem own : ownKnob Try.prog.godebug = none := by kernel_rfl
theorem keep2 {w w' : World} {b o1 o2 : Nat} {v1 v2 : Value} (h : w.cell? ⟨b, o1, none⟩ = some v1 ∧ w.cell? ⟨b, o2, none⟩ = some v2) (hk : ∀ p : Addr, p.block = b → w'.cell? p = w.cell? p) :
    w'.cell? ⟨b, o1, none⟩ = some v1 ∧ w'.cell? ⟨b, o2, none⟩ = some v2 :=
  ⟨(hk _ rfl).trans h.1, (hk _ rfl).trans h.2⟩

set_option maxHeartbeats 1600000 in
theorem walk (W : World) (a0 : Value) (l0 : List Vl) (b0 : Sl W W.heap.size 3 a0 l0.length (vlc l0)) (c0 : ∀ x ∈ l0, x.ok) (a1 : Int) (b1 : -9223372036854775808 ≤ a1 ∧ a1 ≤ 9223372036854775807) (a2 e2 : Int) (b2 : -9223372036854775808 ≤ a2 ∧ a2 ≤ 9223372036854775807) (c2 : -9223372036854775808 ≤ e2 ∧ e2 ≤ 9223372036854775807) :
    Calls Try.prog 14 #[a0, .int .i64 a1, .agg #[.int .i64 a2, .int .i64 e2]] W (Says (.bool true) W) := by
  obtain ⟨A, cap, hv, hcap, hmx⟩ := b0.form
  subst hv
  obtain ⟨K, hK⟩ : ∃ K, K = min l0.length 20 := ⟨_, rfl⟩
  have hK1 : K ≤ l0.length := by omega
  have hK2 : K ≤ 20 := by omega
  have hfew := fun w => law3_Few (A := A) (w := w) hcap hmx
  rw [← hK] at hfew
  have hs0 := b0.cutTo hK1
  rw [vlc_take] at hs0
  have hc : ∀ x ∈ l0.take K, x.ok := fun x hx => c0 x (List.mem_of_mem_take hx)
  generalize l0.take K = L at *
  have S0 := Lib.hid hs0
  have HC := Lib.hid hc
  have FEW := Lib.hid hfew
  clear b0 c0 hK hs0 hc hfew hK1 hcap hmx
  have hTo : ∀ w, Sl w W.heap.size 3 (.slice A K cap) K (vlc L) → W.heap.size ≤ w.heap.size → Calls Try.prog 36 #[.slice A K cap] w fun e w' => ∃ u, e = .returned u ∧ Sl w' w'.heap.size 3 u K (vlc L) ∧ Below w.heap.size w w' := fun w h1 h2 => law3_To hK2 h1 h2
  have hC1 : ∀ v w B, Sl w B 3 v K (vlc L) → B ≤ w.heap.size → Calls Try.prog 49 #[v, .int .i64 a1] w (Says (.int .i64 (checkN L a1 K : Nat)) w) := fun v w B h1 h2 => vlan_Check HC.out h1 h2 a1
  have hC2 : ∀ v w B, Sl w B 3 v K (vlc L) → Calls Try.prog 50 #[v, .int .i64 a1] w (Says (.int .i64 (checkN L a1 K : Nat)) w) := fun v w B h1 => ref3_Check HC.out h1 a1
  have hF1 : ∀ v w B, Sl w B 3 v K (vlc L) → B ≤ w.heap.size → Calls Try.prog 51 #[v, .int .i64 a2] w (Says (.int .i64 (findN L a2 K)) w) := fun v w B h1 h2 => vlan_Find h1 h2 a2
  have hF2 : ∀ v w B, Sl w B 3 v K (vlc L) → B ≤ w.heap.size → Calls Try.prog 52 #[v, .int .i64 a2] w (Says (.int .i64 (findN L a2 K)) w) := fun v w B h1 h2 => ref3_Find h1 h2 a2
  have hR1 := fun w => vlan_Right a2 e2 w
  have hR2 := fun w => ref3_Right a2 e2 w
  generalize checkN L a1 K = C at *
  generalize findN L a2 K = F at *
  generalize ruleB a2 e2 = R at *
  have HTO := Lib.hid hTo
  have C1 := Lib.hid hC1
  have C2 := Lib.hid hC2
  have F1 := Lib.hid hF1
  have F2 := Lib.hid hF2
  have R1 := Lib.hid hR1
  have R2 := Lib.hid hR2
  clear hTo hC1 hC2 hF1 hF2 hR1 hR2 HC
  go_enter Try.func14, Try.ntmps14
  go_wp2_with fail
  refine (FEW.out _).mono ?_
  rintro e w0 ⟨rfl, rfl⟩
  have hz0 : W.heap.size + 1 ≤ (W.alloc (.cells #[.int .i64 a2, .int .i64 e2] 57)).heap.size := by simp
  go_wp2_with fail
  go_region_held3 (fun w' => w'.cell? ⟨W.heap.size, 0, none⟩ = some (.int .i64 a2) ∧ w'.cell? ⟨W.heap.size, 1, none⟩ = some (.int .i64 e2))
    (first | (with_reducible exact keep2 (by assumption) (fun p hp => hb.cell (by rw [hp]; go_size))) | go_keep)
    (first
      | (go_at_call 30; (with_reducible refine Calls.mono (told03 _) ?_); rintro e w1 ⟨rfl, hb⟩; have hB1 : Below W.heap.size W w1 := Below.trans (by (repeat' (first | (with_reducible exact Below.refl _ _) | (with_reducible assumption) | (with_reducible refine Below.setCell ?_ ?_ _) | (with_reducible refine Below.alloc ?_ ?_ _) | (with_reducible refine below_drewN ?_ _) | (with_reducible refine Below.drew ?_) | go_size))) (hb.mono (by go_size)); have hz1 : W.heap.size + 1 ≤ w1.heap.size := (by have := hb.size; (try simp at this); omega))
      | (go_at_call 36; (with_reducible refine Calls.mono (HTO.out _ (S0.out.below (by (repeat' (first | (with_reducible exact Below.refl _ _) | (with_reducible assumption) | (with_reducible refine Below.setCell ?_ ?_ _) | (with_reducible refine Below.alloc ?_ ?_ _) | (with_reducible refine below_drewN ?_ _) | (with_reducible refine Below.drew ?_) | go_size)))) (by go_size)) ?_); rintro e w2 ⟨v2, rfl, hs, hb⟩; have hB2 : Below W.heap.size W w2 := Below.trans (by (repeat' (first | (with_reducible exact Below.refl _ _) | (with_reducible assumption) | (with_reducible refine Below.setCell ?_ ?_ _) | (with_reducible refine Below.alloc ?_ ?_ _) | (with_reducible refine below_drewN ?_ _) | (with_reducible refine Below.drew ?_) | go_size))) (hb.mono (by go_size)); have hz2 : W.heap.size + 1 ≤ w2.heap.size := (by have := hb.size; (try simp at this); omega))
      | (go_at_call 49; (with_reducible refine Calls.mono (C1.out _ _ _ hs (by go_size)) ?_); rintro e w3 ⟨rfl, hb⟩; have hB3 : Below W.heap.size W w3 := Below.trans (by (repeat' (first | (with_reducible exact Below.refl _ _) | (with_reducible assumption) | (with_reducible refine Below.setCell ?_ ?_ _) | (with_reducible refine Below.alloc ?_ ?_ _) | (with_reducible refine below_drewN ?_ _) | (with_reducible refine Below.drew ?_) | go_size))) (hb.mono (by go_size)); have hz3 : W.heap.size + 1 ≤ w3.heap.size := (by have := hb.size; (try simp at this); omega))
      | (go_at_call 50; (with_reducible refine Calls.mono (C2.out _ _ _ (S0.out.below (by (repeat' (first | (with_reducible exact Below.refl _ _) | (with_reducible assumption) | (with_reducible refine Below.setCell ?_ ?_ _) | (with_reducible refine Below.alloc ?_ ?_ _) | (with_reducible refine below_drewN ?_ _) | (with_reducible refine Below.drew ?_) | go_size))))) ?_); rintro e w4 ⟨rfl, hb⟩; have hB4 : Below W.heap.size W w4 := Below.trans (by (repeat' (first | (with_reducible exact Below.refl _ _) | (with_reducible assumption) | (with_reducible refine Below.setCell ?_ ?_ _) | (with_reducible refine Below.alloc ?_ ?_ _) | (with_reducible refine below_drewN ?_ _) | (with_reducible refine Below.drew ?_) | go_size))) (hb.mono (by go_size)); have hz4 : W.heap.size + 1 ≤ w4.heap.size := (by have := hb.size; (try simp at this); omega))
      | (go_at_call 51; (with_reducible refine Calls.mono (F1.out _ _ _ hs (by go_size)) ?_); rintro e w5 ⟨rfl, hb⟩; have hB5 : Below W.heap.size W w5 := Below.trans (by (repeat' (first | (with_reducible exact Below.refl _ _) | (with_reducible assumption) | (with_reducible refine Below.setCell ?_ ?_ _) | (with_reducible refine Below.alloc ?_ ?_ _) | (with_reducible refine below_drewN ?_ _) | (with_reducible refine Below.drew ?_) | go_size))) (hb.mono (by go_size)); have hz5 : W.heap.size + 1 ≤ w5.heap.size := (by have := hb.size; (try simp at this); omega))
      | (go_at_call 52; (with_reducible refine Calls.mono (F2.out _ _ _ (S0.out.below (by (repeat' (first | (with_reducible exact Below.refl _ _) | (with_reducible assumption) | (with_reducible refine Below.setCell ?_ ?_ _) | (with_reducible refine Below.alloc ?_ ?_ _) | (with_reducible refine below_drewN ?_ _) | (with_reducible refine Below.drew ?_) | go_size)))) (by go_size)) ?_); rintro e w6 ⟨rfl, hb⟩; have hB6 : Below W.heap.size W w6 := Below.trans (by (repeat' (first | (with_reducible exact Below.refl _ _) | (with_reducible assumption) | (with_reducible refine Below.setCell ?_ ?_ _) | (with_reducible refine Below.alloc ?_ ?_ _) | (with_reducible refine below_drewN ?_ _) | (with_reducible refine Below.drew ?_) | go_size))) (hb.mono (by go_size)); have hz6 : W.heap.size + 1 ≤ w6.heap.size := (by have := hb.size; (try simp at this); omega))
      | (go_at_call 53; (with_reducible refine Calls.mono (R1.out _) ?_); rintro e w7 ⟨rfl, hb⟩; have hB7 : Below W.heap.size W w7 := Below.trans (by (repeat' (first | (with_reducible exact Below.refl _ _) | (with_reducible assumption) | (with_reducible refine Below.setCell ?_ ?_ _) | (with_reducible refine Below.alloc ?_ ?_ _) | (with_reducible refine below_drewN ?_ _) | (with_reducible refine Below.drew ?_) | go_size))) (hb.mono (by go_size)); have hz7 : W.heap.size + 1 ≤ w7.heap.size := (by have := hb.size; (try simp at this); omega))
      | (go_at_call 54; (with_reducible refine Calls.mono (R2.out _) ?_); rintro e w8 ⟨rfl, hb⟩; have hB8 : Below W.heap.size W w8 := Below.trans (by (repeat' (first | (with_reducible exact Below.refl _ _) | (with_reducible assumption) | (with_reducible refine Below.setCell ?_ ?_ _) | (with_reducible refine Below.alloc ?_ ?_ _) | (with_reducible refine below_drewN ?_ _) | (with_reducible refine Below.drew ?_) | go_size))) (hb.mono (by go_size)); have hz8 : W.heap.size + 1 ≤ w8.heap.size := (by have := hb.size; (try simp at this); omega)))
  all_goals
    go_wp2
    go_ret
    exact ⟨by simp, by assumption⟩

set_option maxRecDepth 100000 in
/-- What the walk gives, for every argument: the row's own words. -/
theorem contract (H : Type) (enc : TypeId × Value → H) (W : World) (base : Nat) (args : Array Value) (ds gs : List (DataW H)) (before : List MemPlace)
    (hval : ∀ (j : Nat) t v, Try.f14.params[j]? = some t → args[j]? = some v → Value.okWide Try.prog W .any base t v)
    (hW : DataW.Whole enc Try.prog Try.f14.params.toList Rows.vlanChecksSpec.vars false W args.toList ds gs before) :
    Calls Try.prog 14 args W fun e W' => ∃ v, e = .returned v ∧ Rows.vlanChecksSpec.post enc Try.prog Try.f14 false true false false W args v W' := by
  have hW' := hW
  obtain ⟨p, q, hA0, hV, rfl, hfz, hnd⟩ := hW
  have hA : DataW.TrodAll enc Try.prog W 0 (fun _ => true) true Try.f14.params.toList args.toList ds p := hA0
  rw [Try.params14] at hA hval
  obtain ⟨v0, vs0, d0, ds0, p0, q0, hargs, rfl, rfl, h0, r0⟩ := trodAll_cons hA
  obtain ⟨v1, vs1, d1, ds1, p1, q1, rfl, rfl, rfl, h1, r1⟩ := trodAll_cons r0
  obtain ⟨v2, vs2, d2, ds2, p2, q2, rfl, rfl, rfl, h2, r2⟩ := trodAll_cons r1
  obtain ⟨rfl, rfl, rfl⟩ := trodAll_nil r2
  obtain rfl : args = #[v0, v1, v2] := by cases args; simp_all
  obtain ⟨l0, b0, c0⟩ := open_vls Try.underlying67 Try.underlying112 (by kernel_rfl) (by kernel_rfl) (by kernel_rfl) (by kernel_rfl) (by kernel_rfl) (hval 0 67 v0 rfl rfl) h0
  obtain ⟨a1, rfl, b1⟩ := open_i64 Try.underlying3 (hval 1 3 v1 rfl rfl) h1
  obtain ⟨a2, e2, rfl, b2, c2⟩ := open_ii Try.underlying57 (by kernel_rfl) (by kernel_rfl) (by kernel_rfl) (by kernel_rfl) (hval 2 57 v2 rfl rfl) h2
  refine (walk W v0 l0 b0 c0 a1 b1 a2 e2 b2 c2).mono fun e W' ⟨he, hb⟩ => ?_
  subst he
  exact close_true (by kernel_rfl) Try.underlying4 (by kernel_rfl) (by kernel_rfl) rfl rfl hW' hb

set_option maxRecDepth 100000 in
theorem lifted (os : Os) (started : os.Started) (H : Type) (enc : TypeId × Value → H) :
    ReturnsInHanded {} Try.checked os 14 .any (Rows.vlanChecksSpec.pre6 enc Try.prog Try.f14 Rows.vlanChecksRow.domain false) (Rows.vlanChecksSpec.post enc Try.prog Try.f14 false true false false) := by
  refine returnsInHanded_of_change (C := Try.checked) own started (by kernel_rfl) Try.func14
    (ChangeSpec.witness6 (enc := enc) (C := Try.checked) false ⟨#[], #[.slice none 0 0, .int .i64 0, .agg #[.int .i64 0, .int .i64 0]], []⟩ 8 (by kernel_rfl) (by kernel_rfl) (by kernel_rfl) (by kernel_rfl)) ?_
  intro W base args ds gs before hval hW _ _
  exact contract H enc W base args ds gs before hval hW

theorem proved : Rows.VlanChecksSaid :=
  OpenClaim.holds_of_wide 14 Try.f14 rfl rfl rfl rfl rfl rfl rfl ⟨rfl, rfl, rfl, rfl, rfl⟩ rfl rfl rfl rfl rfl (by kernel_rfl) Try.func14 (by kernel_rfl)
    (of_decide_eq_true (by kernel_rfl)) (by unfold Func.isWrapper; first | (rw [if_pos (by decide +kernel)]; kernel_rfl) | (rw [if_neg (by decide +kernel)]; exact ⟨rfl, rfl⟩))
    (fun os started H enc _ => lifted os started H enc)
#print axioms proved
end Go.Proofs.Ytiafegkjamhneaa.vlanChecks
