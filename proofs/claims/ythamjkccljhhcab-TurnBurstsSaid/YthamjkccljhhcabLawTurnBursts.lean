/-
  Of all counts, lengths and seeds the program tells the turns of whom each goes on for a while, as the document tells them. No condition.
-/
import Derived.Test.YthamjkccljhhcabRows
import Derived.Test.YthamjkccljhhcabTurnT
import Derived.Deep.RegionHeld3
import Derived.WalkKit
import Derived.ProofKit
import Derived.OpenShut
namespace Go.Proofs.Ythamjkccljhhcab.turnBursts
open Go.ChangeShapes Go.WideShapes Go.ChangeAt Go.RowKit
open Go.ChangeMaps (open_string)
set_option linter.unusedVariables false

theorem own : ownKnob Try.prog.godebug = none := by kernel_rfl
theorem keep2 {w w' : World} {b o1 o2 : Nat} {v1 v2 : Value} (h : w.cell? ⟨b, o1, none⟩ = some v1 ∧ w.cell? ⟨b, o2, none⟩ = some v2) (hk : ∀ p : Addr, p.block = b → w'.cell? p = w.cell? p) :
    w'.cell? ⟨b, o1, none⟩ = some v1 ∧ w'.cell? ⟨b, o2, none⟩ = some v2 := ⟨(hk _ rfl).trans h.1, (hk _ rfl).trans h.2⟩

set_option maxHeartbeats 1600000 in
theorem walk (W : World) (a0 : Int) (b0 : -9223372036854775808 ≤ a0 ∧ a0 ≤ 9223372036854775807) (a1 : Int) (b1 : -9223372036854775808 ≤ a1 ∧ a1 ≤ 9223372036854775807) (a2 : Int) (e2 : Nat) (b2 : -9223372036854775808 ≤ a2 ∧ a2 ≤ 9223372036854775807) (c2 : e2 < 18446744073709551616) :
    Calls Try.prog 9 #[.int .i64 a0, .int .i64 a1, .agg #[.int .i64 a2, .int .u64 (e2 : Int)]] W (Says (.bool true) W) := by
  by_cases hbig : (3000 : Int) < a1
  · have hd : a1 > 3000 := hbig
    go_enter Try.func9, Try.ntmps9
    go_wp2_with fail
    refine (told07 _).mono ?_
    rintro e w1 ⟨rfl, hb1⟩
    have HB1 := Lib.hid (((Below.refl W.heap.size W).alloc (Nat.le_refl _) (.cells #[.int .i64 a2, .int .u64 (e2 : Int)] 57)).trans (hb1.mono (by simp)))
    clear hb1
    go_wp2
    go_ret
    exact ⟨by simp, HB1.out⟩
  · have hnb : ¬ a1 > 3000 := hbig
    have hl1 := turnsL_length (m := a0) (c := a1) (gBursts (e2 : Int) (max a2 1))
    obtain ⟨n, hn⟩ : ∃ n, n = if a0 < 1 ∨ a1 < 1 then 0 else min a1.toNat 100000 := ⟨_, rfl⟩
    rw [← hn] at hl1
    have R1 := Lib.hid fun W => (turn_Bursts a0 a1 a2 (e2 : Int) b0.2 b1.2 b2.2 W).mono fun e w' h => h.at_ hl1
    have R2 := Lib.hid fun W => (ref7_Bursts a0 a1 a2 (e2 : Int) b0.2 b1.2 b2.2 W).mono fun e w' h => h.at_ hl1
    generalize turnsL a0 a1 (gBursts (e2 : Int) (max a2 1)) = L at *
    clear hl1 hn hbig b0 b1 b2 c2
    have hz0 : W.heap.size + 1 ≤ (W.alloc (.cells #[.int .i64 a2, .int .u64 (e2 : Int)] 57)).heap.size := by simp
    go_enter Try.func9, Try.ntmps9
    go_wp2_with fail
    go_region_held3 (fun w' => w'.cell? ⟨W.heap.size, 0, none⟩ = some (.int .i64 a2) ∧ w'.cell? ⟨W.heap.size, 1, none⟩ = some (.int .u64 (e2 : Int)))
      (first | (with_reducible exact keep2 (by assumption) (fun p hp => hb.cell (by rw [hp]; go_size))) | go_keep)
      (first
        | (go_at_call 27; (with_reducible refine Calls.mono (told07 _) ?_); rintro e w1 ⟨rfl, hb⟩; have hB1 : Below W.heap.size W w1 := Below.trans (by (repeat' (first | (with_reducible exact Below.refl _ _) | (with_reducible assumption) | (with_reducible refine Below.setCell ?_ ?_ _) | (with_reducible refine Below.alloc ?_ ?_ _) | (with_reducible refine below_drewN ?_ _) | (with_reducible refine Below.drew ?_) | go_size))) (hb.mono (by go_size)); have hz1 : W.heap.size + 1 ≤ w1.heap.size := (by have := hb.size; (try simp at this); omega))
        | (go_at_call 37; (with_reducible refine Calls.mono (R1.out _) ?_); rintro e w2 ⟨A2, cap2, rfl, hs2, hb⟩; have hB2 : Below W.heap.size W w2 := Below.trans (by (repeat' (first | (with_reducible exact Below.refl _ _) | (with_reducible assumption) | (with_reducible refine Below.setCell ?_ ?_ _) | (with_reducible refine Below.alloc ?_ ?_ _) | (with_reducible refine below_drewN ?_ _) | (with_reducible refine Below.drew ?_) | go_size))) (hb.mono (by go_size)); have hz2 : W.heap.size + 1 ≤ w2.heap.size := (by have := hb.size; (try simp at this); omega))
        | (go_at_call 36; (with_reducible refine Calls.mono (R2.out _) ?_); rintro e w3 ⟨A3, cap3, rfl, hs3, hb⟩; have hB3 : Below W.heap.size W w3 := Below.trans (by (repeat' (first | (with_reducible exact Below.refl _ _) | (with_reducible assumption) | (with_reducible refine Below.setCell ?_ ?_ _) | (with_reducible refine Below.alloc ?_ ?_ _) | (with_reducible refine below_drewN ?_ _) | (with_reducible refine Below.drew ?_) | go_size))) (hb.mono (by go_size)); have hz3 : W.heap.size + 1 ≤ w3.heap.size := (by have := hb.size; (try simp at this); omega); have hc3 : Below w2.heap.size w2 w3 := Below.trans (by (repeat' (first | (with_reducible exact Below.refl _ _) | (with_reducible assumption) | (with_reducible refine Below.setCell ?_ ?_ _) | (with_reducible refine Below.alloc ?_ ?_ _) | (with_reducible refine below_drewN ?_ _) | (with_reducible refine Below.drew ?_) | go_size))) (hb.mono (by go_size)))
        | (go_at_call 32; (with_reducible refine Calls.mono (law3_IntsEq (hs2.below (by (repeat' (first | (with_reducible exact Below.refl _ _) | (with_reducible assumption) | (with_reducible refine Below.setCell ?_ ?_ _) | (with_reducible refine Below.alloc ?_ ?_ _) | (with_reducible refine below_drewN ?_ _) | (with_reducible refine Below.drew ?_) | go_size)))) (hs3.below (by (repeat' (first | (with_reducible exact Below.refl _ _) | (with_reducible assumption) | (with_reducible refine Below.setCell ?_ ?_ _) | (with_reducible refine Below.alloc ?_ ?_ _) | (with_reducible refine below_drewN ?_ _) | (with_reducible refine Below.drew ?_) | go_size))))) ?_); rintro e w4 ⟨rfl, n4, rfl⟩; have hB4 : Below W.heap.size W w3 := (by assumption); have hb : Below w3.heap.size w3 w3 := Below.refl _ _))
    all_goals
      go_wp2
      go_ret
      exact ⟨by simp, (by (repeat' (first | (with_reducible exact Below.refl _ _) | (with_reducible assumption) | (with_reducible refine Below.setCell ?_ ?_ _) | (with_reducible refine Below.alloc ?_ ?_ _) | (with_reducible refine below_drewN ?_ _) | (with_reducible refine Below.drew ?_) | go_size)))⟩

set_option maxRecDepth 100000 in
/-- What the walk gives, for every argument: the row's own words. -/
theorem contract (H : Type) (enc : TypeId × Value → H) (W : World) (base : Nat) (args : Array Value) (ds gs : List (DataW H)) (before : List MemPlace)
    (hval : ∀ (j : Nat) t v, Try.f9.params[j]? = some t → args[j]? = some v → Value.okWide Try.prog W .any base t v)
    (hW : DataW.Whole enc Try.prog Try.f9.params.toList Rows.turnBurstsSpec.vars false W args.toList ds gs before) :
    Calls Try.prog 9 args W fun e W' => ∃ v, e = .returned v ∧ Rows.turnBurstsSpec.post enc Try.prog Try.f9 false true false false W args v W' := by
  have hW' := hW
  obtain ⟨p, q, hA0, hV, rfl, hfz, hnd⟩ := hW
  have hA : DataW.TrodAll enc Try.prog W 0 (fun _ => true) true Try.f9.params.toList args.toList ds p := hA0
  rw [Try.params9] at hA hval
  obtain ⟨v0, vs0, d0, ds0, p0, q0, hargs, rfl, rfl, h0, r0⟩ := trodAll_cons hA
  obtain ⟨v1, vs1, d1, ds1, p1, q1, rfl, rfl, rfl, h1, r1⟩ := trodAll_cons r0
  obtain ⟨v2, vs2, d2, ds2, p2, q2, rfl, rfl, rfl, h2, r2⟩ := trodAll_cons r1
  obtain ⟨rfl, rfl, rfl⟩ := trodAll_nil r2
  obtain rfl : args = #[v0, v1, v2] := by cases args; simp_all
  obtain ⟨a0, rfl, b0⟩ := open_i64 Try.underlying3 (hval 0 3 v0 rfl rfl) h0
  obtain ⟨a1, rfl, b1⟩ := open_i64 Try.underlying3 (hval 1 3 v1 rfl rfl) h1
  obtain ⟨a2, e2, rfl, b2, c2⟩ := open_iu Try.underlying57 (by kernel_rfl) (by kernel_rfl) (by kernel_rfl) (by kernel_rfl) (hval 2 57 v2 rfl rfl) h2
  refine (walk W a0 b0 a1 b1 a2 e2 b2 c2).mono fun e W' ⟨he, hb⟩ => ?_
  subst he
  exact close_true (by kernel_rfl) Try.underlying4 (by kernel_rfl) (by kernel_rfl) rfl rfl hW' hb

set_option maxRecDepth 100000 in
theorem lifted (os : Os) (started : os.Started) (H : Type) (enc : TypeId × Value → H) :
    ReturnsInHanded {} Try.checked os 9 .any (Rows.turnBurstsSpec.pre6 enc Try.prog Try.f9 Rows.turnBurstsRow.domain false) (Rows.turnBurstsSpec.post enc Try.prog Try.f9 false true false false) := by
  refine returnsInHanded_of_change (C := Try.checked) own started (by kernel_rfl) Try.func9
    (ChangeSpec.witness6 (enc := enc) (C := Try.checked) false ⟨#[], #[.int .i64 0, .int .i64 0, .agg #[.int .i64 0, .int .u64 0]], []⟩ 8 (by kernel_rfl) (by kernel_rfl) (by kernel_rfl) (by kernel_rfl)) ?_
  intro W base args ds gs before hval hW _ _
  exact contract H enc W base args ds gs before hval hW

theorem proved : Rows.TurnBurstsSaid :=
  OpenClaim.holds_of_wide 9 Try.f9 rfl rfl rfl rfl rfl rfl rfl ⟨rfl, rfl, rfl, rfl, rfl⟩ rfl rfl rfl rfl rfl (by kernel_rfl) Try.func9 (by kernel_rfl)
    (of_decide_eq_true (by kernel_rfl)) (by unfold Func.isWrapper; first | (rw [if_pos (by decide +kernel)]; kernel_rfl) | (rw [if_neg (by decide +kernel)]; exact ⟨rfl, rfl⟩))
    (fun os started H enc _ => lifted os started H enc)
#print axioms proved
end Go.Proofs.Ythamjkccljhhcab.turnBursts
