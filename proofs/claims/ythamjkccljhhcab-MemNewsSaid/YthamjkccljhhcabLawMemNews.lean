/-
  Of all counts it is told whether there may be as many cells and locks, and of a memory that isn't there nothing is told. No condition.
-/
import Derived.Test.YthamjkccljhhcabRows
import Derived.Test.YthamjkccljhhcabMemN
import Derived.WalkKit
import Derived.ProofKit
import Derived.OpenShut
namespace Go.Proofs.Ythamjkccljhhcab.memNews
open Go.ChangeShapes Go.WideShapes Go.ChangeAt Go.RowKit
open Go.ChangeMaps (open_string)
set_option linter.unusedVariables false

theorem own : ownKnob Try.prog.godebug = none := by kernel_rfl

set_option maxRecDepth 100000 in
set_option maxHeartbeats 1600000 in
theorem walk (W : World) (a0 : Int) (b0 : -9223372036854775808 ≤ a0 ∧ a0 ≤ 9223372036854775807) (a1 : Int) (b1 : -9223372036854775808 ≤ a1 ∧ a1 ≤ 9223372036854775807) (a2 e2 f2 g2 : Int) :
    Calls Try.prog 4 #[.int .i64 a0, .int .i64 a1, .agg #[.int .i64 a2, .int .i64 e2, .int .i64 f2, .int .u64 g2]] W (Says (.bool true) W) := by
  obtain ⟨kk, hk6, hkw⟩ := mod6 a2
  have hkw' := hkw
  have HDO := fun W => nil_do a2 e2 f2 g2 kk hk6 hkw W
  clear hkw
  by_cases hk5 : kk = 5
  · subst hk5
    rw [if_pos rfl] at HDO
    have HDO := Lib.hid HDO
    change wrap64 ((IntKind.u64.wrap a2).tmod 6) = 5 at hkw'
    go_enter Try.func4, Try.ntmps4
    go_wp2_with fail
    refine (HDO.out _).mono ?_
    rintro e w1 ⟨rfl, hb⟩
    have B1 := Lib.hid (((Below.refl W.heap.size W).alloc (Nat.le_refl _) (.cells #[.int .i64 a2, .int .i64 e2, .int .i64 f2, .int .u64 g2] 34)).trans (hb.mono (by simp)))
    have hc0 : w1.cell? ⟨W.heap.size, 0, none⟩ = some (.int .i64 a2) := (hb.cell (p := ⟨W.heap.size, 0, none⟩) (by simp)).trans (by simp [go_sem])
    clear hb
    go_wp2_with fail
    refine (told06 _).mono ?_
    rintro e w2 ⟨rfl, hb⟩
    have B2 := Lib.hid (B1.out.trans (hb.mono B1.out.size))
    clear hb
    go_wp2_with fail
    refine (nil_Time _).mono ?_
    rintro e w2b ⟨rfl, rfl⟩
    go_wp2_with fail
    refine (nil_Cells _).mono ?_
    rintro e w2c ⟨rfl, rfl⟩
    go_wp2_with fail
    refine (nil_Locks _).mono ?_
    rintro e w2d ⟨rfl, rfl⟩
    clear hc0 hkw'
    by_cases hmid : 20000 < a0 ∧ a0 ≤ 1048576
    · have hd1 : decide (20000 < a0) = true := by simpa using hmid.1
      have hd2 : decide (a0 > 20000) = true := hd1
      have hd3 : a0 ≤ 1048576 := hmid.2
      clear hmid
      go_wp2
      go_ret
      exact ⟨rfl, B2.out⟩
    · have hgate : (decide (20000 < a0) = false) ∨ (decide (20000 < a0) = true ∧ decide (a0 ≤ 1048576) = false) := by
        rcases Nat.lt_or_ge 0 1 with _ | _
        · by_cases h : 20000 < a0
          · right; exact ⟨by simpa using h, by simp; omega⟩
          · left; simpa using h
        · omega
      rcases hgate with hd1 | ⟨hd1, hd2⟩
      · have hd2 : decide (a0 > 20000) = false := hd1
        by_cases hbad : a0 < 1 ∨ 1048576 < a0 ∨ a1 < 0 ∨ 128 < a1
        · have hNA := Lib.hid (mem_New_bad a0 a1 hbad)
          have hNB := Lib.hid (ref6_New_bad a0 a1 hbad)
          clear hbad
          go_wp2_with fail
          refine (hNA.out _).mono ?_
          rintro e w3 ⟨rfl, rfl⟩
          go_wp2_with fail
          refine (hNB.out _).mono ?_
          rintro e w4 ⟨rfl, rfl⟩
          go_wp2
          go_ret
          exact ⟨by simp, B2.out⟩
        · have hsm : a0 ≤ 20000 := by simp at hd1; omega
          obtain ⟨C, rfl⟩ := Int.eq_ofNat_of_zero_le (show 0 ≤ a0 by omega)
          obtain ⟨L, rfl⟩ := Int.eq_ofNat_of_zero_le (show 0 ≤ a1 by omega)
          have hNA := Lib.hid (mem_New C L (by omega) (by omega))
          have hNB := Lib.hid (ref6_New C L (by omega) (by omega))
          have hp : peekS (newS C L) ((C : Int) - 1) = 0 := by unfold peekS; split <;> rfl
          have hh : holdS (newS C L) ((L : Int) - 1) = -1 := by unfold holdS; split <;> rfl
          have hw1 : wrap64 ((C : Int) - 1) = (C : Int) - 1 := IntWalk.wrap64_in _ (by omega)
          have hw2 : wrap64 ((L : Int) - 1) = (L : Int) - 1 := IntWalk.wrap64_in _ (by omega)
          have HP := Lib.hid hp
          have HH := Lib.hid hh
          clear hp hh
          go_wp2_with fail
          refine (hNA.out _).mono ?_
          rintro e w3 ⟨b, rfl, hm, hb⟩
          have M3 := Lib.hid hm
          have B3 := Lib.hid (B2.out.trans (hb.mono B2.out.size))
          clear hm hb
          go_wp2_with fail
          refine (hNB.out _).mono ?_
          rintro e w4 ⟨b2, rfl, hm, hb⟩
          have M4 := Lib.hid (M3.out.below hb)
          have B4 := Lib.hid (B3.out.trans (hb.mono B3.out.size))
          clear hm hb
          go_wp2_with fail
          refine (mem_Cells M4.out).mono ?_
          rintro e w5 ⟨rfl, rfl⟩
          rw [show (newS C L).C = C from rfl]
          have he1 : ((C : Int) == (C : Int)) = true := by simp
          go_wp2_with fail
          refine (mem_Locks M4.out).mono ?_
          rintro e w5 ⟨rfl, rfl⟩
          rw [show (newS C L).L = L from rfl]
          have he2 : ((L : Int) == (L : Int)) = true := by simp
          go_wp2_with fail
          refine (mem_Time M4.out).mono ?_
          rintro e w5 ⟨rfl, rfl⟩
          rw [show (newS C L).t = 0 from rfl]
          go_wp2_with fail
          refine (mem_Peek ((C : Int) - 1) M4.out).mono ?_
          rintro e w5 ⟨rfl, rfl⟩
          rw [HP.out]
          go_wp2_with fail
          refine (mem_Holder ((L : Int) - 1) M4.out).mono ?_
          rintro e w5 ⟨rfl, rfl⟩
          rw [HH.out]
          go_wp2
          go_ret
          exact ⟨by simp, B4.out⟩
      · have hd3 : decide (a0 > 20000) = true := hd1
        by_cases hbad : a0 < 1 ∨ 1048576 < a0 ∨ a1 < 0 ∨ 128 < a1
        · have hNA := Lib.hid (mem_New_bad a0 a1 hbad)
          have hNB := Lib.hid (ref6_New_bad a0 a1 hbad)
          clear hbad
          go_wp2_with fail
          refine (hNA.out _).mono ?_
          rintro e w3 ⟨rfl, rfl⟩
          go_wp2_with fail
          refine (hNB.out _).mono ?_
          rintro e w4 ⟨rfl, rfl⟩
          go_wp2
          go_ret
          exact ⟨by simp, B2.out⟩
        · simp at hd2; omega
  · rw [if_neg hk5] at HDO
    have HDO := Lib.hid HDO
    have hne5 : ((kk : Int) == 5) = false := by simp; omega
    go_enter Try.func4, Try.ntmps4
    go_wp2_with fail
    refine (HDO.out _).mono ?_
    rintro e w1 ⟨rfl, hb⟩
    have B1 := Lib.hid (((Below.refl W.heap.size W).alloc (Nat.le_refl _) (.cells #[.int .i64 a2, .int .i64 e2, .int .i64 f2, .int .u64 g2] 34)).trans (hb.mono (by simp)))
    have hc0 : w1.cell? ⟨W.heap.size, 0, none⟩ = some (.int .i64 a2) := (hb.cell (p := ⟨W.heap.size, 0, none⟩) (by simp)).trans (by simp [go_sem])
    clear hb
    go_wp2_with fail
    refine (told06 _).mono ?_
    rintro e w2 ⟨rfl, hb⟩
    have B2 := Lib.hid (B1.out.trans (hb.mono B1.out.size))
    clear hb
    go_wp2_with fail
    refine (nil_Time _).mono ?_
    rintro e w2b ⟨rfl, rfl⟩
    go_wp2_with fail
    refine (nil_Cells _).mono ?_
    rintro e w2c ⟨rfl, rfl⟩
    go_wp2_with fail
    refine (nil_Locks _).mono ?_
    rintro e w2d ⟨rfl, rfl⟩
    clear hc0 hkw'
    by_cases hmid : 20000 < a0 ∧ a0 ≤ 1048576
    · have hd1 : decide (20000 < a0) = true := by simpa using hmid.1
      have hd2 : decide (a0 > 20000) = true := hd1
      have hd3 : a0 ≤ 1048576 := hmid.2
      clear hmid
      go_wp2
      go_ret
      exact ⟨rfl, B2.out⟩
    · have hgate : (decide (20000 < a0) = false) ∨ (decide (20000 < a0) = true ∧ decide (a0 ≤ 1048576) = false) := by
        rcases Nat.lt_or_ge 0 1 with _ | _
        · by_cases h : 20000 < a0
          · right; exact ⟨by simpa using h, by simp; omega⟩
          · left; simpa using h
        · omega
      rcases hgate with hd1 | ⟨hd1, hd2⟩
      · have hd2 : decide (a0 > 20000) = false := hd1
        by_cases hbad : a0 < 1 ∨ 1048576 < a0 ∨ a1 < 0 ∨ 128 < a1
        · have hNA := Lib.hid (mem_New_bad a0 a1 hbad)
          have hNB := Lib.hid (ref6_New_bad a0 a1 hbad)
          clear hbad
          go_wp2_with fail
          refine (hNA.out _).mono ?_
          rintro e w3 ⟨rfl, rfl⟩
          go_wp2_with fail
          refine (hNB.out _).mono ?_
          rintro e w4 ⟨rfl, rfl⟩
          go_wp2
          go_ret
          exact ⟨by simp, B2.out⟩
        · have hsm : a0 ≤ 20000 := by simp at hd1; omega
          obtain ⟨C, rfl⟩ := Int.eq_ofNat_of_zero_le (show 0 ≤ a0 by omega)
          obtain ⟨L, rfl⟩ := Int.eq_ofNat_of_zero_le (show 0 ≤ a1 by omega)
          have hNA := Lib.hid (mem_New C L (by omega) (by omega))
          have hNB := Lib.hid (ref6_New C L (by omega) (by omega))
          have hp : peekS (newS C L) ((C : Int) - 1) = 0 := by unfold peekS; split <;> rfl
          have hh : holdS (newS C L) ((L : Int) - 1) = -1 := by unfold holdS; split <;> rfl
          have hw1 : wrap64 ((C : Int) - 1) = (C : Int) - 1 := IntWalk.wrap64_in _ (by omega)
          have hw2 : wrap64 ((L : Int) - 1) = (L : Int) - 1 := IntWalk.wrap64_in _ (by omega)
          have HP := Lib.hid hp
          have HH := Lib.hid hh
          clear hp hh
          go_wp2_with fail
          refine (hNA.out _).mono ?_
          rintro e w3 ⟨b, rfl, hm, hb⟩
          have M3 := Lib.hid hm
          have B3 := Lib.hid (B2.out.trans (hb.mono B2.out.size))
          clear hm hb
          go_wp2_with fail
          refine (hNB.out _).mono ?_
          rintro e w4 ⟨b2, rfl, hm, hb⟩
          have M4 := Lib.hid (M3.out.below hb)
          have B4 := Lib.hid (B3.out.trans (hb.mono B3.out.size))
          clear hm hb
          go_wp2_with fail
          refine (mem_Cells M4.out).mono ?_
          rintro e w5 ⟨rfl, rfl⟩
          rw [show (newS C L).C = C from rfl]
          have he1 : ((C : Int) == (C : Int)) = true := by simp
          go_wp2_with fail
          refine (mem_Locks M4.out).mono ?_
          rintro e w5 ⟨rfl, rfl⟩
          rw [show (newS C L).L = L from rfl]
          have he2 : ((L : Int) == (L : Int)) = true := by simp
          go_wp2_with fail
          refine (mem_Time M4.out).mono ?_
          rintro e w5 ⟨rfl, rfl⟩
          rw [show (newS C L).t = 0 from rfl]
          go_wp2_with fail
          refine (mem_Peek ((C : Int) - 1) M4.out).mono ?_
          rintro e w5 ⟨rfl, rfl⟩
          rw [HP.out]
          go_wp2_with fail
          refine (mem_Holder ((L : Int) - 1) M4.out).mono ?_
          rintro e w5 ⟨rfl, rfl⟩
          rw [HH.out]
          go_wp2
          go_ret
          exact ⟨by simp, B4.out⟩
      · have hd3 : decide (a0 > 20000) = true := hd1
        by_cases hbad : a0 < 1 ∨ 1048576 < a0 ∨ a1 < 0 ∨ 128 < a1
        · have hNA := Lib.hid (mem_New_bad a0 a1 hbad)
          have hNB := Lib.hid (ref6_New_bad a0 a1 hbad)
          clear hbad
          go_wp2_with fail
          refine (hNA.out _).mono ?_
          rintro e w3 ⟨rfl, rfl⟩
          go_wp2_with fail
          refine (hNB.out _).mono ?_
          rintro e w4 ⟨rfl, rfl⟩
          go_wp2
          go_ret
          exact ⟨by simp, B2.out⟩
        · simp at hd2; omega

set_option maxRecDepth 100000 in
/-- What the walk gives, for every argument: the row's own words. -/
theorem contract (H : Type) (enc : TypeId × Value → H) (W : World) (base : Nat) (args : Array Value) (ds gs : List (DataW H)) (before : List MemPlace)
    (hval : ∀ (j : Nat) t v, Try.f4.params[j]? = some t → args[j]? = some v → Value.okWide Try.prog W .any base t v)
    (hW : DataW.Whole enc Try.prog Try.f4.params.toList Rows.memNewsSpec.vars false W args.toList ds gs before) :
    Calls Try.prog 4 args W fun e W' => ∃ v, e = .returned v ∧ Rows.memNewsSpec.post enc Try.prog Try.f4 false true false false W args v W' := by
  have hW' := hW
  obtain ⟨p, q, hA0, hV, rfl, hfz, hnd⟩ := hW
  have hA : DataW.TrodAll enc Try.prog W 0 (fun _ => true) true Try.f4.params.toList args.toList ds p := hA0
  rw [Try.params4] at hA hval
  obtain ⟨v0, vs0, d0, ds0, p0, q0, hargs, rfl, rfl, h0, r0⟩ := trodAll_cons hA
  obtain ⟨v1, vs1, d1, ds1, p1, q1, rfl, rfl, rfl, h1, r1⟩ := trodAll_cons r0
  obtain ⟨v2, vs2, d2, ds2, p2, q2, rfl, rfl, rfl, h2, r2⟩ := trodAll_cons r1
  obtain ⟨rfl, rfl, rfl⟩ := trodAll_nil r2
  obtain rfl : args = #[v0, v1, v2] := by cases args; simp_all
  obtain ⟨a0, rfl, b0⟩ := open_i64 Try.underlying3 (hval 0 3 v0 rfl rfl) h0
  obtain ⟨a1, rfl, b1⟩ := open_i64 Try.underlying3 (hval 1 3 v1 rfl rfl) h1
  obtain ⟨a2, e2, f2, g2, rfl⟩ := open_op6 Try.underlying34 (by kernel_rfl) (by kernel_rfl) (by kernel_rfl) (by kernel_rfl) (by kernel_rfl) (by kernel_rfl) (hval 2 34 v2 rfl rfl) h2
  refine (walk W a0 b0 a1 b1 a2 e2 f2 g2).mono fun e W' ⟨he, hb⟩ => ?_
  subst he
  exact close_true (by kernel_rfl) Try.underlying4 (by kernel_rfl) (by kernel_rfl) rfl rfl hW' hb

set_option maxRecDepth 100000 in
theorem lifted (os : Os) (started : os.Started) (H : Type) (enc : TypeId × Value → H) :
    ReturnsInHanded {} Try.checked os 4 .any (Rows.memNewsSpec.pre6 enc Try.prog Try.f4 Rows.memNewsRow.domain false) (Rows.memNewsSpec.post enc Try.prog Try.f4 false true false false) := by
  refine returnsInHanded_of_change (C := Try.checked) own started (by kernel_rfl) Try.func4
    (ChangeSpec.witness6 (enc := enc) (C := Try.checked) false ⟨#[], #[.int .i64 0, .int .i64 0, .agg #[.int .i64 0, .int .i64 0, .int .i64 0, .int .u64 0]], []⟩ 8 (by kernel_rfl) (by kernel_rfl) (by kernel_rfl) (by kernel_rfl)) ?_
  intro W base args ds gs before hval hW _ _
  exact contract H enc W base args ds gs before hval hW

theorem proved : Rows.MemNewsSaid :=
  OpenClaim.holds_of_wide 4 Try.f4 rfl rfl rfl rfl rfl rfl rfl ⟨rfl, rfl, rfl, rfl, rfl⟩ rfl rfl rfl rfl rfl (by kernel_rfl) Try.func4 (by kernel_rfl)
    (of_decide_eq_true (by kernel_rfl)) (by unfold Func.isWrapper; first | (rw [if_pos (by decide +kernel)]; kernel_rfl) | (rw [if_neg (by decide +kernel)]; exact ⟨rfl, rfl⟩))
    (fun os started H enc _ => lifted os started H enc)
#print axioms proved
end Go.Proofs.Ythamjkccljhhcab.memNews
