/-
  In turn, each one's turn comes as often as the others', or once more, and bursts of one are the mixed turns. No condition.
-/
import Derived.Test.YthamjkccljhhcabRows
import Derived.Test.YthamjkccljhhcabTurnF
import Derived.WalkKit
import Derived.ProofKit
import Derived.OpenShut
namespace Go.Proofs.Ythamjkccljhhcab.turnFair
open Go.ChangeShapes Go.WideShapes Go.ChangeAt Go.RowKit
open Go.ChangeMaps (open_string)
set_option linter.unusedVariables false

theorem own : ownKnob Try.prog.godebug = none := by kernel_rfl
theorem quo_facts (c n : Nat) (hn : 1 ≤ n) (hc : c < 500) : ∃ q : Nat, q = c / n ∧ q ≤ c ∧ (c : Int) / (n : Int) = (q : Int) ∧ IntKind.i64.wrap ((c : Int).tdiv (n : Int)) = (q : Int) ∧ wrap64 (q : Int) = (q : Int) ∧ IntKind.i64.wrap ((q : Int) + 1) = (q : Int) + 1 := by
  have h1 : c / n ≤ c := Nat.div_le_self _ _
  have h2 : (c : Int) / (n : Int) = ((c / n : Nat) : Int) := by simp
  have h3 : IntKind.i64.wrap ((c : Int).tdiv (n : Int)) = IntKind.i64.wrap ((c / n : Nat) : Int) := by rw [Int.tdiv_eq_ediv_of_nonneg (by omega), h2]
  rw [h2, h3]
  obtain ⟨q, hq⟩ : ∃ q, q = c / n := ⟨_, rfl⟩
  rw [← hq] at h1 ⊢
  clear h2 h3 hq
  refine ⟨q, rfl, h1, rfl, ?_, ?_, ?_⟩
  · exact IntWalk.i64_in _ (by omega)
  · exact IntWalk.wrap64_in _ (by omega)
  · exact IntWalk.i64_in _ (by omega)
theorem one_wrap (n : Nat) (h : n < 4094) : wrap64 (1 + (n : Int)) = ((1 + n : Nat) : Int) := by
  rw [IntWalk.wrap64_in _ (by omega)]
  omega

set_option maxHeartbeats 1600000 in
theorem walk (W : World) (a0 : Int) (b0 : -9223372036854775808 ≤ a0 ∧ a0 ≤ 9223372036854775807) (a1 : Int) (b1 : -9223372036854775808 ≤ a1 ∧ a1 ≤ 9223372036854775807) (a2 : Nat) (b2 : a2 < 18446744073709551616) :
    Calls Try.prog 11 #[.int .i64 a0, .int .i64 a1, .int .u64 (a2 : Int)] W (Says (.bool true) W) := by
  obtain ⟨k0, hk0, hkw⟩ := mod_u64 a0 64 (by omega) (by omega)
  have hkw' : wrap64 ((IntKind.u64.wrap a0).tmod 64) = (k0 : Int) := hkw
  obtain ⟨c, hc, hcw⟩ := mod_u64 a1 500 (by omega) (by omega)
  have hcw' : wrap64 ((IntKind.u64.wrap a1).tmod 500) = (c : Int) := hcw
  obtain ⟨n, hn⟩ : ∃ n, n = 1 + k0 := ⟨_, rfl⟩
  have hn1 : 1 ≤ n := by omega
  have hn2 : n ≤ 64 := by omega
  have hnw : wrap64 (1 + (k0 : Int)) = (n : Int) := by rw [hn]; exact one_wrap k0 (by omega)
  have hnw2 : 1 + (k0 : Int) = (n : Int) := by rw [hn]; simp
  clear hkw hcw hn hk0
  have R1 := fun W => turn_Round (n : Int) (c : Int) (by omega) (by omega) W
  have hl1 : (turnsL (n : Int) (c : Int) gRound).length = c := by rw [turnsL_round n c hn1 (by omega), upK_length]
  have X1 := fun W => turn_Mixed (n : Int) (c : Int) (a2 : Int) (by omega) (by omega) W
  have X2 := fun W => turn_Bursts (n : Int) (c : Int) 1 (a2 : Int) (by omega) (by omega) (by omega) W
  rw [show turnsL (n : Int) (c : Int) (gBursts (a2 : Int) (max 1 1)) = turnsL (n : Int) (c : Int) (gMixed (a2 : Int)) from by rw [show gBursts (a2 : Int) (max 1 1) = gMixed (a2 : Int) from by funext i; unfold gBursts; rw [show (max 1 1 : Int) = 1 from rfl, Int.ediv_one]]] at X2
  have hl2 : (turnsL (n : Int) (c : Int) (gMixed (a2 : Int))).length = c := by rw [turnsL_length]; split <;> omega
  have hcn := cntL_round n c hn1 hn2 (by omega)
  generalize turnsL (n : Int) (c : Int) (gMixed (a2 : Int)) = L2 at *
  obtain ⟨q, hq, hqc, hq0, hq1, hq2, hq3⟩ := quo_facts c n hn1 hc
  have hfair : ∀ i, fairN n c i = q ∨ fairN n c i = q + 1 := fun i => by unfold fairN; rw [← hq]; split <;> omega
  have HF := Lib.hid hfair
  have HS := Lib.hid fun i => fairS_succ n c i
  have HE := Lib.hid (fairS_end n c (by omega))
  have HSL := Lib.hid fun i (h : i ≤ n) => fairS_le n c i (by omega) h
  have HLN := Lib.hid hl1
  have HLN2 := Lib.hid hl2
  have HR := Lib.hid R1
  have HX1 := Lib.hid X1
  have HX2 := Lib.hid X2
  have HCN := Lib.hid hcn
  have HQ1 := Lib.hid hq1
  have HQ2 := Lib.hid hq2
  have HQ3 := Lib.hid hq3
  have HQ0 := Lib.hid hq0
  have hn0 : ¬ (n : Int) = 0 := by omega
  clear hl1 hl2 R1 X1 X2 hcn hq hfair hq0 hq1 hq2 hq3 b0 b1 b2
  go_enter Try.func11, Try.ntmps11
  go_wp2_with fail
  refine (HR.out _).mono ?_
  intro e w1 hh
  obtain ⟨A1, cap1, rfl, hs, hb⟩ := hh.at_ (n := c) HLN.out
  have S1 := Lib.hid hs
  have B1 := Lib.hid hb
  clear hs hb hh
  simp only [hcw', hkw']
  clear hcw' hkw' hnw hnw2
  go_wp2_with fail
  refine (turn_Counts (n : Int) (by omega) (by omega) S1.out (Nat.le_refl _)).mono ?_
  intro e w2 hh
  rw [HCN.out] at hh
  obtain ⟨A2, cap2, rfl, hs, hb⟩ := hh.at_ (n := n) (by simp)
  have S2 := Lib.hid hs
  have B2 := Lib.hid (B1.out.trans (hb.mono B1.out.size))
  clear hs hb hh S1
  go_wp2_with fail
  refine (told07 _).mono ?_
  rintro e w3 ⟨rfl, hb⟩
  have B3 := Lib.hid (B2.out.trans (hb.mono B2.out.size))
  have S3 := Lib.hid (S2.out.below hb)
  clear hb S2
  have hnn : ((n : Int) != (n : Int)) = false := by simp
  go_wp2
  clear hnn
  go_loopw [10, 11] (fun s i wr => ∃ k : Nat, k ≤ n ∧ i = .int .i64 k ∧ s = .int .i64 ((fairS n c k : Nat) : Int) ∧ ∃ m, wr = w3.drewN m) (fun _ i _ => n - (intOf i).toNat)
  case atStart => exact ⟨0, by omega, rfl, by simp [fairS], 0, rfl⟩
  case round =>
    obtain ⟨k, hk, rfl, rfl, m, rfl⟩ := hrel
    by_cases hlt : k < n
    · have g0 : (0 : Int) ≤ (k : Int) := Int.natCast_nonneg _
      have g1 : (k : Int) < (n : Int) := by omega
      obtain ⟨b, off, cap', hv, h1, h2, h3, hcell⟩ := S3.out.at_ (show 0 < n by omega)
      injection hv with e1 _ e2
      subst e1 e2
      have hx := kv_getElem? .i64 ((List.range n).map fun (w : Nat) => ((fairN n c w : Nat) : Int)) k (by simpa using hlt)
      have hck := (hcell k (by omega)).trans hx
      have hxv : ((List.range n).map fun (w : Nat) => ((fairN n c w : Nat) : Int)).getD k 0 = ((fairN n c k : Nat) : Int) := by
        simp [List.getD_eq_getElem?_getD, hlt]
      rw [hxv] at hck
      have HS1 := Lib.hid (HS.out k)
      have hfk := HF.out k
      have hle1 := HSL.out k (by omega)
      have hle2 := HSL.out (k + 1) (by omega)
      unfold maxLen at h2
      clear hcell hx hxv HS HE HF HSL S3
      generalize fairN n c k = x at *
      have hadd : ((fairS n c (k + 1) : Nat) : Int) = ((fairS n c k : Nat) : Int) + (x : Int) := by rw [HS1.out]; simp
      have HADD := Lib.hid hadd
      generalize fairS n c k = s at *
      have hw : IntKind.i64.wrap ((s : Int) + (x : Int)) = (s : Int) + (x : Int) := IntWalk.i64_in _ (by omega)
      clear hadd HS1
      rcases hfk with rfl | rfl
      · have hd1 : ((x : Int) != (x : Int)) = false := by simp
        have hq0 := HQ0.out
        have hq1 := HQ1.out
        have hq2 := HQ2.out
        have hq3 := HQ3.out
        go_wp2_with fail
        go_quiet (fail)
        clear hq0 hq1 hq2 hq3 hw
        go_wp2
        go_roundw
        case rel => exact ⟨k + 1, by omega, by go_num, by rw [HADD.out], _, (by first | rfl | exact World.drewN_drewN _ _ _)⟩
        case measure => simp [intOf]; omega
      · have hc1 : ((q + 1 : Nat) : Int) = (q : Int) + 1 := by simp
        rw [hc1] at hck hw
        have HADD2 := Lib.hid (show ((fairS n c (k + 1) : Nat) : Int) = (s : Int) + ((q : Int) + 1) by rw [HADD.out, hc1])
        have hd1 : ((q : Int) + 1 != (q : Int)) = true := by simp; omega
        have hd2 : ((q : Int) + 1 != (q : Int) + 1) = false := by simp
        clear HADD hc1
        have hq0 := HQ0.out
        have hq1 := HQ1.out
        have hq2 := HQ2.out
        have hq3 := HQ3.out
        go_wp2_with fail
        go_quiet (fail)
        clear hq0 hq1 hq2 hq3 hw
        go_wp2
        go_roundw
        case rel => exact ⟨k + 1, by omega, by go_num, by rw [HADD2.out], _, (by first | rfl | exact World.drewN_drewN _ _ _)⟩
        case measure => simp [intOf]; omega
    · have : k = n := by omega
      subst this
      rw [HE.out]
      go_wp2_with fail
      refine (HX2.out _).mono ?_
      intro e w5 hh
      obtain ⟨A5, cap5, rfl, hs, hb⟩ := hh.at_ (n := c) HLN2.out
      have S5 := Lib.hid hs
      have B5 := Lib.hid ((below_drewN B3.out m).trans (hb.mono B3.out.size))
      clear hs hb hh
      go_wp2_with fail
      refine (HX1.out _).mono ?_
      intro e w6 hh
      obtain ⟨A6, cap6, rfl, hs, hb⟩ := hh.at_ (n := c) HLN2.out
      have S6 := Lib.hid hs
      have B6 := Lib.hid (B5.out.trans (hb.mono B5.out.size))
      have S56 := Lib.hid (S5.out.below hb)
      clear hs hb hh
      go_wp2_with fail
      refine (law3_IntsEq S56.out S6.out).mono ?_
      rintro e w7 ⟨rfl, n7, rfl⟩
      go_wp2
      go_ret
      exact ⟨by simp, below_drewN B6.out _⟩

set_option maxRecDepth 100000 in
/-- What the walk gives, for every argument: the row's own words. -/
theorem contract (H : Type) (enc : TypeId × Value → H) (W : World) (base : Nat) (args : Array Value) (ds gs : List (DataW H)) (before : List MemPlace)
    (hval : ∀ (j : Nat) t v, Try.f11.params[j]? = some t → args[j]? = some v → Value.okWide Try.prog W .any base t v)
    (hW : DataW.Whole enc Try.prog Try.f11.params.toList Rows.turnFairSpec.vars false W args.toList ds gs before) :
    Calls Try.prog 11 args W fun e W' => ∃ v, e = .returned v ∧ Rows.turnFairSpec.post enc Try.prog Try.f11 false true false false W args v W' := by
  have hW' := hW
  obtain ⟨p, q, hA0, hV, rfl, hfz, hnd⟩ := hW
  have hA : DataW.TrodAll enc Try.prog W 0 (fun _ => true) true Try.f11.params.toList args.toList ds p := hA0
  rw [Try.params11] at hA hval
  obtain ⟨v0, vs0, d0, ds0, p0, q0, hargs, rfl, rfl, h0, r0⟩ := trodAll_cons hA
  obtain ⟨v1, vs1, d1, ds1, p1, q1, rfl, rfl, rfl, h1, r1⟩ := trodAll_cons r0
  obtain ⟨v2, vs2, d2, ds2, p2, q2, rfl, rfl, rfl, h2, r2⟩ := trodAll_cons r1
  obtain ⟨rfl, rfl, rfl⟩ := trodAll_nil r2
  obtain rfl : args = #[v0, v1, v2] := by cases args; simp_all
  obtain ⟨a0, rfl, b0⟩ := open_i64 Try.underlying3 (hval 0 3 v0 rfl rfl) h0
  obtain ⟨a1, rfl, b1⟩ := open_i64 Try.underlying3 (hval 1 3 v1 rfl rfl) h1
  obtain ⟨a2, rfl, b2⟩ := open_u64 Try.underlying23 (hval 2 23 v2 rfl rfl) h2
  refine (walk W a0 b0 a1 b1 a2 b2).mono fun e W' ⟨he, hb⟩ => ?_
  subst he
  exact close_true (by kernel_rfl) Try.underlying4 (by kernel_rfl) (by kernel_rfl) rfl rfl hW' hb

set_option maxRecDepth 100000 in
theorem lifted (os : Os) (started : os.Started) (H : Type) (enc : TypeId × Value → H) :
    ReturnsInHanded {} Try.checked os 11 .any (Rows.turnFairSpec.pre6 enc Try.prog Try.f11 Rows.turnFairRow.domain false) (Rows.turnFairSpec.post enc Try.prog Try.f11 false true false false) := by
  refine returnsInHanded_of_change (C := Try.checked) own started (by kernel_rfl) Try.func11
    (ChangeSpec.witness6 (enc := enc) (C := Try.checked) false ⟨#[], #[.int .i64 0, .int .i64 0, .int .u64 0], []⟩ 8 (by kernel_rfl) (by kernel_rfl) (by kernel_rfl) (by kernel_rfl)) ?_
  intro W base args ds gs before hval hW _ _
  exact contract H enc W base args ds gs before hval hW

theorem proved : Rows.TurnFairSaid :=
  OpenClaim.holds_of_wide 11 Try.f11 rfl rfl rfl rfl rfl rfl rfl ⟨rfl, rfl, rfl, rfl, rfl⟩ rfl rfl rfl rfl rfl (by kernel_rfl) Try.func11 (by kernel_rfl)
    (of_decide_eq_true (by kernel_rfl)) (by unfold Func.isWrapper; first | (rw [if_pos (by decide +kernel)]; kernel_rfl) | (rw [if_neg (by decide +kernel)]; exact ⟨rfl, rfl⟩))
    (fun os started H enc _ => lifted os started H enc)
#print axioms proved
end Go.Proofs.Ythamjkccljhhcab.turnFair
